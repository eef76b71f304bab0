import PyProof.Rows.All
import KE.BitLaws
import KE.KDictList
import KE.KDictOf
import KE.KMinKey
import KE.KRevIter
import KE.KSortTupG
import KE.KTupSum
import KE.OsGo
import KE.OsHead
import KE.OsShapes
import KE.SpHead
import Open.SpecLaws
import OpenK.AllK
import PyProof.DictRoadsH
import PyProof.EqAt
import PyProof.EqKinds
import PyProof.TupleCall
import PyProof.TupleKey
import PySem.Challenge.RW_turnedcards_s01_answers
import PyVbcjac
import VbcjacSpec
import Wide.All
import Wide.FinOn
set_option Elab.async false
set_option linter.all false
structure HdKp (p:Prop):Prop where
 o:p
def HdKz {P:Prop}(_:P){α:Type}(d:α):α:=d
theorem HdZd {P:Prop}(z:P){α β:Type}{o:Option (α×β)}{d:α}{k:β}(h:o=some (d,k)):o=some (HdKz z d,k):=h
section
set_option hygiene false in
local macro_rules|`(tactic|rfl)=>`(tactic|first|exact HdZd z (by eq_refl)|exact HdZd z rfl)
open PySem PySem.W PyProof.Rows in
set_option maxRecDepth 100000 in
set_option maxHeartbeats 0 in
def hd0 : {p : Prop // HdKp p → PySem.Challenge.rw_turnedcards_s01_answers.Holds} := ⟨_, fun z => by
  w_on; k_headS; (case hw => exact ⟨[.list [.int 1]], by decide +kernel, by decide +kernel⟩)
  k_fillS; unfold HdKz; exact z.o⟩
end
set_option maxRecDepth 100000
open Array renaming length_toList->xU,getElem?_toList->D9,forIn_toList->asR,toList->asY,mem_toList_iff->aQD,getElem?_eq_none->aRt
open Bool renaming and_eq_true->dJ,eq_false_iff->ig,false_ne_true->iA,eq_iff_iff->jk,or_eq_true->mN,false_eq_true->mO,noConfusion->uO,false_and->wx,not_eq_true'->xM,or_eq_false_iff->xP,true_and->Bx,not_true->Bz,not_eq_true->KJ,not_eq_false'->age,bne_assoc->asn,false_or->asG,not_false->asS,or_false->aQX,and_false->aQ3,true_or->aRk,and_eq_true_iff->aRQ,and_true->aSq
open Char renaming toNat->aPR
open Classical renaming byContradiction->aso,choose->aTF,choose_spec->aTG
open Decidable renaming not_not->aSh
open Eq renaming symm->LA
open Except renaming ok->aTI
open False renaming elim->l5
open ForInStep renaming yield->afQ
open Function renaming comp->DC
open Iff renaming rfl->Dx
open Int renaming ofNat->cY,toNat->oA,natCast_emod->zx,natCast_add->GO,natCast_mul->Lv,natCast_ediv->QL,toNat_natCast->afH,zero_add->af7,eq_ofNat_of_zero_le->agj,natAbs->asA,le_antisymm->aPK,fdiv_eq_ediv_of_nonneg->aQC,toNat_of_nonneg->aSy
open List renaming length_map->au,getElem?_map->be,mem_map->bf,map_append->bh,range->br,mem_append->bz,map_map->bC,getElem?_eq_getElem->bX,map_cons->cb,mem_singleton->cz,length_cons->cX,mem_of_getElem?->cZ,mem_cons->de,length_append->dj,getD_eq_getElem?_getD->dy,length_take->eD,append_assoc->eM,size_toArray->eZ,getElem?_eq_some_iff->fk,mem_cons_of_mem->f6,append_nil->gk,take_length->gn,contains_iff_mem->gA,mem_filter->gR,sum_cons->ij,length_drop->ik,map_congr_left->iz,getElem_map->iI,all_eq_true->iR,mem_range->ja,mem_flatMap->jT,length_reverse->jU,filter_cons->kf,reverse_cons->kJ,length_range->lu,length->lz,getElem_of_mem->lX,filter_eq_self->l4,nodup_cons->mJ,drop_zero->mM,mem_cons_self->mP,getElem?_eq_none->ny,nodup_iff_pairwise_ne->oy,pairwise_iff_getElem->oZ,getElem_range->o0,length_eq_zero_iff->o5,find?_cons->o7,length_filter_le->o8,replicate->qm,map_id->qX,range_succ->qY,mem_append_right->qZ,not_mem_nil->rg,take_succ->rA,flatten_cons->sO,ext_getElem->uC,getElem_mem->uF,getElem?_append_right->uG,length_singleton->uJ,drop_eq_getElem_cons->v_,drop_eq_nil_of_le->wb,find?_eq_none->we,map_set->wj,map_drop->wm,map_take->wo,any_cons->wu,map_nil->xG,mem_append_left->xH,pairwise_map->xI,getElem?_range->xK,filter_sublist->xN,foldl_cons->zo,length_pos_iff->zp,mem_of_find?_eq_some->zq,length_set->zw,mem_of_mem_take->Bm,mem_reverse->Bn,take_of_length_le->Bo,flatMap_cons->Bq,nil_append->Bt,getLast?_eq_some_iff->Bu,zipWith->Bv,all_map->BG,nodup_append->Du,sum_append->Dv,foldl_append->DB,getElem?_reverse->DE,take_append_drop->DF,take_zero->DG,isEmpty_iff->DJ,getLast?_eq_none_iff->DM,lookup->DW,find?_map->Eg,find?_some->Gd,take_add_one->Gj,mem_eraseDups->Gp,filter_map->Gq,drop_drop->Gr,lookup_cons->GJ,range_succ_eq_map->KG,getElem?_drop->KH,exists_mem_of_ne_nil->KL,getD_cons_succ->KQ,map_reverse->KR,cons_append->KS,dropLast_concat->KY,replicate_succ->Lf,length_zipIdx->Lp,flatMap_append->PY,any_eq_true->PZ,ext_getElem?->P0,zip_cons_cons->P7,filter_congr->P9,all_cons->P_,getElem?_set_ne->Qb,length_nil->Qw,nodup_nil->QB,length_flatMap->aeX,getElem?_set->ae0,getElem?_append_left->ae2,exists_mem_of_length_pos->ae8,length_eraseIdx->ae9,getElem?_cons_succ->afc,mem_of_getLast?->afd,length_zip->afe,filter_cons_of_neg->aff,filter_cons_of_pos->afg,mem_of_mem_drop->afh,map_eq_nil_iff->afj,reverse_perm->afk,flatten_append->afl,filterMap_cons->afv,getElem?_set_self->afw,any_map->afM,toList_toArray->afW,filter_append->af2,map_singleton->aga,mk_mem_zipIdx_iff_getElem?->asp,pairwise_flatMap->asq,foldr_cons->asr,perm_ext_iff_of_nodup->asu,getElem_append->asv,getElem_drop->asw,getElem_take->asx,drop_length->asB,perm_append_comm->asD,findIdx_le_length->asE,zipIdx_cons->asF,pairwise_cons->asH,any_eq_false->asI,mem_or_eq_of_mem_set->asL,getElem_reverse->asM,reverse->asN,dropLast_sublist->asP,length_dropLast->asQ,of_mem_zip->as_,foldl->atu,getElem?_cons_zero->atF,filterMap_map->atH,length_tail->atJ,map->atN,find?_isSome->atQ,append_inj'->atR,drop_eq_nil_iff->auh,findIdx_eq->aPH,perm_cons_erase->aPJ,getElem?_take->aPM,dropLast_concat_getLast->aPS,reverse_append->aPU,getElem?_zipIdx->aPV,mem_zipIdx_iff_getElem?->aPY,pairwise_append->aPZ,findIdx_getElem->aP0,set_cons_succ->aP1,length_zipWith->aP3,not_of_lt_findIdx->aP5,nodup_range->aP6,filter_nil->aP7,mem_filterMap->aQz,eraseIdxIfInBounds_toArray->aQ9,forIn_nil->aRf,getElem?_zip_eq_some->aRW,takeWhile_cons->aRZ,map_dropLast->aSj,getLastD_eq_getLast?->aSk,reverse_reverse->aSp,find?_append->aSC
open List.Nodup renaming sublist->aTH
open List.Pairwise renaming imp_of_mem->aeW
open List.Perm renaming append_right->aP4,append_left->aTJ,cons->aTK
open List.cons renaming inj->atU,injEq->aTP
open Nat renaming le_refl->bo,zero_le->b9,le_trans->cU,lt_or_ge->dH,mod_lt->eX,mod_eq_of_lt->gU,ne_of_lt->il,le_of_lt->jb,lt_of_le_of_lt->nz,zero_add->oz,lt_of_lt_of_le->o9,mod_self->wk,min_eq_left->wv,lt_irrefl->xT,le_succ_of_le->xX,mul_comm->zv,lt_trichotomy->Bi,add_mul->Bj,add_mod_right->Bl,add_sub_cancel->By,pow_succ->Dz,add_assoc->DD,mul_le_mul_right->DL,min_le_right->Ed,mul_le_mul->Ge,sub_zero->Gf,sub_self->Gh,mod_two_eq_zero_or_one->Gi,lcm->Gk,mod_add_mod->Go,le_succ->Gs,mul_assoc->KA,add_comm->KC,gcd->KD,add_zero->KP,succ_mul->KW,ne_of_gt->K_,le_of_eq->Lb,le_add_right->Ll,not_lt_zero->Qc,lt_succ_self->Qq,one_mul->aeY,eq_zero_or_pos->ae3,div_lt_of_lt_mul->ae5,pow_le_pow_right->ae_,lt_trans->afm,le_of_succ_le->afP,min_eq_right->af_,le_of_not_lt->asC,pow_pos->asK,lt_succ_of_lt->atx,mul_add->aPN,mul_one->aPO,div_add_mod->aPQ,add_mod_mod->aPT,le_mul_of_pos_left->aPW,log2_lt->aP9,succ_le_succ->aQ2,gcd_comm->aSg,le_total->aSi,div_div_eq_div_mul->aSl,le_antisymm->aSr
open Ne renaming symm->qj
open Option renaming isSome_map->BH,toList_some->BJ,map_some->Gm,none->afX,map_eq_some_iff->atv,getD_some->aPP,isSome_iff_exists->aQK,getD_none->aQY,isSome_some->aRi,not_isSome_iff_eq_none->aSo
open Option.some renaming inj->bZ,injEq->aRI
open Or renaming inl->ak,inr->al
open Prod renaming ext->ae1,fst->asz
open Prod.mk renaming injEq->aTQ,inj->aVY
open PyFlat renaming calls->zA,call->KZ,told->QR,played->agl,rows->aTL,row->aTM
open PyProof renaming noPylong_small->aTY,noPylong_of_log2->aVW
open PyProof.Rows renaming IntsAre->rm,kindOf->sQ,boot_abs->wC,seqObj->xW,boot_list->zG,envOfC->BF,callWith_type1->DV,AllBare->Gy,IsTup->K5,boot_sum->Lw,Call_->Ql,boot_range->Qm,Subscript_->afI,boot_sorted->af8,boot_all->af9,boot_tuple->agb,subscriptTail->atj,tail_any->atk,isTrue_and->aQp,isTrue_or->aQq,floordiv_int->aQB,subscriptTail_builtinR->aQW,sortedAll_at->aRd,sortedAll_old->aRe,wpAny_notIn_heap->aRp,get?_update_seq->aSc,lexLt->aSs,lex_true->aSt,callWith_builtin1->aUH,lt_int->aUI,sorted_ints->aU8,join_list->aVh,join_tuple->aVi
open PyProof.Rows.G renaming tupKeyC->atV,sorted_tups->aVZ,tupKindC->aV0
open PyProof.Rows.IntsAre renaming nil->aU6,cons->aU7
open PyProof.Rows.IsTup renaming new->aQV
open PySem renaming Addr->aa,Value->ah,Str->aq,Shared->aF,wpAny_bind->aV,wpAny->aX,Stmt->aY,sizeLine->a7,model->bv,Obj->bA,Expr->bM,boot_len->bO,Heap->bV,wpAny_pure->b5,World->cn,eval->cp,Program->cE,Pos->cO,starEach->dn,Around->dQ,cLine->gW,mainGlobals->iU,Env->jI,Scope->kH,backTo->kI,FuncData->lD,cellsFrom->l6,Sem->mQ,compareOp->mR,sysModules->nB,atKey->oC,wpAny_mono->qk,NameKind->ql,mem_of_lookup->rk,DictEntry->rn,wpAny_loadPart'->sR,compEnvC->uN,holding->wz,binaryOp->wA,wpAny_holding->xR,pyNext->zB,rule->zC,codeAny->zD,sliceBounds->zF,wpAny_truthy_bool->BA,tupleKind->BB,Expr->BC,wpAny_Call_Name_kw->BE,Params->BI,wpAny_forIn_list->DP,assignEach->DT,rawInt->DU,attributeBase->DX,backToKw->DY,keywordEach->DZ,bindL->D6,bindC->D7,call_meets->D8,PyData->D_,pushCells->Ea,valueAt->Eb,plainId_quiet->Ee,wpAny_specialOf->Gv,wpAny_call_entry->Gw,bootBuiltins->Gx,standAt->Gz,assign->GB,wpAny_passesOwn->GD,getMethod->GF,getItem->GH,slicePick->GI,wpAny_updateSeq->GK,tupleKeyHash->K1,wpAny_isInstance->K2,wpAny_seqItems->K3,Model->K6,CmpOp->K7,behindInMarks->K8,swapsWith->K9,sizeLine_eq->La,callWith->Lc,BindsTo->Ld,notedBy->Lj,callerA->Lo,wpAny_letGo->Lr,wpAny_ite_split->Ls,wpAny_tryCatch->Lu,wpAny_tupleItemsOf->Qh,wpAny_rule->Qi,isTrue->Qj,pyIter->Qk,Result->Qp,bindArgs->Qs,codeAny_mono->Qt,Keyword->Qu,richCompare->Qv,updateSeq->QI,codeAny_builtin->QJ,isInstance->afp,isSubtype_tuple_tuple->afq,eqIsQuiet->afs,wpAny_execs_nil->afx,setItem->afy,letOwnedTupleGo->afz,foldedSetIterable->afA,Meets->afF,data2->afG,subscripted->afJ,pushCells_keeps->afO,wpAny_newObj_type->afR,tupleKind_room_in1->afS,wpAny_dictEntries->afT,wpAny_typeNameOfWhole_keyiter->afU,wpAny_typeNameOf_keyiter->afV,storeAll->af3,sliceRange->af4,entryOfKey->asT,Within->asU,builtinsNs->asW,wpAny_Name->asX,wpAny_standAt->asZ,wpAny_pyIter_list->as0,getAttr->as1,wpAny_call->as9,concat_meets->atc,noFill_tuple_add->atd,seq_tuple_add->ate,evalPart_none->ati,seqIndex?->atl,seqIndex_of->atm,seqIndex_neg->atn,operate->ato,slot_list_getitem->atp,typeIs_str->atq,typeIs_int->atr,typeOf->ats,cellOf->atw,compPost->atz,storedH->atA,wpAny_pyIter_revIter->atC,wpAny_dictEpoch->atD,wpAny_callSpecial?_slot->atE,ItemsOf->atK,seqItems?->atM,IsTupleKey->aP_,reduceHash->aQa,wpAny_ret_mkInt->aQb,wpAny_eqBool_tuple->aQc,wpAny_richCompare_same_room->aQd,storeName->aQk,Stmt->aQl,wpAny_Compare1->aQn,wpAny_isTrue_Compare1->aQo,wpAny_execs_cons->aQr,interactive->aQs,wpAny_assign_Name->aQt,PassesOwn->aQu,IsRangeIter->aQv,small_one->aQw,rangeSize_one->aQx,call_range_2->aQy,intBits_le_64->aQA,recursionLimit->aQG,Arguments->aQL,richCompare_meets_room->aQO,typeLookup->aQS,wpAny_Slice->aQT,wpAny_getItem_list_slice->aQZ,call_list_seq->aQ0,PlainAttrs->aQ1,fitsIndex_both->aQ_,nums_intItems->aRb,preSum_eq->aRc,closureFor->aRg,newFunctionEnv->aRh,comprehension->aRj,wpAny_getItem_of->aRl,wpAny_getItem_heap->aRm,wpAny_in_of->aRn,wpAny_notIn_of->aRo,wpAny_setItem_heap->aRq,wpAny_Assign_Subscript->aRr,call_reversed_list->aRs,wpAny_pyIter_slot->aRu,wpAny_attempt->aRx,wpAny_fieldsOf->aRA,wpAny_isOneOf_keyiter->aRC,wpAny_setField->aRD,firstArgMember->aRG,wpAny_of_eq->aRH,wpAny_pyIter_keyiter->aRJ,wpAny_pyIter_enum->aRL,wpAny_pyIter_zip->aRM,call->aRV,call_meetsIn->aRY,wpAny_Dict_any->aR0,pairTrees_cons_walk->aR1,pairTrees_nil_walk->aR2,wpAny_dictSet_heap->aR3,typeLookup_type->aR8,builtinLookup_eq_fast->aR9,Fin->aSe
open PySem.Around renaming under_plainId->QK,under->as7,in1->aTO,frames_deeper->aUF
open PySem.AutoListH renaming list___mul___list_int_3->aU5
open PySem.AutoSeq1 renaming sub_tuple_tuple->aQN,sub_list_list->aR5,list_extend_list_list_0->aU0,idx_int->aVE,sub_tuple_list->aVF,sub_list_tuple->aVG
open PySem.Builtin.Builtins renaming bindParams->aSf
open PySem.Builtin.Dict renaming showsAll->aRw,dictSlotNone->aVf,pendingCount->aVA
open PySem.Builtin.Dict_items renaming ownsTuple->aRB
open PySem.Builtin.List renaming listTooLong->Lg,listExtendWith->af5,listLengthHint->aR7,listSameRef->aR_,listItems->aSb,listFitsIndex->aU4,listUpdate->aVP
open PySem.Builtin.Range renaming rangeSize->aTX
open PySem.Builtin.Tuple renaming tupleHashOf->K0,tupleItemsOf->aTN,tupleCompareSizes->aUJ
open PySem.Calls renaming spliced_cons->Qr,spliced_nil->afD,callWith_builtin->afK,evalArgs_plain->att,Name_function_global->aQm
open PySem.Challenge renaming pw_turnedcards_s01_answers->aVX
open PySem.Code renaming isFrame->as8,frames->aQH
open PySem.Data renaming seq->af0,dict->aRS
open PySem.DictEntry renaming refKey->aUn
open PySem.EqMixed renaming eq_bool_str->aT4,eq_int_str->aT6,eq_str_bool->aT8,eq_str_int->aT9,ne_bool_str->aUf,ne_int_str->aUh,ne_str_bool->aUj,ne_str_int->aUk
open PySem.EqNone renaming eq_none_none->aTZ,eq_none_bool->aT0,eq_none_int->aT1,eq_none_str->aT2,eq_bool_none->aT3,eq_int_none->aT5,eq_str_none->aT7,ne_none_none->aUa,ne_none_bool->aUb,ne_none_int->aUc,ne_none_str->aUd,ne_bool_none->aUe,ne_int_none->aUg,ne_str_none->aUi
open PySem.F renaming plainAttrs_list->dO,slot_list_append->gX,type_list_append->gY,slot_list_pop->zH,type_list_pop->zI,plain_min_loop->GL,slot_dict_keyiterator_next->Lk,slot_tuple_hash->afo,slot_tuple_eq->afr,slot_list_index->afL,slot_list_extend->agc,type_list_extend->agd,slot_tuple_lt->atb,slot_tuple_add->atf,entry_tuple_add->atg,args_tuple_add_2->ath,slot_dict_getitem->atB,entry_min_loop->atL,type_list_index->atP,entry_tuple_lt->aQP,args_tuple_lt_2->aQQ,slot_list_extend->aQ4,entry_list_extend->aQ5,args_list_extend_2->aQ6,slot_list_pop->aQ7,entry_list_pop->aQ8,slot_int_rmul->aRa,slot_dict_iter->aRv,entry_dict_keyiterator_next->aRy,args_dict_keyiterator_next_1->aRz,slot_dict_keyiterator_iter->aRK,slot_dict_get->aRX,slot_dict_len->aR4,plain_extend_loop->aSa,entry_list_index->aU9,args_list_index_2->aU_,plainAttrs_dict->aVw,type_dict_get->aVx,entry_dict_get->aVy,args_dict_get_3->aVz,entry_dict_len->aVB,args_dict_len_1->aVC,called_list->aVL,typeCall_list_1->aVM,entry_list_init->aVN,args_list_init_2->aVO,slot_list_lt->aVQ,entry_list_lt->aVR,args_list_lt_2->aVS,kind_min->aVT,plain_min->aVU,entry_min->aVV
open PySem.Heap renaming lt_size->dS,get?_push_of_some->gB,get?_push_size->jc,size_push->wB,SameBut->Gu,get?_update_self->Qy,get?_update_other->Qz
open PySem.Heap.DictOf renaming new->aVe
open PySem.Heap.IsSliceOf renaming new->aQU
open PySem.Heap.Ns renaming keeps->aVc,new->aVd
open PySem.Heap.Ns1 renaming of_empty->aUE
open PySem.Heap.SameBut renaming update->QC
open PySem.IsL renaming update->aUZ
open PySem.IsRange renaming new->aTW
open PySem.ItemsOf renaming nil->aVK
open PySem.MeetsSeq renaming list_pop_last->aU1,list_pop_at->aU2
open PySem.MeetsSeq3 renaming plain_eq_loop->af6,entry_eq_loop->aSd
open PySem.NameKind renaming free->Li,cell->aty
open PySem.Obj renaming mapSeq->nE,mapFields->aRE,data_mapFields->aRF
open PySem.P renaming str_of_int->aUm,add_list->aU3
open PySem.PassesOwn renaming never->dh
open PySem.PyData renaming eqv->Lh,eqvAll->QG,int->af1
open PySem.ReadsAll renaming nil->aVa,cons->aVb
open PySem.SeqAt renaming shaped->QA,EqAt->ata
open PySem.SeqAt.EqAt renaming int_str->aQg,str_int->aQh,int_int->aQM,same->aUM,none_bool->aUN,none_int->aUO,none_str->aUP,bool_none->aUQ,bool_bool->aUR,bool_int->aUS,bool_str->aUT,int_none->aUU,int_bool->aUV,str_none->aUW,str_bool->aUX,str_str->aUY
open PySem.Str renaming ofString->xV,join->atG,empty->aQF
open PySem.StrLaws renaming seqIndex_nonneg->aSm
open PySem.Txt renaming join->QD
open PySem.Value renaming ref->cy,none->xQ,type->xS,bool->DQ,int->K4,str->aft,isInt->aQe,isStrOf->aQf,bytes->aQi,float->aQj,notImplemented->aQR
open PySem.Value.type renaming inj->aRR
open PySem.W renaming Frag->aM,WData->jW,nsIn->oE,fnOf->rl,findIn->uL,keepIn->uM,emptyDict->BD,instObj->DR,WellAll->Ec,codeIn->Le,Codec->Lm,plainGet->Qn,isFn->Qo,Well->QE,lookIn->afB,hasDictIn->afC,callWith_K->afE,methodObj->asV,plainGet_of->as2,plainOver->as3,takerIn->as4,makesIn->as5,methodCall_KW->as6,handedIn->aQE,callWith_K0->aQI,cellsFrom_some->aQJ,WRecords->aRO,length_le_weightAllW->aRP,WalkOS->aRU,kdl_call->aR6,mg_of->aSF,hideAll->aTR,hideAll_size->aTS,hideAll_get->aTT,of_hideAll->aTU,hideAll_none->aTV,eq_bytes->aT_,ne_bytes->aUl,InstAt->aUo,get_value->aUp,findObj_own->aUq,method_fn->aUr,set_plain->aUs,osa_open->aUt,any_some->aUu,looks_clsIn->aUw,typeIn->aUy,InitBack->aUz,make_core->aUA,makes_of->aUB,looks_findIn->aUC,bind_fn->aUD,codeRec_of->aUG,ki_setAt->aUK,ki_setBack->aUL,ktu_apart->aVg,layableW_iff->aVs,os_pre_some->aVt,enter_call->aVu,ktm_sumG->aVD,kdl_dict->aVH,KdlSrc->aVI,kdl_hint_dict->aVJ,mg_none_of->aWc
open PySem.W.Codec renaming encAll->Ln,app->QF,denoteAll->afY,withinAll->aRT
open PySem.W.Looks renaming here->aUv
open PySem.W.OpenSpec renaming post_iff->aVv
open PySem.W.ReadsAllW renaming nil->aVq,cons->aVr
open PySem.W.ReadsW renaming none->aVj,bool->aVk,int->aVl,str->aVm,bytes->aVn,list->aVo,tuple->aVp
open PySem.W.WData renaming weightAll->afZ,int->aRN
open PySem.Walks renaming list->afN
open PySem.Within renaming cons->aUx
open PyVbcjac renaming whole->rh,shape->sP,answers->GV,answers_asked->aSE,calls->aWb
open String renaming toList_ofList->aTE
open Sum renaming inl->iT,inr->uK
open Sum.inl renaming inj->wy
open Sum.inr renaming inj->afu
open True renaming intro->zE
open Vbcjac renaming Hand->ax,bit->az,comp->aK,sumAt->bB,orderIn->bD,toldRow->bI,imageOf->bY,through->b8,evenIn->cf,upIn->cx,meaning->cA,Card->cQ,cutHand->cS,Grid->cV,ringForm->c_,Row->db,named->dk,sideOf->dt,Reached->dw,factorial->dE,text->dI,can->dR,sidesCount->eA,downTo->eC,ordering->eN,same->fz,truth->fL,Toks->fP,fixes->fR,exchanged->f7,fits->gm,turnHand->gK,«ints»->gZ,over_->iS,orderBad->jz,State->jA,lengthAt->jH,between->jV,chainOf->ke,reachedFrom->kF,tokens->lw,levels->lA,holds->lB,profiles->lC,tours->lY,tour->lZ,sifted->mK,parts->oB,valueOf->o_,spaced->pd,movedBy->qf,Word->qg,DEEP->qh,laid->qi,rowBy->rb,can->rw,step->rB,firstBad->sM,onto->sN,wordIn->uH,countOf->uI,completed->wg,wayHand->wq,decimal->wr,valueOf->wt,Bytes->xF,everyHand->xJ,rankOrder->xL,choices->xO,Cond->zy,ROUNDS->Bk,wordsIn->Bp,leastBy->Br,digit->Bs,folded->Bw,dealHand->Dy,levelOf->DH,leastWay->DI,foldFirst->DN,rankSides->DO,decimal->Eh,Ans->GP,orderIn->GQ,numbersOf->GR,countOf->GS,grown->Ky,missing->Kz,placeIn->KI,sidesBad->KO,twosOf->KU,Tok->Lq,movedBy->Lx,nth->Ly,alikeIn->Lz,DEEP->LB,OFTEN->P4,over->P5,readWord->P6,readCond->Qa,foldAll->Qe,alikeIn->Qg,toksFrom->QH,sidesNumber->QM,digit->QN,ofRow->QO,TEXT->QP,written->QQ,pow->aeZ,asWay->ae4,fuelOf->ae6,nextRings->ae7,cardIn->afa,condIn->afb,foldLast->afi,tame->afn,OFTEN->agf,Call->agg,wayTo->agh,sideOf->agi,groupOf->agk,sizeOf_->ass,ringOf->asy,orderAt->asJ,width->asO,rank->atO,text->atW,wayHand->atX,readWord->atY,reading->atZ,readCond->at3,orderAt->at4,holds->at5,NAMED->at6,gridOf->at7,twosOf->at8,readWords->at9,IN_GROUPS->aua,WORDS->aub,belongs->auc,SMALL->aud,back->aPI,numbersOf->aPL,numberBelow->aPX,turnedGrid->aP2,readWords->aP8,Cond->aSn,Word->aSu,asWay->aSv,through->aSw,ordering->aSx,sidesCount->aSz,foldAll->aSA,comesTo->aSB,ofCan->aV1,cutHand->aV2,Toks->aV3,parts->aV4,orderOf->aV5,rowBy->aV6,numberBelow->aV7,start->aV8,sizeOf_->aV9,fixes->aV_
open Vbcjac.Card renaming no->fK,up->kg,turned->KE
open VbcjacNeutral renaming nats->lE,nats->BK,whole60->Ei,step->GU,asked1->aue,start->auf,natural->aSD,asked->aWa
def af:=@if_neg
def ai:=@if_pos
def bq:=@decide_eq_true
def bT:=@of_decide_eq_true
def bU:=@decide_eq_true_eq
def cG:=@decide_eq_false
def dg:=@congrArg
def eW:=@beq_iff_eq
def eY:=@trivial
def iQ:=@if_true
def kh:=@decide_eq_decide
def kG:=@if_false
def l9:=@decide_eq_false_iff_not
def q_:=@beq_eq_false_iff_ne
def Ef:=@of_decide_eq_false
def P1:=@bne_iff_ne
def P8:=@beq_self_eq_true
set_option hygiene false
abbrev MTrm:=Lean.MacroM Lean.Term
abbrev MRul:=Lean.TSyntax ``Lean.Parser.Tactic.rwRule
abbrev MFun:=Lean.Term->Lean.Term->Lean.Term->Lean.Term->Lean.Term->Lean.Term->Lean.Term->Lean.Term->Lean.Term->Lean.Term->Lean.Term->Lean.Term->MRul->MRul->MRul->MRul->MRul->MRul->MRul->MRul->MRul->MRul->MRul->MRul->(Nat->Array Lean.Term)->MTrm
def mIdx(n:Lean.Name):Nat:=let s:="abcdefghijklmnopqrstuvwxyzABCDEFGHIJKLMNOPQRSTUVWXYZ0123456789_".toList;let l:=n.toString.toList;if l.all s.contains then match l with|[a]=>s.idxOf a|[a,b]=>63+63*s.idxOf a+s.idxOf b|['a',b,c]=>3339+63*s.idxOf b+s.idxOf c|_=>99999 else 99999
def mPic(l:Array MTrm)(n:Lean.Name):MTrm:=do let k:=mIdx n;if h:k/50<l.size then let e:=(<-l[k/50]).raw[1][2*(k%50)];if e.isMissing||e.getKind==``Lean.Parser.Term.hole then Lean.Macro.throwUnsupported else pure ⟨e⟩ else Lean.Macro.throwUnsupported
def mZ_0:MTrm:=`(#[_,_,_,rfl,by omega,_,_,true,_,_,_,_,_,_,List Nat,_,_,none,_,_,Prop,by simp,_,_,_,_,i+1,pv 1,λaL A outer s H vs Q E hr h=>?_,{@d,@d,@d,@aG,@d,@aG,@aG},pv 2,List V,aG n r,pv 3,(ar,H,s),List Int,false,bo _,_,_,List ah,pins,List ax,l.length,_,q.length,_,T.cl,.ref a,xs.length])
def mZ_1:MTrm:=`(#[pv 0,by decide,_,_,_,_,_,_,_,_,_,_,_,List aa,ae H H',(bg,ah),cv mg,(b9,bA),(db,i),Option V,t.length,same n,j+1,pv 4,s.heap.objs.size,s.heap,Bool,.ref p,aG n q,(u,n),Nat×@an,List α,_,left,(u,k),n-1,ai @d,.nil,Type,(·.1),bH n h,(id,@Y),bt n,List aq,z.2.1,by decide+kernel,.ref b,dc n S,V.int,.inl @d])
def mZ_2:MTrm:=`(#[(u,i),ns.length,bw t p,b9 _,m+1,n<=52,aD.toArray,by simp;omega,aq->@gz,n%2=0,k+1,bQ @kl,2<=n,λ(x:Nat)=>@ma,List dw,X.env,O.hn,dA @e,.int i,pv 5,by simp at h,(aS,@Y),kvs.length,X.prog,Blt mg,B.toBlt,base,.ref l,(J,a),af @e,x.kind,outer,bR ac,aa->@u,.ref q,ae.refl H,s.toks,rest,λ_=>@d,gu m p,List Cs,(a6,aW,V),h.length,eA n,[@ex],@al+1,(a6,Nat,@an),Nat->@an,x.2.1,O.h0])
def mZ_3:MTrm:=`(#[_,T.row,(·.2),ps.map @hw,g8 n S U,jr K C,.par,Y.heap.objs.size,name,items.size,O.isRow,x.number,at_ h i,af @aG,List Wt,ns.map @aJ,(dF,xs),(I,b),0+@aL,List bM,pv 6,jN mg,dZ h w g,even,m.length,b.length,o.length,λD hD=>?_,.ref f,az b,k<=n,(dA,2<=a7),fM o s,ae.refl _,bT hc,tokOf x,fz n,.dK kvs,λh=>?_,gK n 2,iC I q @v,(bS,x,("__debug__":aq)),I.hok,c.up,hr.mono @Z,λ_ _=>@d,(by cases h),told c,Array ah,(cR,no)])
def mZ_4:MTrm:=`(#[af Z,cS n k,I.ok.hd hc,q H' @b5,dS e,.ref @al,(J,D),List @an,Y.seq ha,λp hp=>?_,pv 7,(a8,h),step,.int 0,e9 ns,jH h i,ae H H1,(ej,cQ),.ref d,n-@aV,Gl X x,fT P w H h,items,.non,c.length,c.no,(by cases z),[@W],(a6,aq,aa),p.map @aA,zs.map @km,List Pc,(r.map @gB).sum,bQ b,cs.length,(a6,aq,V),(a6,κ,V),prog,zs.length,λz hz=>?_,bD q,(aS,@aC),.ref t,(J,l),jc _ @d,v.lev i,(bQ,St),bi xs us,by simpa using h,λe=>?_])
def mZ_5:MTrm:=`(#[r.length=n,(a6,@fw,V),RelV v u,.cell,s.length,.int n,(dA,@d7<2),(id,@E),@aJ∘told,some v,h'.get? b,I.tok _,kW k,(C,xs,x),want,(aV,hd),_,at_+1+@fu,gC r o c,(R,@iJ),(al,@d),aK g x.2,X.calm=@h,_,(as,a),aK a b,(a6,ax,@fx),X.K=K,lw t,ag H D o,PE X e te,.none,.free,ps.length,ys.length,b5 ?_,eT x,eP S i,(I,p),spelt t p @aN,(cT,q),.inl ha,restOf U 0 w,(id,@B),RelV y u,.type "tuple",(gL r q).headD 0,af @Z,.inr @d,aA hb])
def mZ_6:MTrm:=`(#[pv 8,(ej,K),(b_,@b6),dz k r,_,max k (w-k),p.length,ba.names,x.spelt,V.ref z.1,bu σ vs,(u,0),λq=>@e,.tup xs,ae H1 H',.ref C,cf p x,b≠p,Y.trans s2,(fE,bI r),600<@ah,Option aa,(dH,@A),g9 P w,bX hi,jZ q m,List jW,bX @e,iq g,.str x,List jI,(dN,h),X.env.locals,X.stack,os.length,R.hM,R.row,L.length,V.int 0,λQ' k=>?_,(P,b,o),bv @cW w,p<@ah,m.contains x,{_,@d},Option Int,(u,S),bq @d,∀c∈m,@hH,.ref it])
def mZ_7:MTrm:=`(#[o.Perm @aD,h.2.1,(bQ,@kj),(cV,D),(at_ h j).1,x.2.2,.wrong,o.data,z.2.2,X.fs,names,a.length,g.length,h.get? b,λ_=>@h,gB _ e,.dT kvs,no<=n,1<=no,aK @aF (gw n j),fo ss,kV k,(J,p),h≠[],(br,@ai,[]),W.length,lA 2000 [] [c_ q],aK @hF h,KV kvs vs,af h2,(cc,a,xs),λ_=>True,uO (show@hE from p),(bG,c),f7 r i,cs.getD 0 0,mr K C,a++b,mm K C,V->@F->@hG,restOf (U.drop i) i h,rX.nd,rY.nd,X.base,vs.length,s3.heap.objs.size,r9.nd,es.size,di @av,e::es])
def mZ_8:MTrm:=`(#[List aW,Option Nat,Hp->@u,dU zs,(ej,aW),lE ns,l4.2 @cg,(T,n),.ref D,(J,b),bB r no,.notW,m.wait,(p.headD @vN).1,I.hok.fresh @L,bY z.2 x,.sign 40,.inl h,g.map f,aj.of ha,(J,d),(db,j),(bQ,@an),eE v,WF n w,Pv i H,jV r q,λp2 b7=>?_,(dA,1<=a7),Mv H l h,(fF,@B),(r[j]).no,λb hb=>?_,.bl b,.dT [],s3.trans s4,@A%n,k _ _ @aK e,gU @e,.sign 59,Array rn,λH3 p3 s3 h3=>?_,(R,@eW),l≠[],x::l,eX _ h0,(dE,.seq @aR n),(br,@gD,[]),bY h @af,dv H ps h])
def mZ_9:MTrm:=`(#[PE X a ta,g i j,(dc,@fv)=(@K,@hJ)::@md,ks.length,k.toNat,h.objs.size,tZ.nd,I.free,I.bare,s'.heap,T.waiting,value,items2,Gen.one,x.cps.size,j.heap,Option ah,e.symm,λc=>az @ce,λ_=>?_,cA n w,.bl @h,(eT,i),by simpa using hb,vv.nd,n/2-i/2,i%2==0,.joint,l1++l2,@be="word",cB kvs k,(u,1),bq @e,.ref x,b6.stab j6,1+@aL,aH @b5 hD,(@au)[k],.dK [],λx hx=>?_,(u,w),j<r.length,(cR,@cK),bY g x.1,k H' @b5,List @p_,λi hi=>?_,.inl e,cG @e,G.map cy])
def mZ_10:MTrm:=`(#[K.In h,s2.trans s3,λJ I=>?_,m.take i,eG x,n0 hk,lP ns,by simpa using hi,i<r.length,(a6,@fA,V),(V,@iN),(af,H.len),(a6,aq,ql),{dL,@cY},cd r m,(c0,@K),(cd r m).up,@eQ=@mj,@jC+1<gW,PA X @fv t,r8 K C,ax×@o,rG n k r,PE X i ty,g9 @a8 X.w,done,V.ref,I.loc,T.move,TP.cl,S.row,b.cl,m.toNat,λhc=>?_,@K=@h,back x.2,(Y,Hp,VK),1<=c/\c<=n,.error q,(bt,e),rest.take @hC,(cU,_,@d),cx p x,bv @a8 X.w,t.drop (p+1),fL (cx p) (cf p) x,.word w,.dN kvs,i<@X,(ag,l,xs)])
def mZ_11:MTrm:=`(#[.tup ys,a.toNat,λ_ m=>absurd m rg,(u,b),(au,h),b8 G e,BL K H a t,qG n r q,b6.nil ao,(aV,h),i/@br,hc.1,ss.length,ig.2 hc,ai @e,uF _,bq h,c_ r,K.map @aA,{s with toks:=@bk+1},.int k,∀a∈A,tX h A a,_,aj.of h2,aj.of ao,tokOf @mh,zs.map @bA,BK ns,x.2.length,eX _ hn,_,fq n @pV,restOf U 0 h,lK n ks,(ce,H D),(a6,@fw,aa×ah),kY H v os,q0 H1 Y,iL r m o p,j.cells.lookup y=some c,(F,(kI pos @md).any @aA),Hp->(Y,aa,α),hk.2,(spelt t p @aN).length,o.cls,R.h0,vs.toArray,aD.toArray.size,T.told,ds.length])
def mZ_12:MTrm:=`(#[r.args,.hand,s.heap.get? b,λq=>(by cases q),λS=>@d,(bQ,Nat),cs++[@bJ],{s with heap:=h'},(aJ,@ev),Pv i σ H,Wt.par,bB q no,.Name x p,x∈@gF,signed n,P.map .op,p∈lC r m,RelV x v,.sign 41,F.length,I.tab,(af,au),aK x.2 h,n*(2*n),(Y.trans s2).trans s3,j0 m p o,(My.walk h @af t).1,λ_ _=>@lM,λc hc=>?_,aG n y,(V,@aD),ae H1 H2,bi vs us,(cr,e),u.length,hX k @hO,(dE,.seq @iD),(k4,@iD),(xs.take j).map @qA,{_,@c3,@d,@d},List aY,List iM,back h,r.map @dg,ja.1 hi,af @v,λw h=>@ch,Array @gz,.int a,J.map @aJ])
def mZ_13:MTrm:=`(#[oQ @dL,λH2 p2 s2 h2=>?_,s4.trans s5,λH4 p4 s4 h4=>?_,gr (fG,cs),V.reverse.map @Jp,by simpa using hl,by simpa using hk,A.units,(u,@bH),A.handled=@r,@R-1,by rw[e];rfl,ae H H2,i<@bq,p≠[],@R-i,(V,l),Nat×@an×@an,RelV x u,(C,X.N,x),eX _ @Z,fq n ks,(ca,i),fw k X.A,@R-@A,cs.getD 1 0,(cd q m).up,(eZ,h),b::@bl,(ar,H',s'),dC H l hs,(gL,H'),@ah-@aN,fw @aV X.A,uM K @b0=@h,wg n Bk S,(bI,no,@iS),kX H d p,{_,@d,p,CR,u,@vY},∀v,bu (kY,@dh) vs=@d6,(u,at_)+1+(W,@fu),97<=b/\b<123,nc C k H ps xs,Qx P w K mg @ba,T.wanted,T.word,p.isList,.NotIn,slice])
def mZ_14:MTrm:=`(#[p'.isList,(·<=·),L2.St,m.outer,(ek,p),λz=>@d5,(by cases e),m.steps,.type "list",R.ins,qE (K:=K),_,List cQ,Ar.nd,bf.1 hx,ps.zip us,Kp (lO p st L X) H H',λl=>l.map iS,λv Y⟨x,H1,L,G,O⟩=>?_,b.toNat,(al,?_),eX _ @e,Mv H a h,I.nodup,-1000-cY q,R.head h0,(·<·),(R,h.get? a),@au/2,(aE,hs),(P,a,o),bi xs aD,(cR,(ca,p)),Aw.nd,ng N A,h.2.2.1,ba.names.lookup y,Ax.nd,1<=@cK,(r[j]).up,vs++ka,(p.map (mh r)).headD 0,X.blk s3 H3 ba ce B,List pK,λm hm=>?_,g.map λr=>@v1,.ref S,.ref y,.int j,aA @vQ])
def mZ_15:MTrm:=`(#[mQ @an,aj.of u,.local,.dN [],pv 9,Y.seq hb,.function,ss.take i,ds.map @hw,(I,T),(bg,Unit),(af,ik),(af,eZ),(aZ,@B),(a6,aq,Nat),x::xs,@be="(",(P,a,@b9),(bU,hi),(bn,z),(bV,@cy),(fF,@Y),b8 G l,fw k A,(eW,mv),(cx,@v),PE X o td,(l2,AB h6 n),(gG,0,@d),(at_ h j).2,lZ r no,@F->@hG,(a6,κ,ah),Binds X.K fd ps ds,(ir,CX),@iR∈W,bk i++[i],mK (k8,i) i h,mq K h A,tp y.1 s,PE X b tb,pP C H d c S,(U.getD i []).length,Ap K C,False,kF n i @dJ,I.freeC x c e,wH n a k,bi ka ds,.rng 1 (@aq+1)])
def mZ_16:MTrm:=`(#[rw r q,Binds K fd ps [],48<=b/\b<58,(bH,"nothing","size",vq fz),Af CX X E,(bH,"side_of","card",Ao),ys.dropLast,I.kIn,A.in1,items2.size,pl.isList,S.words,q0.length,j.toArray,b.refusal,q.symm,this.1,x.1.no,d.toList,(bq,x),{0,@K},λ_ _ _ _ _=>ga,(dc,es),Cj.nd,(am,?_),{_,ha},gb t p @aN,b_.of ao,.dict es ep,["self"],λq=>@wg,(o.filter λy=>cx p y).length,h2.symm,gm n @A (dL,x) p,h.2.2,w'.length,Cq.nd,pR k ns,dt q no,.frz od u,_,U.length,ds[cj r],{m,@bl,e1,e2,e3,G,e5},cz.1 hx,.dK @fz,R.length,(je n @h t).2,Cu.nd,cA @T k])
def mZ_17:MTrm:=`(#[I.tuple U,.builtin id,by simp[bn],(bG,@cK),yt.nd,.Name x pos,(ah,o,x),(bI,x.1,x.2),(jE n t).2,j.names.lookup x,vs.map nY,own.map @bA,Cz.nd,.int i t,@ah<=1000,ir p2 t c,(en,tk),iX n @h,(aL,(ip,@df),(eQ,@df)),λx=>x.spelt.length,some 2,some (c z),∀i∈l,i<n,l.map @aJ,λ_ _ _=>@lM,.ref _,λb o e=>@eY,∀b∈B,@p2,V.ref a,(rel.val k).isSome_eq,∀u∈vs,rT A u,K @pK,X.outer,s.gens,Ci.nd,I.ok.above,@aM<=52,(a6,aq,ah),@be=")",@be="number",(bj,@dI),F++[r],(ap,n,@bJ),KT H kvs xs,List Row,λy hy=>?_,_,λz=>?_,λg hg=>?_,T.outer])
def mZ_18:MTrm:=`(#[(q.map @gB).sum,.inr @aK,λu hu=>?_,l.eraseIdx c,l'.map @aY,cZ hz,target,cj @dO,.int b,K.In @am,c.dropLast,ms.map @aJ,hs.seq U,My.oG @e,(dk x).eraseDups.length,(by cases x),@R+1,@cT+1,@bF+1,by cases h;rfl,(bD q).length=n,(cR,c),(aZ,@bg),(ac,z2),ag H a o,Pv 0 σ H,(dH,i+k),(bU,hj),(bU,hk),(an,H2,D,[]),α->@an,(bX,@B),(at_ h i).1,ks++[k],(c1,@R),mr K CR,mm X.K C,(bj,(ad,[])),(a6,@fA,aa×ah),Tok×Nat,q _ @fK,@aw-1-k,aj K H1 a xs,aj K H1 a (l.map c),(cd,@ez,@ec,H' b),GoodR n i S x,GoodG n g,mj j r,(eX,_,_,@d,bF @hD @hD),(a_,@e,@e)])
def mZ_19:MTrm:=`(#[aj.of (aM,Z),o.findIdx λx=>x==@fJ,zY T hz,(e2,H,s),(ae,k,ps,sp),(mz,tg),@eU=@bX,k'::w,nO @aw (i%@br),eN @zz 0 G,(sv,hl),at_ z (cj z),λa=>H a≠@r,rE @e @e,T.nodup i hi,ag H' d u,(a3,[],[]),bJ "undoing" @fE [],g x @d6 H' λI H2=>@v9,λh' M=>(al,(io,λb o hb e=>M b o hb e)),(k_,[e],@hJ),tD g a b,(cW,"is_row","numbers","size",Ck K),ag H5 @mx @J2,(D,du q hn,q),(cW,"followed","first","second",An),bJ "told" @c1 (bJ "row" (.ref r) []),CB.nd,aD.length,BV J hm,rB S @ms,(i+n-t)%n,jO H d K,Sd m p o s,zK H hf,o.findIdx λc=>c==M.1,(R,K.lookup a),(ag,a,@bN),(aE,hs.trans h4),(dh,(bK,ys,p)),PT X a tA,j.locals,ah->ah->mQ ah,∀σ H,Pv @X σ H->(dP,H),(My.walk h @af t).2,ag (ag H1 dx (.own x)) x (ad,[]),Rd j H p own s,g'.length,λx=>left.contains x.1,eC @aw 0])
def mZ_20:MTrm:=`(#[λb=>(⟨#[b]⟩:aq),(j-i).toNat,bs.getD i @K,Pv 0 (an,H1,D,[]),λQ' q=>(eX,_,_,@d,q),My.xZ l i,X.A.units,(rest.take @hC).map @aJ,Qo K @b0=@h,(F,K8 op b),@dp+1+@hC,fN t @ah 0,bJ "row" (.ref r) [],k="word"\/k="number",mj j (mj i r),(gS,c,c),rM g d k,kx H b M,(lf,(W,(mD,l))-1),b=32\/b=10,(my,"read_handling",Fb K CR),yn C H ps xs,(dU,"can_come","other",4,E3 K),Ff.nd,λk hk=>h k (by simp[hk]),bJ "row" @W (ir r t c),(gb t p @aN).number,(iv,e,n,hx),if z<0 then-z else z,(l.filter (ij,@hM,@K,@vW||(t+az @K+@mm+@dm)%2==0)).isEmpty,.dN (p++[(gE @e2,V.ref Ki)]),sV old x acc g,(nX K a).stop i H,(nX K a).go i H,(spelt t p @aN).map @aY,Nat->Hp->aa->(Y,@bh,α),(an,H6,f,(bK,yf,q3)),(nX K a).yld i H x H',l.isEmpty,o.isSome,hit.typeIs,mP ..,us.toArray,H.nos,w.params,T.cards,x.1.up,Z.symm,x.word,outer.length])
def mZ_21:MTrm:=`(#[i<=@X,(eQ,aE),(ie,"dict",.dict #[]),E6.nd,λi z H' Q _ _ q=>@co,y.2++[j],z.symm,(hz z m).1,⟨us,[]⟩,if _ then _ else _,g.reverse,az (dO,0),H' b=@r,at_ r (cj r),(g.headD []).map λ_=>[],aj.of (aV,@ev),left.length,(kX,"list_iterator",#[@bb,.int 0 0]),E9.nd,E_.nd,Profile,(·.2.1),(hz z m).2,λq'=>hb (by simp[q']),items.toList,b≠@er,(nomatch e),(dE,.seq #[]),aj.of (aV,ha),iW u F++W,dt r @cK,(@b7,@tS),lF m p,lG m p,fs.length,(g.headD []).length,λ_ _ e=>@kn,s.heap.push @pS,ns.map oA,λ_ e=>@kn,λH1 p1 Y Z=>?_,by with_unfolding_all rfl,X.env.scope,@aM%2,y.toNat,(cb,q)%2==0,eV _ _ hd,(·.spelt),λx=>[x.1,az x.2],λ(b:Nat)=>(bq,b)])
def mZ_22:MTrm:=`(#[T.size,T.refusal,cJ.length_le_of_subset js,λh=>@e,q.map @aJ,TP.nK,TP.nN,G.map @hw,λ_ _ q=>q,aj.of cH,λH2 s2 h2=>?_,@be=";",k<=1000000000000,{t,@d},(walk h @af t).1,λno=>(u,@fG),y xs q,HT.lexLt ns ms,xW "list" #[] 0,(i/dE m)%@aP,λx hx=>h x (by simp[hx]),l.filter (ij,@eb,@gJ,@mo),rH m p i x,A.depth,bJ "refusal" @cy (bJ "several" (.bl sv) (bJ "size" @dd [])),List @o,_,λz=>@e,r.map fK,λ_=>@r,λe=>@qf,l.map f,rowOf ns,l.drop @A,(dk x).eraseDups,left.eraseIdx k,(K.map @aA).Nodup,.own a,il @cp,K.lookup b,(s.heap.push @p7).objs.size,ms.length,kvs.any @wh,ss.take @A,λ_ _ _ h=>h,λt ht=>?_,GS @T,by simpa using h2,by simpa using hj,by simpa using z])
def mZ_23:MTrm:=`(#[by simpa using hu,by simpa using hv,by simp only[eZ]<;>omega,@gN=@r,(aY,g_),@aM=n,(aS,@B),(bQ,It),(aZ,cR),.int a t,(b_,wy q),restOf U 0 k,(P,a,@hR),(a6,Nat,@an×@an),@h6<=1000,spelt t p e,(df,@B),aH @b5 hp,PE X o ta,PE X o to,(bj,(ad,fs)),(c4,@wf),.int c u,@o9+1<gW,PA X es t,(je n @K t).2,nH H hi,(u,@X)-1,(bi,@Y,@E),(et,@dJ),S++[z],(a6,aW,ah),(i,@h),(cd q i).up,∀c∈dk x,@hH,(D,aI,a),rb r y.1 i,rF n r q w,(gQ,@W),aj K H b ys,@jC+2<gW,@o9+2<gW,tx.length,rJ m p 0 o,iL r m ns c,X.A.in1,α->Lq->Option α,(p.map (cZ,@eO)).sum,del H g,(le,hk)])
def mZ_24:MTrm:=`(#[TabAt H d l,λh=>h @d,["self","size","several"],T.one i hi,λi m σ H=>m=@X-i/\@pQ/\@iQ,T.cuts,start N vs,j.names.lookup n==some @db,b8 @vV (di,@vV),Ec P h vs ds,bu I vs=@d6/\tt I H2 (lY,Pv @A @xF,Pv @A H3),(x.2/w+x.2%w+az @pM+@p1)%2==0,bJ "moves" (.ref W) (bJ "refusal" @cy (bJ "several" (.bl sv) (bJ "size" @dd []))),λx=>@l9,λhe=>?_,_,HT.lev j,r.drop (di p),r.take (di p),.inr h,Option Cm,∀w∈L,@fU,λw hw=>?_,(p.map @aA).Nodup,(left.filter @ql).length,(left.filter @qm).length,left.Pairwise @kH,q'.map kg,(lH s).sum,(r.filter kg).length,en.key,(p.headD @vN).2.2,λr hr=>?_,K0 (done.map (K1 knd)),.int (lo+i),λx c e=>?_,λh' st' W=>?_,ba.names.lookup y.1,afS hu,vs.toArray.toList.map nY,t.drop p,λp3 M=>?_,λH1 Y Z=>?_,λH3 s3=>@mf,λp1 cK=>?_,λH5 p5 s5 h5=>?_,z.2.map @aA,s6.trans s7,b.headD 0,λH4 s4=>?_])
def mZ_25:MTrm:=`(#[λC=>?_,_,λhe H' R' o'=>?_,(e9 ns).length,(g'.headD []).length,by simp[bD,J.len],by cases b<;>decide,by simpa using Z,d.weight,(u,@aM),@ah+1,(r[i]).no-1,@eF-@av-1,@eV=n,(R,h.get? d),(db,(i+k)%n),(bg,@an),@dG<=a7,@cJ<=52,(af,eD),this.2,aq->Option ql,R2.ins,k<if d<=1 then w else h,dz (@aj%n) r,@jC<gW,(P,a,@eZ),(P,a,(ad,fs)),ag H p o,@X<=i,@a7<=i,(ag,l,@bB),(bV,@ao),(cb,@dq),(fF,@E),ir I t c,f7 x i,Kp (vA f ds) H H',(b1,@ak),I3.hok,iX n @K,@aM%2=1,(hz z mz).2,{@e,@e},absurd h @v,(dp,M),(k2,@Y),nH H hk,(C,ys,y),(ex,@mu)])
def mZ_26:MTrm:=`(#[(a3,S,@qi),(@hQ,p)::r,(e6,@H),(i,i%2==1),x.place,@hA=some q,(e9,@aC),Binds X.K fd ps [],@aW="blank",decide (i<k),decide (i<w-k),(fF @v0).map @aJ,_,rJ m p i o,m.want,(gU,@wv),qi w h r,α->Tok->Option α,xs.map λx=>@qk,_,[(@b8,[])],(ap,@bJ,1),ag H4 d @LE,(iB,@E),λh=>(bm,h),done @mE q,pw (cs.take j) c,(fD,@DX,Y,ao),(b3,@B,aE),(li,@gU),@br*dE i,λz:aa×@kt=>@d5,λz=>(bm,z),placeOf s 1,l.getD i d,wrong r2 q,jb (dA @aS),ym @cd M,(B,x,y),(a0,x,hx),{@d,@d,@d,@d},!(B,@be,"number"),(ns,(e4,N)),ua H u ds U,(gb t p @aN).kind,(H,c,1,@aw,0),(Q,.bl _,H,I,?_),(fM,n%2=0/\(F,Lx 0 r q)),@bY=@dc,aK @hF (back y.2)])
def mZ_27:MTrm:=`(#[H.lt _ @Lb,(pj @iV n).length,λe=>aI (cg,hp),(d::l).length,jV q @cz,EK @qv x,(A,@iE)-1,(B,bQ x,"number"),a.symm,∀a h,@kD->@e6->a≠D,I.cell x c e,b6 N A H l xs,(of,@ea::us),rV C H p cl g n r t cs,xs.reverse,wZ C k H p x,@bJ<=agf,λi=>@bK !=@af,λm l=>m*@R,placeOf Z k,show(bk,n)=n from rfl,(a::b::r).length,ED (by intro z;exact B (afj.1 z)),Loc @qv x,(hi-lo).toNat,lexLt ns ms,(r.take @fu).map @aJ,afC K C=@h,(v,k<=h),(ap,1,@aM),if@eB then _ else[],(gG,1,@d),["self","cards","top"],λ_=>([]:@kt),PI X tg iter G,(by rw[aY];cases e:zs[i]? with|none=>rw[cA]|some z=>rw[gp]),(is,"sums_of",Iz K),b8 (dz c r) (di,dz c r),((b2,@aF),@d5),(My.settle 1 @CW @CX).1,(by rw[be]at hj;cases e:zs[j]? with|none=>rw[fr]|some z=>rw[ix]),HT.mY @X 0 lo,KN H kvs xs,EY m H q x,EI n x.1 x.2,yx J n @bJ,(C,zs,z)/\y=@d5,H_ X.N @qv ba own,(oh,b,@b1),MX r ta tb])
def mZ_28:MTrm:=`(#[(oC xs k).map @bA,(gb t p @aN).spelt,(g.drop k).getD i @p4,(p,w)::P.zip vs,(bH,"kind_of","byte",IC),(dQ,"self","kind","spelt"),X.fn x=@h\/X.env.scope.names.lookup x=some @k7,(ah,zs,z)/\y=@d5,(H,@aW,"blank",[],[@mh]),ag H4 d (.dN [(gE @b8,.ref t0)]),(cW,"cut","size","number",vt cS),zs++[(q3,(@T,C3))],L b o e hx,.Compare a [op] [b] pos,((g.take k).reverse.map @ky).getD i @p4,@be="number"/\1<=@bJ/\@bJ<=n,(k5,x,j,st,st,st),.Call (.Name "reversed" p2) [e] [] q2,λw hw=>ER J D r fs w @we,∀x,afA iter @a0 x=pure x,pG @a8 X.w X.K a kvs,nh r n m T z.2,qI n m ns c z.2,⟨hp,g,d,tk,os⟩,Og P w K mg aN aB,(0,@K,@K),x.length,∀H',F H'->(ih,W @A m' H'),d.symm,EP X @P σ Q,w.length,(gC,_,_,@d,@d,@de),λc=>az (! cf p c),(au,cS n c),o.any λy=>(cS,y),C.length,{_,_,@d,hp,@hB,@l6,@d,dL,@cY},λq h=>?_,ns.tail,r.getD i [],S.length,kT X.env.cells @d3 [],st.length,I.base,I.sorted,B.sorted,z.2.2.1,bu I vs=@d6/\tt I H2 (lY,F @xF,F H3),m.Nodup,(mf,@b6)])
def mZ_29:MTrm:=`(#[rest.length,(m.map @vU).sum,λH1 Y=>@mf,by simpa using hw,(@aq+1-1).toNat,(nomatch q),λD=>(B,D.1,k),us.length,λI H2=>bu I vs=@d6/\kU I H2 (lY,F @xF,F H3),λ_=>#[v,x],x.2.2.length,x.2.1.length,aA j.symm,ae.refl H2,σ.length,I.ok.bsz,(ar,H,s'),s.drawn,(nomatch z),I.cell,nZ n sv rf W b I J tm v,{@e,@e,@e,@e},aD.toList,T.times,λq' h=>?_,pos.line,L.hok.fresh @L,λv H' y=>?_,(u,@T),Y.toks,.frz o u,(@aq-1).toNat,.dT (kZ (R'++[@fL])),(fF ns).map @aJ,ns.getD 0 0,λ_=>(al,e2),(s.headD []).map λ_=>[],(a2,n-k,(db,k+i)),R.und.1,hd σ H p,qI n m ns c,(kX,"range",#[.int lo t,.int hi u,.int 1 v]),arr.toList.length,arr.toList,λ_ h=>@fN,j.kind,yg (some u),λb ob q=>gB _ q,L.toArray,Z.symm.trans e])
def mZ_30:MTrm:=`(#[told (cd q i),R'.length,(df,@H),x≠"__name__",.seq @cH n,Kp own H H',.frz od @mA,H' D≠@r,E++(P++iW u F).map .op,GoodR n i S z,(walk h @af c).1,DR C @al,(bV,.int @ci),l6 (@fr+1) @d3 @v3,(@fM,p)::l1,k b u e Z h2 h3,fL i @bV x,hl i σ H hi p,nZ n @h @mC k u I J tm q,bJ "told" (.ref t2) (bJ "row" @W (ir r t c)),N.nodup_iff.2 (zN n),.tup (ks.map kV),λ_ _ q=>gB _ q,λH3 s3 h3=>?_,λi z H' Q A8 hs q=>?_,by first|exact ak @d|exact al @d,by rw[d];simp;omega,λy=>(ap,y,(ch,i)),@iE+j.toArray.size,λM k=>aK M (gw n k),(D,d.n3,d.cards),(dQ,"row","numbers","side"),ns.all λz=>decide (0<=z/\z<cY @T),show aD.toArray.any (oO x)=aD.any (oO x)by simp,(L,F,a::st,st),λz=>f z.1 z.2,(dQ,"cards","case","size"),c=p\/c=W\/c=v,((lC r m).filter λp=>!@hP).filter (gm n 0 @aD),{xs,xs[i],q,@mH},(qz K a b).stop i H,(qz K a b).go i H,(qz K a b).yld i H x H',(an,H4,D,acc++[y]),l.find? λy=>y.1==x,(l.map g).sum,(l.map f).sum,λno=>(no,@qy,@mt),dE @R,l.getLastD t0])
def mZ_31:MTrm:=`(#[λno Z h2=>?_,∀k∈l,k<n,.num @bJ,(left.filter λx=>(cS,x)).length,(p.filter λx=>@eO).length,∀z∈s,z<2,λq f jv g v=>?_,l.flatten.map fK,λa b ha hb=>?_,L.map (cA n),λno a b=>?_,f.ok.snoc o2,rest.drop @hC,.ref @fr,.str ⟨#[c]⟩,λb u e=>?_,j.names.lookup y.1,env.kindOf x,X.env.kindOf x,I.hok.fresh (Gs _),X.env.scope.names.lookup y,(s.heap.push @wQ).objs.size,ns.map af1,λ_ e=>@qf,.tuple ds,kvs.map λx=>kV x.1,xV "__len__",∀d∈ds,@s9<=1048576,j.heap.get? b,hs.trans h3,hs.trans eJ,s2.trans s4,λh' tk d c' hk hD g=>?_,λi z H' Q _ _ q=>(am,@co),dB G.FIRST_DIGIT,(bI q).length,r.dropLast.map @dg,λj z H' Q hz hs aI q=>?_,λH4 s4 h4=>?_,ss.drop @A,m.Pairwise @kH,(zs.map @qa).Nodup,∀p∈cs,@cO=m,s8.trans s9,Pt.map @hw,Px.map @hw,V.ref.inj (bZ e0),W.reverse.map @zX,(afu q).symm,.member ns])
def mZ_32:MTrm:=`(#[D.F.binds hb,by simp[h],by simp[fR],by simpa using hs,by simp[hx],by simpa using e,xs.all tR=@h,aue (rh c)=@h,by simp at hl;omega,by simp[R.len];omega,by simp only[eZ];omega,@vS-1,(A,min 1 @bH),(ar,H,(en,t')),i<@a7,@d4≠[],@bH<=a7,@bH/2,1<=@aM,absurd h @aG,@a7<a7,fq n (@eR++[j]),k<@p6,g8 n S (mi U z),(bS,x,("__classdict__":aq)),mK (ke n S) 0 @dt=@ai,(dh,@lY),(at_ h @i7).2,(dq,"number"),r.getD i @mb,(cR,(ca,i)),(bi,@Y,@H),Nat->Nat->@an,az (! cf z.2 c),10^@R,(xs.take @aj).map @qA,(fK,@dF),(gO,s.mc.outer.length),(gO,@aM),(cd r2 i).up,∀c∈@e3,@hH,(k6,Oo @hA),mq K @gy A,λx H' y=>?_,rm @qd ns,DI r q=some w,(io,λb o hb e=>(iA,e)),o.findIdx λx=>x==c,k b o (λz=>hc (by simp[z])) e,(p.map (cZ,!@bw)).sum])
def mZ_33:MTrm:=`(#[.dT [(eG @af,@gE)],bx (fI,_) @kz,l6 @bt @d3 @v3,@b7≠@eP,ag H T (.tup [x,y]),(iC,k.map kV),absurd @d h,cs.getD j [],by rw[<-J];rfl,i+@p6=n,(r,G5,h),iE kvs k y,(e1,@o0,1),(bD q).take i,oJ n S P U F W,ag H2 p (.ins C l @xg),ag H2 p (.ins C l @G6),{@X-@A,@e,@d,bn,p'},uH n e f d l,(gA,σ',H',s'),uH n e (f+1) d l,Br @e9 q m r,.tup [.str @dk,@c1],.tup [.str (fg v),@c1],h @P s σ H _ I hw,h @P s σ H Q I hw,fL i @bV x.1,(lp,"__init__"),b6 N jq H l xs,b6 N (b6 N jq) H l xs,(k5,x,x,s,s,s),(k5,x,q,s,s,s),@go<=a,@hC<=@wb,@bF+4,Bm (Bn.1 hx),o_ (t.take i),λx=>V.str (fg x),(walk h x t).1,(c3,apos.endLine,mG.line),S++[.op v],(fS,@am,ks),λx=>@eC&&(@eb==b),(bW,.ref mv,vw to),{[],?_,@d,@hW},(lE,@uP),(lF,λc=>[c]),∀H,Pv @X H->j H,(je n @K t).1.mc.mv,e_ P w H h a o])
def mZ_34:MTrm:=`(#[nB<@go,@iE*@gn,λus Y⟨vs,H1,L,G,O⟩=>?_,(l.take i).map f,(kN k @Dt).reverse,rm items2.toList ms,s.heap.IsList l @cH,qB (c.enc a.1),(v,@wG=@aw),(aH,W,(bK,c,mv)),(au,h.take i),⟨[@bb,@aH],[]⟩,0<=a/\a<=3,uL K @ea f=some @r,fT @a8 X.w H' h',λj=>(i/2^j)%2,∀xs,@bO->@dl,kT cells @eT acc,(My.settle @fT ss W).2,Ca @am x dx C mA,q==Li&&@wU==@la,My.Et n r (u::l'.take i),ag H3 d (ad,@xh),e++lY (W.take i) @hZ,λi h st b hb=>by rw[dv];subst e;let{o,e,c,d}:=st;exact{o,e,(lb,d)},IL K H b (bI q),Oj K C n rf,x<1\/cY @T<x,@et<LB,("size",@dd),@ce !=@qj,xs.size==ys.size,λz=>hb (by simp[z]),(a2,k,(k-1-i,b))++@wM,S.foldl (sV old x) acc,(O.good x hx).1,λh=>h.2 @d,λl m=>@R*m,decide (0<@et),decide (@av≠0),(cd @hY j).no,absurd t (by simp[dv]),λe s'=>R (.error e) s',f @mS (.int j u),∀s,step s @eP=@r,(kM m o).getLast?,(j_ c).2 hc,(I.wh w c).1,bi xs @wx,∃u,(bJ,h'.get? e)])
def mZ_35:MTrm:=`(#[{cls:=@dD,data:=.fields ps},.Name y py,(cells.lookup n).getD 0,λi m H=>m=@X-i/\@pQ/\@fV,kvs.map (lJ,y),yh @gy H,r.ret.enc (QF @iH r.f a),((t.drop p).takeWhile q).length,Ir @cd M,Tt (X:=X) hu,λq(D:List aW×V)=>(cC,q,D.1.map kV),(r.take 1).map @dg,(s2.trans s3).trans s4,Except Nat α,agk @T @l3,as3 K C=@h,as5 K C=@h,(y.2.reverse.map @zX)++[V.str (fg v)],(a6,Int,Int),(B,s.mc.want,@iI),PE X @gu tv,.tup [c z,d u],nE (λ_=>(#[]:@cj)),by intro a u hu;let{e,_,rfl}:=bf.1 hu;rfl,cT @E (cE,O,@E) @d,(aH,p1,@wI),ag H9 d @wH,(a_,@Z,@Z),gm n i @au p,(cS,x)||@hM==b,λx=>@bw==b,(ct,(bL,@c0),G.NOTHING_TOLD),∀k,k<=2->x≠@dk,decide (x>@wD),ats @mG=pure (.type "method_descriptor"),qZ _ (qZ _ (Sz hb e)),(e1,@ew,4),(e1,@T,8),0<=p/\p<=22,tu r p=@h↔@iX,(ct,(dR,(bN,zi,@B)),G.NOT_COME_TO),(bH,"sides_of_one_order","size",NM),["deck","call","numbers"],(is,"faces_up",NG K),("word",.str J),rM g @hV @kA,(My.settle 1 ss W).1,(gY,@A,@gS),(lh,∃vs,@fa/\h.DictOf @ei a vs),done (atX @T @qr) q])
def mZ_36:MTrm:=`(#[uL K @ea "__setattr__"=some (some (.builtin "object.__setattr__")),(kP n M k,b)∈C,kL r @i6 j,CF @T q @l3,(an,H4,W,[V.ref Z]),b8 r (iq,s,p),b8 r (iq,@aw,0),{_,@d,@d,_,_,@d,@d,@de,?_},.Attribute e f pos,by unfold nL;rw[bh,bh];rfl,(H,@qw,1,@r,qt (qi w h q) (oI ns)),(bZ,"add_move","move",2,Of C),oH n k cs (n6,cs) @bJ,IW C n sv rf,v=Wt.notW\/v=@bE,E'++(iq,S,i),h2 @d _ h,ss++[(fG,@iN)],e=x\/(P,e,.own x),l1++[(@hQ,p)],(cA,H1 a,fs),(bZ,"place_of","number",1,NP C),(fQ,@pZ,(d,DJ,hw)),∀j,j<i->at_ h j=@fR,(B,@ah,1)||decide ((ek,0)≠48),iB @mW {ms,@e7} l,KO m @dm o t l,h w' _ @dj V,q0 H3 p3 @i5 h3,k4 b o h hb,(@b7,@tS)::(H,@b7,@eP,[],vp xs),aua<@T\/aub<@ew,(Z,"turn",["size","number"],2,vt gK),(pZ,z,@dD),Op e1 I @d S _,(cD,1)->@aX,λy hy=>h y (f6 _ hy),show@gO=(A,1)from rfl,I.1 x.1 x.2 hx,λw hw=>h w (f6 _ hw),(d::l).all Bs,∀f,km (fs.lookup f) (mA f),So hn @e @e,KeyKind @cW w K,∀b xs,(lg,@d9,@d9),∀vs H Q E,sp vs H Q E->@fq=@dF,∀v v',bu (iG,@dh,some v') vs=@d6,(s.heap.push @qg).update @al @Bi,((nL l).map @aJ).take p,((nL l).map @aJ).drop (p+1)])
def mZ_37:MTrm:=`(#[(My.settle 1 ss W).2.tail,KZ sP (p::r)=some (c,t),@be="number"/\@bJ<=n,(an,H8,F,[]),sv=@h/\os=[],(M,to)::os,@xc++[(@iZ,p2)],(gD,(at_ z.2 x.1).1,(a7,az (bY z.2 x).2)),xW "list" #[U,P] c,(x.1,x.2 !=b),(k7,(bB q x.1+c+x.2)%2==1),if a<=1 then(u,@qo)else(u,@eV),(bZ,"settle","word",1,Oh K C),(L,@ce,-cY @cK,cY @cK),(L,(dO,x.1),-cY (fL,x.1),cY (fL,x.1)),(mi,PE (k9,cl,C) oq te),(mi,PG (k9,cl,C) tg g),(mi,Ia (k9,cl,C) M tt),(l.filter (ij,@eb,@gJ,@mo)).isEmpty,(K,ys,@dG-1,@c1),k c u hc h,show bJ f v ((k,x)::r)=(H,k,f,(k,v)::r,(k,x)::bJ f v r)from rfl,["cases","numbers","card","size"],(cW,"moved","row","move",ND K),(lH,@wc,@bW,@wc),(jE n t).1.steps,(jE n t).1.wait,Cy H d S g j,(rK,Pv @A,Pv @A),I.ok.cab x c JC hc,J.yld i H x H',(rQ lo n).stop i H,(rQ lo n).go i H,ag H2 t0 (gJ,@cy),(by induction h with|nil=>rfl|cons _ _ ih=>simp[ih]),V->@eE->@eE->@hG,(an,H3,st,(bK,ys,u)),(an,H9,W,(bK,y9,q9)),@be="("/\@et<20,O hk _ (R2.re (dx:=l) @wo g R2.hM) (cw.ofS Y o2).upd1,[.ref t0,.ref t1,.ref t2,.ref Z],(az (dt r no)+@ck/w+@ck%w)%2==@p1,I.base.keep b o e n hb hx,λx=>(s_ n S k).map λh=>@i3,λx=>(ya n U k).map λh=>@e_,P5 n F e go l,∀b∈ch,(b∈X.ex\/(gW,b))/\@qe/\(fc,c≠b)/\@Gg,[z,TI,TO,i1,i2],.Pass ⟨0,0,0,0⟩,(vh K a n).stop i H])
def mZ_38:MTrm:=`(#[(vh K a n).go i H,{m,@bl,e1,e2,e3,G,e5},(k5,"__init__",q,s,s,s),ag (ag @GW t2 @Dx) Z (bW,.int 1,1),(rQ lo n).yld i H x H',x="cut"\/x="turn"\/x="deal",(sM r x=@r/\∀q,@ap->@dM->lB q x=@h)\/∃q,sM r x=some q/\@ap/\@dM/\(e3,q)/\∀q',aG n q'->(cT,q')->(e3,q')->RB q q',(c5,hp,@V,@qD,(cs,q,m,b,U,@hz,@qJ,@d,n,@bJ,@d,@iC,R.hn,@iz,λH1 l1 Y m1=>?_)),(vh K a n).yld i H x H',(iq g).reverse,λσ' H' p'=>@zD,ys.map V.str,λH2 R2 o2=>?_,(gJ,.int 1),(k6,@T),λd hd=>cU (Tg hd) z2,∀(w:cn)(h:bV),m w h->(K @pK).In h,(t.drop p).takeWhile q,(dd _ (I2.kIn a o G)).mapOf,(xs.map λx=>@bw).map @hw,(q.map (cZ,!@bw)).sum,(r.drop 1).map @dg,(l.map f).eraseIdx i,(l.eraseIdx i).map f,My.uV (My.wN (My.uV C) U @e),(dU zs).map λx=>kV x.1,∀x∈b,x.1<@eU,∀x∈C,@il<=2985984,((xs.take j).map @mY).sum,((cw.refl H).of Y).upd1,∀q∈G,(P,q,eT (f q)),(λb xs h e=>by rw[e,hp]at h;cases h),λb o h hb _=>(aM,(D,hb,(as,h))),inr c ((jF c).1 hc),.alike @wJ (ns.getD 1 0),by intro z;rcases z with z|z|z<;>omega,(d,l,rel.val k),(d,I.ok.glob,I.mod.glob.keeps I.bk),λj hj=>absurd hj (Qc _),Jh (ig.2 hb) S q @d _,@qH++[(b5,(xs.2.map @aJ).length)],by rw[ai eh];omega,o.zipIdx.map λx=>@mM,(DT es @a0).length=n,∃x∈left,@qZ=@h/\@mo=@h,.ins C Be (yC u f),(ag,sp,x.spelt.map @qC),by rw[e1]at hl;simp at hl;omega,(aP,z.1,z.2.map @aJ),(au,(same n).take k)])
def mZ_39:MTrm:=`(#[by rw[hj];simpa using O,by rw[aQx];split<;>omega,(a3,S++@w7,iW u @h++W),(dJ,(bt,a),(sX,(gR,f v u,Q,z))),(cY,v,(bK,c,t)),{hd,@V,@bz,@d,r,_,@d,@iP,?_},{n-@A,@e,@d,bn,p'},(cd r @aw).turned (k%2==1),(L,@pE,[],_),(fH,(bo,@b2),hk),(k3,@dn,(aJ,(aV,@ev))),uN ba @xb @fr @a0,(aH,p,xs.set j v),.Subscript o i pos,bx (fI,Q) λc Y e=>?_,(aL,(bX,@Y),(b7,@w1,aE)),λa k z hp hk hz=>?_,ta σ H λx H1=>tb σ H1 λy H2=>R x y H2,aK (aj,i) (aj,j-i),λh' M=>(al,(io,λb ob hb e=>M b ob hb e)),(la,λus Y⟨vs,H1,L,r,q⟩=>{L.kIn,?_}),show cs.getD i []=c by rw[dy,Z];rfl,(d,e3,aj.of (ac,ha)),λi H' _ h=>h.1.seq U,(bW,@aH,vw o.2),(my,"read_condition",aaQ K j),{.int @dG,H,@dj,{@bk+1,(r,eZ,bG)},q},decide @JY||decide (y.1∉N),λc q=>(D,(lq,c),q),λc xs q=>(D,(lq,c),q),CF @l4 q0 @l3,(an,H6,W,L.dropLast),(iN,.bl a,t σ H Q'),(iP,bI q0,(k6,@l4)),(iT,@hF=@ai\/@hF∈F),l++(a2,i,(S+i)%n),λb o _ _ hc e _=>k b o hc e,∃x,@mL/\(F,@eC),λj y v' e1 e2 e3=>?_,Paired (λp k=>@JH) ps ks,{s with heap:=Ea @qq @d3},(dE,.seq its'.toArray z),Mv H' D ((b.take i).map (bY a)),by unfold fB;rw[qY,bh];rfl,g x @d6 H λI H2=>@sn,(bB q (cd y i).no+c+i)%2==1,∀Q':@fS,Q' a H->t σ H Q',(bZ,"rest_of","move",2,aaW C),300*(@i4-@i0)+(cF,g,k),300*(@i4-@wm)+@wl])
def mZ_40:MTrm:=`(#[LF X @e (T.fix i x hi hx),λq=>absurd (B.mpr q) iA,∀p∈l,(iQ,i,@au),I.base.tups b xs e,I.base.tups b ys h,λi h h' st k=>st.at λoi e=>k it @v oi e,(s.heap.push @pS).objs.size,.tuple [.int @aL,@cy],.tuple [.int (u,x.1),(dn,x.2)],h.imp LA (λh=>h.imp LA LA),.fold (u,h) @gX ns,((pd @ji).map @qC)++[V.int 32],es.toList.any (·.refKey),A.deeper (iS,cd),λu Y⟨x,H1,L,G,O⟩=>?_,(zs.find? λy=>y.2.1==@aF)=some z,(lk,(eq,o,m),[])=(do
  let z<-cp o X.env
  Gz apos.atName
  let(f,first)<-wz [z] (GF z m pl)
  Lc pos f first (kI pos (dn [] X.env)) (DY pos (DZ [] X.env))),(lk,(eq,o,m),@fv)=(do
  let z<-cp o X.env
  Gz apos.atName
  let(f,first)<-wz [z] (GF z m pl)
  Lc pos f first (kI pos (dn (e::es) X.env)) (DY pos (DZ [] X.env))),iX n sv {ms,{M,@dm,os}} @b7,show b∈([]:@aa)from z,({S with row:=some q},0::bI q),aj X.K H p ys\/b_ X.K H p ys,I.base.frzs b o u h,(jz n m f i @au l).2,p.1=q.1/\(cC,q.2.1,p.1.map kV)/\RelV p.2 q.2.2,(br @R).map λ(i:Nat)=>@gO+i,∀(l:@o)(r:Row),(b8 r l).length=r.length,HT.mY @oH 0 lo,Paired.snoc r {@d,hb,B},by have:(cY @cK)=(u,@cK):=rfl;omega,(aa,H2 q,a.map @aJ),(ai,N.length_eq,gq,p1),(bH,"number_of","spelt",UJ K),(bW,.int c[i],ms[i]'@e),(Z,"undone",["move"],2,T4),Ak i @cf (ab @aC ac),(jz n m f @A (dL,x) @qY).1,cG (v,¬n<@bJ),R.re (dx:=dx) @bj fO @eu,{Z,h2,λ_ h=>h,λ_ h=>@a5},(r,l_,(M k hk).len),aRE (·.setIfInBounds 1 (DU ((i:Int)+1))),(H,g,f,some u,mA g),(lh,∃xs,@nl/\h.DictOfH (BB @ei) a xs),∀z∈zs,Mv H z.1 z.2/\z.2≠[],∃k b,k<n/\(kP n @fW k,b)∈K/\w=b++[k],∀k b,k<n->(kP n @fW k,b)∈K->z5 w (b++[k]),(vk d od @fz).stop i H,(vk d od @fz).go i H,vs.toList.map nY])
def mZ_41:MTrm:=`(#[(vk d od @fz).yld i H x H',told (c.turned @h)=-@ci,λx=>(pj v n).map λy=>x::y,λy hy=>h y (by simp[hy]),@aq-@aL-(@aq/2-@aL/2),GZ (mS n) (mS n) (jJ n _),λx hx=>(h5 x hx).resolve_left @v,∀l:@J,(F,HT.lexLt l l),let⟨_,e,_⟩:=p'.isList;@cp,((ae7 l).eraseDups).filter λx=>!((old++l).contains x),λk=>(au,cS r.length k)==q,λ(k:aW)=>match k with|.inl i=>i|.inr _=>0,∀u∈y,u∈g u.1,(o.zipIdx.map λx=>@mM).getD p 0,λv hv=>(mJ.mp nd).1 (as_ hv).1,match σ with|[_,_,_,_,some (.int y)]=>y.toNat|_=>0,dB G.FIRST_LETTER,(My.jm.1 (H.nos.mem_iff.1 (a0,c,hc))).1,∀b o u,(lg,@wF,@wF),∀b ps,(P,b,.tbl ps)->∃more,(bl,b,.tbl (ps++more)),λi z H' Q _ _ k=>@g1,λi z H' Q _ hs k=>?_,z.sameBut hs (B y c e),∀a s,Q a s->Q' a s,∀i x σ H,@dl->@iQ->@Kp,∀name,afB @bG od=some (mA @bG),wB h (ie,"cell",.cell @r),∀x∈o,1<=x/\x<=n,λi z H' Q hz hs q=>?_,∀b ys,(lg,@hU,@hU),∀w' s',@wr->RelV v w'->Q w' s',∀o' F,X.H_0 d≠some (.frz o' F),∀z∈zs,Mv H' z.1 z.2,s.heap.IsRevIter I l ((u,@bH)-1),∀i x H1,(pS,@cB,Q x H1),∀p∈X.pn++@P,p.1≠b,I2.unlock e (I.nofrz hd j),((bt n).map @qS).map @aJ,(qm n @d7).map @aJ,N8 hd h (λe=>@kn),λH H' p x k _ h=>h.same (Vl k),∀(i:Nat)(z:aa×qC)(H':Hp)(Q:VK),(C,zs,z)->@d_->(gV,f z.2)->(g1,(T,(u,@aF))),((nL @au).map @aJ).eraseIdx k,q3 H4 R4 (o2.tr (cw.ofS s3 D)),r2.trans (D.trans q),λi z H' Q _ hs q=>?_,.fold @wJ (ns.getD 1 0) (ns.drop 2),by simp at hw;subst hw;decide,by unfold ve;rw[aG,@e,@e];simp,(l.map λz=>z==1)++[b]])
def mZ_42:MTrm:=`(#[λH p(x:ax×List Nat)=>kx H p x.1,(DT es @a0).findIdx? @aA=@r,(show(F,t.isEmpty)by cases t with|nil=>simp at h0|cons a b=>rfl),(C.map @aA).Nodup,(gA,σ.set i @dh,H,s'),(ad,bJ f y fs),(ab,af (show¬QP<@ah from h),hx),(Z,"have_room",@xy,1,Vx K),(bH,"named_cards","steps",Vt K),(bH,"first_changed","move",aaU),(bH,"in_decimal","number",aa5),(df,bW (ixS (K:=K)) @Y @H @cg),(bc,(lu,"sum",[@bb])),walk h (walk h x a) b,{D,_,_,(sH,(aE,(aE,@kK)))},(Z,"count_of_rows",["size"],2,Ui),λhk hn H' R' o'=>?_,(Z,"is_decimal",["spelt"],2,UM K),∀c,c∈@au↔c∈@aD/\c∉ns,@kR=some @dE/\(g6,j.kindOf y,j.kindOf y),(arr.map @bA).toList,(ax,@bB++@qK,H,hp),IsNestKey knd @am y b,(bZ,"bring_up","place",1,Uo C),if m=0 then@aw else m-1,by rw[hc,hk];decide+kernel,{ps,ht _ _ u,Paired.mapP v λ_ _ t=>ht _ _ t},ag @C4 t1 (bW,@cy,1),λi h st b hb=>by rw[dv];subst e;let{oi,e,c,dd}:=st;exact{oi,e,(lb,dd)},(gZ (L.flatMap @qB)).length=2*@ew,by simpa[ph]using h,by cases a<;>cases b<;>rfl,(bB r (o.getD p 0)+p+s)%2,(cW,"move_between","row","other",Vk K),by cases b<;>simp[sN],(jz n m f i @au l).1,k2 b o (IY m D z h) @h3,vz n @mN pZ I J y r,Ak r @cf (be,@B,g_),p.1=q.1/\qv H q.2.1 p.1/\RelV p.2 q.2.2,{@bz,@d,_,@d,r,a,q,@cz,@T,@d,@p5,(d,e3,@qh),@bI,I,@bx,@a1,λH2 s2=>@mf},q++((u,(rB S @ms).2.length)::(rB S @ms).2),∀x:aq,@w2->M x=Gx x,(d3,d,hd,@V,@bz,@d,(cm,r,@iP)),1<=@aM/\@ne/\mT ns=@h,{cls:=@dR,dict:=M,data:=.seq @gv n2,slots:=U},(u,@iE),λQ' q=>(E,_,_,(eX,@d,_,@d,q)),(iL,aoT,@E,@ak,(bi,@a4,@cv),@H),I.proc a k z (by unfold tH at hp⊢;omega) hk hz])
def mZ_43:MTrm:=`(#[{_,_,@d,@d,@aq-1,@d,@e,@e,?_},V->V->V->Hp->@fy->@u,CE @bf P w H s Q u s',g.row R O ge m eV ju @f5 h4,λz=>(B _ z).2.1 @d,jb (x.above y c (rk h)),∀x,q x=(B,bQ x,k),∀(j x:Nat)(b:Bool),@mL->(ah,s,b)->x∈m->@hM=b,λb o e=>(e0.bs b o e).1,aQu @hN X.A @a0 X.xe,by simp at hl⊢;omega,by simp at hf⊢;omega,(bJ f v fs).map @aA,by unfold tH at h;omega,∀(pins:@ae)(s:aF)(σ:St)(H:Hp)(x:V)(xs:@F)(v:ah)(us:@O)(Q:VK),@I->@iY->@c6->r x xs H Q->(d2,call @mG (v::us)),λr s'=>r=w/\(e_,r,s'),∀m:@o,@v_->(lt,@e3)->@bW<=4,∀h' tk t',(∀b o,@dr->(R,@di))->Q (.int ns.sum t') @mV,λh' tk t' hk=>{.int _,H,I.kept hk,@eD,q},∃k v,y=@e4/\@gN=some v/\Q v H2,λt' k=>{.str _,H,I.tok k,{t',@d},h},tx σ H2 λz H3=>∃k,y=@e4/\Q ((cB kvs k).getD z) H3,aSf "min" ["key","default"] 0 ⟨[],[(xV "key",@b0)]⟩,(GQ q).filter λno=>agi r2 no !=agi q no,(Qg w r).Pairwise @kH,(by induction h generalizing i with|nil=>simp at hp|cons a _ ih=>cases i with|zero=>cases hp;exact(am,a)|succ i=>exact ih hp),(je n @h t).1.moves++[(je n @h t).1.mc.mv],{c_ x,wK H,uU H h0,(Hc h0 H (wK H) (uU H h0).symm).1 hd},(Z,"sides_by_one",@xt,3,U1 K),fB i @aP=fB i m++[@qW],by rw[wP,wP n it,f.prod,L],(ar,H',{s with heap:=h',gens:=g',drawn:=d',toks:=t'}),(R,X.s_0.heap.get? b),(R,(yh h H).get? b),.inl (Q,@fz,(bG,@aF),(a_,od,(bw,ao)),(ab,IR,alo o mz)),[@bc,@fF,(J,p1),@cr,v4],{Y,@h2,@r,@r,@d},W 0 m (an,H1,D,[]),(Z,"holds_of",["steps","lies"],2,Vq K),vz n rf st I J L X,vn P w K mg @ba "Reading" C @sf 2 (aap C),DX e f @a0 @hJ=@hJ,eC @kN p++eN (iI,p+1) (p+1) (gZ,@kN),ns.isEmpty=@h\/(F,@xu)\/(@T=1/\1<@aM),O hk _ (R2.re (dx:=l) s3 m3 (My.mS n)) (o2.of s3).upd1,(ns.map @aJ).length,Nu B c ds _ L p h2,{u,sp,k2 _ _ n p1,k2 _ _ v p2,p3},oJ n S (TT++[h]) x.1 @bw @eO,atK (λi v=>(K,@cH,@bH-1-i,v)) d @bH])
def mZ_44:MTrm:=`(#[k _ o (λz=>(hf _ z).2.1 @d) N,(s9,H2 b=some @xj,@f4,.dT [(ks,z)]),(ta,@xC,@xD,@xE,@wj),(bT,p,CR,u,hp,@hB,@l6,@d,dL,@cY),λm' hm=>by let{o',xn,xo,j,r'}:=hm;rw[N]at j;cases j;exact{_,xn,xo,W,r'},∀j x,@mL->x∈m->@eb=((i+j)%2==0),[V.ref t0,V.ref t1,V.ref t2,V.ref Z],Inv (X.wish E) @P σ H s,bx (h pos @P s σ H _ I U) λus Y⟨xs,H1,L,r,z,q⟩=>{(G,r.length,z),?_},Sy X @P σ tg R,(BF j ba @al f cd).kindOf,λi v=>∃en,(C,es,en)/\@sH=v,Nf G g tt te @mQ,h.IsStrIter it ty x t i,s.heap.IsKeyIter it d i n ep,bJ "moves" (.ref W) @q1,(x,c)∈l6 @go @eT acc,.ref @bF,∀Q':@fS,Q' b H->u σ H Q',{bn,xs,xs[@X-1-i],q,@v},(e,(cs,p,CR,u,hp,@hB,@l6,@d,dL,@cY)),(bj,(ad,pf @be @tS sp @pO @bJ)),(au,(same n).drop k),(ct,(dR,(es,p,@f0,@f0,@c0)),G.NO_GRID),_,ag (ag H4 M (.dK (dU C))) M (.dK (dU (C++[(t,(c,ue,uu))]))),(h c (by simp[dk])).1,vn P w K mg @ba "Group" e (aC,"moves") 4 (aa2 K e),bJ "times" @cy (bJ "word" (.str "") (bJ "wanted" (.str "handling") (bJ "move" (.ref mv) @sp))),[@e5,@c2,(J,W),O,v4,N],x∈(mi U z).getD i [],(Z,"turned_round",["size","number","turned"],1,TD),(Z,"is_grid",["height","width","size"],1,U8),Bv (·++·) (((s.take k).reverse.map @ky).getD p @wL) ((s.drop k).getD p @wL),-(2^62)<=i/\i<2^62/\-(2^62)<=j/\j<2^62,by rw[ci,@sh];rw[ne,@xB,hs i x σ _ @qT p,{xs,q,@L}],W.item i s _ _ hg st λv h' tk hv st' kk=>?_,∃c,1<=c/\c<=n/\@w9=i/\∀t,1<=t->t<c->@qR≠i,d.params.defaults=[],{@hv++[k],c,@v,j,by simp[hb],by simp[e,DD]},(s8,N @P s2 σ H2 x y v u Q I2 J B q),λb hb=>⟨(hf b hb).2.2.2.1,(hf b hb).2.1,(hf b hb).2.2.2.2.1,(hf b hb).2.2.2.2.2⟩,(nQ n m i @au l x).isEmpty,(Ai K a).yld i H x H',∃l xs m lt,y=@bb/\(aa,H1 l,xs)/\0<@X/\NA X sp H1 xs m lt/\∀i x H2,(pS,@jb,Q x H2),rl @bG j anF body ba dV kV L pm z aL ct,(Z,"settled_by_others",["row","sides","place"],3,U3 K),λ(k:Nat)=>V.int (1+@av),λz=>(B c z).2.2.1 x c e @d,match t with|(.sign 40,p)::r=>if d=0 then .error p else(qT,uH n e f (d-1) r,match x.2 with|(.sign 41,_)::s=>(match uH n e f d s with|.error q=>@hI|.ok y=>.ok (g x.1 y.1,y.2))|s=>.error (KI e s))|_=>.error (KI e t)])
def mZ_45:MTrm:=`(#[(jz n m n 0 @aD l).2.map (iL r m (jz n m n 0 @aD l).1),∀v u s2 x y H2,(ar,H2,s2)->@iY->@dQ->R x y H2->(gR,f v u,Q,s2),bx (hc @P s σ H _ I h) λd Y⟨H1,L,O⟩=>?_,λx xs H Q=>∃a p,∃ys:@aE,x=.str a/\xs=[@ao]/\(aj X.K H p @Dv\/b_ X.K H p @Dv)/\(ys.map (·.length)).sum+@dG*@eU<=16777216/\Q (.str (QD a ys)) H,atz @hN X.A X.xe use Qf @fE @fr,hk c o @qc @qc @qc @qc q,λpins s σ H Q I q=>?_,(by
  induction r with
  |nil=>exact zE
  |@cons p q ps G h t ih=>
   let{Z,_,h2}:=h;rw[dz]
   .have F:q.1=k:=@wY;have b:oC (q::G) k=some q.2:=by simp[oC,o7,F]
    rw[tS e,b];exact h2
   rw[nl,oC (q::G) k,oC G k,by simp[oC,o7,F]]),@h6+@e8<=1000,(bx,p.1,p.2)/\(I,p.1)/\p.1≠@er/\p.1∉@eS/\∀v,p.2.data≠.cell v,{_,@d,D,_,_,@d,@d,ao,?_,(aE,(aE,@kK)),st',_,_,_,_,@d,?_,AK},(a4,(ad,ir r t c)),λj _ hj=>absurd hj @e,{@V,@bz,@d,_,@d,p,CR,u,(lN,b.move,r,mv,q,@mE,@d,@p5,fO,(d,hh.len,@a1),My.nI hh,λH2 p2 s2 ju=>?_)},hb wh @P Y σ H1 Q L O,aRU q b O m r d [] (λf vs=>aRV f vs),st.reverse.map V.bl,(df,(bi,@Y,@B)),a6 @a8 X.w X.K X.mg @fp x ps k sp,gG @a8 X.w X.K X.mg @fp C m ps k sp,vn @a8 X.w X.K X.mg @fp x C ps k sp,by refine bx (fI,_) @kz;refine bx (g8,_) λu s2⟨y,H2,I2,r2,q2⟩=>?_;exact hf v u s2 x y H2 I2 G r2 q2,{S,N,J,b',i1,i2,I,t,U,λH3 p3 o L=>{_,@d,_,_,@d,@d,{@Z,@Z},T H3 p3 o L}},⟨ok.mod,ok.kind,ok.glob,ok.blt,ok.above,ok.inj,ok.has,ok.cab,ok.hd,ok.frames,ok.stk,ok.exf,ok.bs,ok.bsz,ok.noex,ok.exfs,ok.funs,ok.frf⟩,λus Y⟨vs,H1,L,G,O⟩=>hc @P Y σ H1 vs us Q L G O,{@aO,q_.mpr (qj (il hb)),[],@ay,_,#[],0,@c3,(fg,@d),@d,@d,QB},(k0,"abcdefghijklmnopqrstuvwxyz"),ag H p (ad,@KW),ht.get' (i:=0) (x:=x) @d,(eW,aK mv (x4 tm (cA n x.1))),nZ n sv rf W mv I J tm v,xs.map λx=>@bw,xs.map λx=>cy @bw,λx=>L2.V.str (fg x),ag H a (.dK (iE kvs k v)),(bV,.int (told r[i])),(cW,"with_sides","numbers","sides",UY K),bx (fI,_) λc Y⟨H1,L,O⟩=>?_,uQ (aW,(hh.isHand v).len),absurd (aRR (Nt q).1) @Z,{d,c,a,S,ns,@d,L,ha,g},(D,hm b _ q λz=>z,q),λz:aa×@cC=>@d5,l≠@al,(H,@h1,1,@aw,0),(fM,n%2=0/\(F,qf 0 r q)),(lr,λv Y⟨x,H1,L,G,ty,O⟩=>?_),@gn<=@wb,nF (by simpa[hb.len]using hi),cU @wq @nd])
def mZ_46:MTrm:=`(#[both r ((F++[r]).take j),(bj,.tup (k.map kV)),(g2,@mO)\/@mO=some @db,(r,hp.length_eq,gq),(lA,.tup [x,y]),{o,N,by simpa using hx},λH1 p u st L X I J Y hp dM hos eI=>?_,(c3,apos.endLine,@wA),r.args.length=@dF,(bZ,"exchange","place",2,Ur C),(dU,"odd_differences","other",3,Ue K),if i<0 then-i else i,λi h h' st k=>st.at λo e=>k it @v o e,L.kept (t':=@wE) hk,.dN (kvs++[(k,v)]),(cs.take j).filter @wP,(cs.take @aj).filter @wP,(K,g,@f1-1,(u,j)+az @kU),y.1∈own.map @aA,(G,l,rel.val k),(aO,N,(bi,@Y,@B)),(aH,v,@nC),.dT (iE kvs (eG @p3) (.ref q5)),(io,λb ob hb e=>(iA,e)),by unfold jV;rw[au,J.len],(zs.find? @KK)=some z,t {D with nx:=u D} σ H,λc hc=>vV c ((oe c).1 hc),{S,.card 2 [x.1],W},(jz n m n 0 @aD L0).1,@bH=@l1,vK C (λx hx=>(J.best x hx).1) J.nodup,@a7=@fq,λx=>@pM !=(cd r2 x.2).up,λz=>.inr (Y.free z),∀z∈acc,z∈r,∃c,env.cells.lookup y.1=some c,(g++both r @nj).length,{s with toks:=@bk+nestDraws @hv},asU mA (fs.map @aA),λb o hc e=>{o,k b o hc e},(jB,aQk @a0 x u),show p∈([]:@ae)++[]from hp,(by rw[be]at hj;cases e:ps[j]? with|none=>rw[fr]|some c=>rw[ku]),(ns.map pH).map @aJ,(lJ m).filter (nh r n m λp=>@hP),g x σ H λI H2=>@CZ,by rw[dJ,bU,bU]at hc;omega,(B,s.want,@gK),ag H dx (.own x)])
def mZ_47:MTrm:=`(#[by unfold spelt;rw[eD,ik];omega,gC r y.1 ((j+i)%2),by have:=@b6;rw[au]at this;omega,(bo,40=40/\@pP<qh),λz=>hc (by rw[dJ,bU,bU];omega),(bl,d,.dT (kZ R')),by rw[<-z2];simp[yB],eC (cR,a) p++eN l (p+1) (gZ,(cR,a)),done (gK r.length 2) (au,cS r.length k),(kF n j (eP S j)).map @aA,aK (aK @cm @ca) (wq n (k'::l)),(My.settle @fT ss W).1,l.foldl (λacc x=>gens.foldl (sV old x) acc) [],(L,(lw,no),az (cx p no),0),ag H3 p (ad,yC D f),if@aU then[]else(lQ,@sl),∀c,g c->own c\/(I,c),(λy:pK=>y.1==x)∘λz=>z.2,(lU,@gu,.Subscript o i sh),Hm m @dm o (t+@b1) p,∃z∈old++r,z.1=@g0,λb o hb e=>(Y.2 b hb).trans e,λv H2=>v=@cI/\Q @gQ H2,(U.getD i []).map @aA,d.steps.updO d.n2 a @qs @qp,∀i H,@pQ->@fV->@bO,(fB i0 n).reverse.drop i,∀k,to=some k->@qP,(br,cA n x.1,(mv,tm)::@bf),vz n rf st I @dk L X,(jz n m n 0 @aD L0).2,@wl<=1+256*@wm,aK (gw n x) (fq n l),λi hi=>(b_,LW hi),cy @bt::(us++ds),[@e5,some (.str (fg x))],[(av,!@v8),(av,z.2.2.2)],λx hx=>h x (f6 _ hx),∀i∈l,f i<=g i,λh=>hb (by simp[h]),λ_ _ _ _ Z h2=>aPK Z h2,λ(i:Nat)=>((d1,@aL),g i),(l.filter λy=>(ap,y,x)).length,((l.drop @A).filter @xp).length,λno Z h2=>Es H h Z h2,by simpa[H.len]using hk,(lw t).map λx=>BP x.1,λj hj=>hl j (f6 _ hj),(br r.length).find? (λk=>DH @e9 @KB==some m),λx=>decide (x.1%2=0)])
def mZ_48:MTrm:=`(#[((BW J).filter _).length_eq,∃q,h'.get? a=some q,(nO @aw (i%@br)).length,(p.map (mh r)).all λd=>(B,d,@kW),((m.filter g).map @vU).sum,∀r∈g,r.length=w,(s.take k).reverse.map @ky,((afk _).flatten).map _,L.map λw=>back @gD,b5 (by simpa[DD]using h),(r.map @aA).Nodup,.frz @jg (.lst @mP),.frz @jh (.tup @mP),∃D,@di=some {o with slots:=D},s.heap.Ns @er m,λb ps e=>{#[],by rw[e];simp},show(rs,a)from p,L.fpOk fG (L.hok.fresh fG),(s.heap.push BD).push @w_,λb z=>absurd z (I b),aQS (.type T) "__getitem__",{s3 with heap:=Ea (s3.heap.push @pS) @d3},s2.heap.push (dE,.seq ([]:@O).toArray),λw' s3 I3 V=>⟨v,H2,I3,V,q2⟩,.dT [(eG @af,V.ref N)]])
def mT_0:MFun:=λa b c d e f g h i j k l A B C D E F G H I J K L v=>`(#[_,_,_,by rw[$A];exact$b,{_,@d,$(v 0),*},_,_,F.ok $a (λvs H Q E h=>?_) $b,_,_,_,_,_,_,a_ K $a $b $c f fd,_,_,by rw[$A,$B],_,_,($a :Int),show$a by omega,_,_,_,_,(u,(W,$a)),decide ($a=$b),(K,$a,i,$b),(d,aA $a,$b),{_,@d,$a,$b,$(v 2),*},$a=@K,by rw[<-$a];exact$b,if$a=$b then$c else$d,H $a=@r,some (.ref $a),$a[$b]?=some $c,if$a=@h then$b else$c,_,_,by rw[$A];rfl,H $a=some $b,{$a,$b,$c,@d,$d},$a=some o,_,some (.int $a),_,(nL $a).map @aJ,($a :Nat),(fC,aj.of $a)])
def mT_1:MFun:=λa b c d e f g h i j k l A B C D E F G H I J K L v=>`(#[$a->$b->@u,a6 P w K mg @ba $a $b $c $d,_,_,_,_,_,_,_,_,_,_,_,$a=some (.lst $b),by rw[$A,$B];rfl,s3 _ _ $a,.ins C dx $a,(dz,$a,f,$b,$c),by rw[$A];omega,(P,$a,.lst $b),(K,$a,j,$b),by rw[$A,$B];exact$c,power n h $a,fV K C $a,{@d,$a},{_,@d,$a},ag $a $b (.lst $c),bj $a $b $c (aZ _),decide ($a<$b),(bf,$a,[$b],$c),(gA,σ,$a,$b),s _ _ $a,_,done $a r,(u,az $a),aP (i:=$a) $b @d @xn $c,(aK,.lst $a,$b,$c),(bf,$a,[$b,$c],$d),.inr (.inr $a),by rw[$A,$B,$C],(T,(W,$a)),["self",$a],{$a,@d,$b},cF $a hD,by rw[$A],ao (H:=$a) (a:=$b) (o:=.lst $c),(an,H,$a,$b),(ae,$a,[$b,$c],$d),.inl (aj.of $a),aH (o:=$a) (ae.refl $b) $c])
def mT_2:MFun:=λa b c d e f g h i j k l A B C D E F G H I J K L v=>`(#[bN $a (aY,$b) bS,s2 _ _ $a,λxs q=>(gE,$a),aR $a @cf (ab $b ac),(aa,H' $a,$b),aw $a (ay $b),bz.2 (.inl $a),(dB,bP (K:=K),B.len,bO,$a),(bI $a).map @aJ,aR $a @cf (be,$b,$c),Y _ _ $a,(d,$a,hi),by rw[$A];simp,ay (aJ $a),cT @Y $a @d,bf.2 {$a,$b,@d},{_,aj.of $a},(br $a).map λi=>$b,{$a,.claim,$b},(P,d,$a),{_,@d,$a,$b,$c,$d,$e,_,$(v 5),*},List ($a×$b),.int (W,$a),Gen n S $a,(S,[-$a]),.inr ⟨$a,$b⟩,∃t,mg $a=some (.int $b t),cw p W v H $a,(kU,$a,Q),(aw,3,$a,$b),ab $a (ab $b ac),bg $a $b (a9 $c),(Y,$a,aF),{$a,$b,_,@d,$c,$d,$e,$f,?_},bW (cW (K:=K)) $a $b @cg,(P,p,$a),($a :Int).toNat,H' $a=some $b,hc (bq $a),some (V.int $a),if$a then _ else@r,(ae,1,[$a],$b),V.int (u,$a),{$a,@iI,$b},(gB,$a,$b,_,$c,$d),cp $a @a0,aw $a (aY,$b),($a&&$b)=@h,hs _ _ $a,s.heap.get? $a=some $b])
def mT_3:MFun:=λa b c d e f g h i j k l A B C D E F G H I J K L v=>`(#[_,jM $a $b=some $c,mg $a=@r,s4 _ _ $a,.inl ⟨$a,$b⟩,lN X @P $a $b,ag $a $b (.lst $c) $d,aw $a (aw $b $c),.inl (u,$a),(Z,$a,[$b],1,$c),(bB r $a+$b)%2,$a=some u,$a++[V.ref $b],(dC,$a,aE),(ax,[],$a,$b),(aU,$a,@aC,$b),by rw[au,$A];exact$b,(aw,2,$a,$b),(Y,$a,Hp),(bF,(aw,$a,$b,$c),$d,$e),(F,$a==$b),{_,@d,$a,$b,$c,_,_,@d,$(v 3),*},(d,H.len,$a),(gD,i,$a),.tup [$a,.int $b],(dC,$a,cR),decide ($a<=$b),gG P w K mg @ba C $a (aC,$b) $c $d,(aP,D,$a),bd fb $a aE,((bG,$a):aW),jC (be,$a,$b),(cd r $a).no,V.int (W,$a),V.int (A,$a),(de,cg,$a,$b),(em,$a,$b,$c,eQ $d,$e,$f,$g),(a6,aa,$a),by have:=$a;omega,(cd q $a).no,placeOf $a no,b_ K H $a $b,∀b o,$a->$b->(R,$c),∀xs,$a≠some @d9,iJ n $a $b=some $c,(G,e,$a),l.getD $a 0,vs=[@ao,$a]/\$b/\$c/\$d/\$e,(kR,.bl $a),h.get? a=some $a])
def mT_4:MFun:=λa b c d e f g h i j k l A B C D E F G H I J K L v=>`(#[(d,e,$a),{$a,_,@d,$b,?_},(aw,1,$a,$b),(ag,$a,xs),oE K iU $a=some (J,$b),dr (eR dO gX gY gF $a (ab $b ac)),{_,$a,@d},{$a,$b,$c,_,_,@d,$d,$e,$(v 5),*},(aL,$a,(eQ,dB $b)),aH (o:=.lst $a) $b $c,(H,$a,$b,$c,(H,$d,$e,$f,$g)),by rw[<-$a,$B],bz.2 (.inr $a),(bf,$a,(aC,$b),$c),vs=[@W,$a]/\$b/\$c/\$d/\$e,$a=some (ad,$b),some (V.ref $a),(P,$a,.tup $b),$a<@R,(aU,$a,@Y,$b),($a++[$b]).length,af (λz=>$a),cU (o8 _ _) $a,(aw,4,$a,$b),(bR,$a,$b,$c,$d,(aY,$e)),(aU,$a,@E,$b),(aO,$a,@Y),(bk,(W,$a)),(aI,$a,"deck","numbers",j7 C $b $c),{@d,_,@d,$a,$b,$c,$d,$e,$(v 5),*},aX (bv @a8 X.w) A $a Q E s,{_,@d,$a,$b,_,_,@d,@d,$(v 2),*},placeOf r $a,! m.contains $a,dR r $a=@h,{@d,@d,$a,$b,?_},H1 $a=@r,(Z,$a,[$b,$c],1,$d),λz hz=>(fD,$a,$b,ao),(an,H1,$a,$b),λx=>az $a,Q (.bl $a) H,$a<=100000,I.hok $a _ $b,($a==$b)=@h,(v,$a=n),{_,@d,$a,$b,$c,@d,_,@d,$(v 3),*},iZ X (mR $a) $b,$a<@al,iV n $a $b=some $c])
def mT_5:MFun:=λa b c d e f g h i j k l A B C D E F G H I J K L v=>`(#[by rw[$A,$B];omega,(bL,(dI,$a)),if$a then some $b else@r,($a,@K),dn $a @a0,onRow S q $a,iD $a $b $c (aZ _),bW (jo (K:=K)) $a aE @cg,(ab,be,$a),(aH,l,$a),eN @cZ 0 $a,ag $a p (ad,$b) $c,ay (cq,$a,$b),s5 _ _ $a,$a<r.length,.int (av,$a),_,(aO,$a,@B),@be≠$a,(eV,$a,$b,λi σ H'=>$c,$d,$e),.BoolOp $a $b pos,(G,$a,(a0,$b,$c)),(k0,$a)=dI $b,_,(dG,eQ $a,$b,$c,ay $d),{$a,@d,_,@d,$b,_,@d,$c,$d},pG P w K $a $b,aU P w K mg @ba a8 $a $b fd $c $d,by show$a;decide,bm $a (by rfl) $b $c (ab $d ac),(ao,cg,$a,$b),(bh,C,dx,$a,@V,$b,(el,$c)),(ie,"list",$a),aj K H a $a,d_ dh @d $a (kg,$b,$c) $d,$a%r.length,bd fU $a aE,aX (bv @a8 X.w) X.A $a $b X.xe s,(gC,$a,$b,$c,$d,@d),left.filter λy=>y !=$a,(bs,@d,$a,_,@d),fR $a i=@h,(r.getD $a @mb).up,D.nx σ $a,[$a,$b,"place",$c],ml (iY $a),jd (nV $a (oM $b)),(aL,$a,g_),(Z,$a,["row",$b],$c,$d),d_ dh @d $a (ql,$b,$c,$d,$e) $f])
def mT_6:MFun:=λa b c d e f g h i j k l A B C D E F G H I J K L v=>`(#[qy @d B.enumerate (ab $a ac),.cons $a @ay,{$a,_,_,@d,@d,$b,$c,$d,$e},(d,$a,hm),_,(.inl $a :aW),(dJ,$a,@vR),{@d,$a,C,dx,_,_,@d,$b,$(v 2),*},∀l:@o,$a,(G,H.len,$a),(G,$a,(fk.1 $b).1),(aK,.tup $a,$b,$c),(ab,dy,$a),(bR,$a,$b,$c,$d,ay $e),bd kR $a aE,iF (top 87) $a,(ba,$a,-$b),(bF,(aZ,$a),(aZ,$b),$c),(cd r $a).turned @h,(L,$a,_,_),{_,@d,$a,$b,$c,_,@d,$d,$(v 4),*},s7 _ _ $a,(im,["deck","numbers"],$a),qH C $a p cl g n G t0 $b,List (List $a),t.getD $a 0,(dA,$a<1000),(ig,[($a,$b)],$c,$d,(eS,$e,$f),$g),{s with heap:=h',toks:=$a},(gF,$a,@Y,$b),X.env.cells.lookup $a=some c,.Attribute $a $b apos,(l3,(l1,$a,$b,@vP/\∀x H',$c->$d)),aR $a @cf (ab $b (be,$c,$d)),Gen n $a h,(ae,2,[$a],$b),λσ H Q=>t σ H $a,dr (eo,$a,$b),ag H d $a,aj.of (h.1 _ _ $a),fN t $a @aN,(gH,$a,dk x),jd (tJ $a (uZ $b)),dg (λz=>$a) $b,R.wid _ $a,ItemsNest knd $a $b $c,by subst h;exact$a,(d,$a,hn),Q (a7,$a) H,(aO,$a,@H)])
def mT_7:MFun:=λa b c d e f g h i j k l A B C D E F G H I J K L v=>`(#[by rw[$A,$B];simp,iF (top 46) $a,(dI,bd fb $a $b),jP Q a.cl $a $b,(dM,.inl $a),by have:=$a;rw[$B]at this;exact this,(aI,$a,"deck","text",j7 C (λns=>$b) lP),bR (ab $a ac),@ab->$a->Q $b H',λ_ _ _ _ _=>(kg,$a,$b),U.getD $a [],(bs,$a,@d,_,@d),kQ (K:=K) (a:=$a) (xs:=$b) $c $d $e ?_ ?_,(br,$a,@bf),{$a,@d,_,_,@d,@d,$b,$c,$d},show$a by decide,Sg n U i $a,kt X $a (λxs H Q=>$b),decide ((u,$a)>$b),L2.Inv X @P σ $a $b,(F,lB $a x),(aU,$a,@B,@c0),(aI,$a,"row",$b,$c),(dB,tP,B.abs,wC,$a),b5 (b5 $a),bR (be,aE,$a),bd m_ @pR $a,EP X @P σ Q $a $b,(br n).map $a,af (λe=>$a),∀x c,(ep,x)->$a,lI n $a $b=some $c,cq {dL,(cX,ge,$a)},bx (he @P s σ H _ I h) $a,{@d,@d,$a},(ii,$a=$b,@d8,@d8),(S,0::gZ $a),ni C $a p u f ds U F,af (λq=>$a),absurd $a @v,λ_ _ _ _ _=>(ql,$a,$b,$c,$d),λσ H Q=>ta σ H λx H1=>$a,∃zs:(b9,$a),$b,(d,au,$a),X.mg $a=@r,by have:$a :=$b;omega,by show$a=_;rw[$B],(cq,@aC,$a),(dG,(k2,$a),$b,$c,$d),jP Q d.cl $a $b])
def mT_8:MFun:=λa b c d e f g h i j k l A B C D E F G H I J K L v=>`(#[jK (jb $a) hn,ag H1 d (ad,$a),(ii,(B,$a,$b)=(B,$c,$d),@d8,@d8),(gG,0,(dg,$a)),∀H',$a->(bb,H')->Q @gE H',{dx,_,_,@d,$a,@V,$b,@d,$(v 2),*},.inl {@d,_,$a},g.stay D $a (aH $b hz) $c,IL K H a $a,(bi,$a,aE),.claim k $a,by show$a=_;rw[ai $b],ha @P s σ H $a I h,aH (o:=$a) $b $c _ _ $d,$a=@X,(r.getD $a @mb).no,if$a then 1 else 0,vs=@cM/\$a/\$b/\$c/\$d,λx=>x.1==$a,λz=>@aF==$a,by show$a=_;rw[af $b],aA (du e $a),IsNestKey knd $a $b a,(k1,$a,B.list,zG,$b),Gives C d c H $a Q,yl (i:=$a) @d $b @d @d @d (own:=$c) $d (fc @d) $e $f (λ_ _ _ _ _=>$g),∃v:@ag,$a,(R,s.heap.get? $a),PE X (.Subscript $a $b pos) $c,mg $a=some (.ref $b),{$a,_,_,_,@d,@d,$b,$c,$d},(bh,@d,$a,$b,@d,_,@d),show e_ P w H h a $a from$b,(qu $a hi).2 $b,V.int (told $a),(cB kvs $a).isSome,∀(H':Hp)(p:aa),(eR,(aP,p,$a),@ao),ao (H:=H2) (a:=$a) (o:=$b),HO.lst.inj (bZ $a),λb o h hb=>(D,hb,$a),(iN (iN $a).1).1,by simpa using$a,(d,hk,$a),(d,$a,hz),(bF,$a,$b,(aY,$c)),a_ K $a $b $c f0 fd,(aO,$a,@E),g.stay D ge $a $b,(a4,.frz o $a),(kR,(a7,$a))])
def mT_9:MFun:=λa b c d e f g h i j k l A B C D E F G H I J K L v=>`(#[by have:=$a;rwa[$B]at this,by show$a=$b;rw[$C],Q (.bool $a) s,∀H',$a->$b->Q @cI H',walk h $a t,(ao,j4,$a,dB $b),(gN,(aS,$a)),{mv,.bracket $a,@bf},by rw[<-$a,<-$b,au],(gI,@iT,@fv,$a),pJ K H $a ss,(settle $a @ko @fI).1,Cd (jD hr) $a $b $c @d,(λe=>by rw[e,$A]at h;cases h),aX (bv @a8 X.w) X.A $a Q E s,∃ys,(ag,l,ys)/\@dG=$a/\$b,show e_ @a8 X.w H @am $a $b from(c2,$c,$d),Inv X @P $a $b $c,{$a,$b,_,$c,@d,@d,$d,$e,?_},{$a,$b,$c,$d,$e,@d,_,@d,?_},.tup [(a7,$a),$b],(by rw[$A]at q;cases q),i7 $a @cf $b (ab $c ac),fX (j:=$a) @d $b,∀c,c∈$a↔c∈$b,PE X (.Call $a $b [] pos) $c,.tup [$a,@cy],$a/\(∀q,$b=@hI->$c),cw p cl g H $a,(fB $a n).reverse,(ao,j4,$a,aE),decide ($a=0),vg (jD hr) $a $b @cg,X.mg x=some $a,aX @hN X.A $a $b X.xe $c,r.drop $a++r.take $b,Q (.int $a) H,ag H1 p (ad,$a),∀t,ae H' t->Q $a t,X.s_0.heap.objs.size<=$a,λQ' q=>{_,$(v 0),*},(v,(A,$a)=$b),b8 r (eC $a p),(a hk $a).1 hx,te (kY,$a) H' Q,$a=some @k7,aA (du hb $a),σ=$a/\@ab/\$b/\$c/\$d,by show@d7<$a;omega,$a=some @db\/$b=some @dE])
def mT_10:MFun:=λa b c d e f g h i j k l A B C D E F G H I J K L v=>`(#[u_ P w K tg $a [it] it (λi h=>$b),hb @P Y σ H1 $a L O,DP _ $a _ ?_ ?_ _ _ $b,$a<=@R,{_,_,@d,$a,$b},Gen.comp v $a $b,((br n).map $a).sum,∀i∈$a,i<n,($a++$b).map @aA,kl.cons R $a,.int $a @bk,λ_ H Q=>Q $a H,aj.of (bw,$a),(r,$a,H.len),bN $a (ay $b) bS,by rw[<-$a];simp,(gG,$a,(dg,$b)),(df,(gP,$a,$b)),{$a,@gK,W},∀k,k<n->$a,vs=[@ao]/\$a/\$b,(ae,1,(aC,$a),$b),show$a by rw[$B];omega,∀H',$a->@kx->Q @gE H',(cd,@ez,@ec,(dj,$a,$b,b)),te σ H λx H1=>$a,e_ @a8 X.w $a h' $b $c,(mh,(b0,$a)),(it,(V,$a)),.inl (Q,kvs,$a,.inl $b,$c),va (lo:=0) (n:=$a) (λi σ H'=>$b) $c ?_ ?_,kK.1 $a i @e,(mx,Mv H' p $a),(hs.2 b (il (o9 @cp $a))).trans $b,∀b u,(bJ,$a)->(bJ,@di),by have:=dg lz $a;simpa using this,jl $a (hr.isHand hn),jY (gM,$a) @aD,qk $a $b λ_ _ h'=>h',My.place_lt $a b1 b2,Le K aL $a=@h,tF n i S x $a R W,place_lt $a (no:=1) @e @e,{p,$a,_,@d,$b,@d,_,@d,$(v 2),*},by cases x;exact{[],$a,λa m=>absurd m @v},∀no∈m,cx p no=dt $a no/\cf p no=((cb,$b)%2==0),K.lookup f=some {oc,od,.func $a,M},{.int $a,H,@dj,@eD,q},(a5,_,@d,$a,_,_,$(v 1),*),{@d,@d,$a,$b,$c,_,@d,$d,?_}])
def mT_11:MFun:=λa b c d e f g h i j k l A B C D E F G H I J K L v=>`(#[(fJ,.lst $a,@b5,$b,$c),(dV,(dW,@Y),$a,$b,$c,$d,ay $e),(iu,["deck","text","reading"],$a),∀m,m<n->(cd $a m).no=(ca,m),10*$a+(d-48),step i $a $b _ $c $d λH4 h4=>{_,h4 _ _ $e,?_,$f,?_},My.gr n (br,M,os) (dI $a),(dB,HV @d,B.sum,Lw,$a),∀(o:@o)(s:@cs),$a,λσ H R=>ta σ H λvs H1=>$a,Ql (wU I hg hm $a (DV (la,@Ab) $b $c)),∀i σ H,@pQ->@iQ->$a,λvs H Q _=>∃(a b:aa)(r q:db)(n:Nat),(cz,@aH,@ee,@Ay,$a,$b),λvs H Q _=>∃(a:aa)(t:@o),$a,ip S g $a []=some $b,(ld,eZ,hl,$a),(mV,rW H' q $a),(br $a).foldl (λm i=>Gk m @cA) 1,DX o $a @a0 (bt,o)=(bt,o),∀c o,c≠d->c≠F->(R,H9 c)->(R,$a),aQ (K:=K) $a @d,{cls:=.type $a,data:=$b},_,gM (own:=$a) @d $b $c (fc @d) $d @mc (λ_ _ _ _ _=>$e),∃m',m'<m/\$a,show$a from kh.2 ⟨$b,$c⟩,λp=>((cS,x)||$a==$b)&&$c,(bT,d,C,dx,$(v 0),*),∀p,$a->Q @ao $b,(ay,$a,"deck","numbers",$b),_,I.turned (t':=@bk) $a f0 f1 O j Y,(ao,jL,$a,aE),(eC $a $b).take k,aU @a8 X.w X.K X.mg @fp $a k f fd ps sp,(Z,$a,["row"],2,$b),∀(H':Hp)(q:aa),(eR,(aP,q,$a),@bi),(ay,$a,"deck","text",$b),I.base.free b o $a $b $c,wX (K:=K) (a:=$a) (xs:=$b) (λi σ H'=>$c) $d $e ?_ ?_,∀b o,(R,$a)->$b,λi H'=>@d_/\$a,{C,dx,_,_,@d,$a,@V,$b,$(v 2),*},(W.2 b hb).trans $a,Ag dO zH zI Ah $a,(P,b,.tup $a),∃W:Nat->Nat->$a,(∃m,$b)/\$c,(e0,.builtin $a,$b),(gK,∀w l2,$a=.ok (w,l2)->$b,$c,nJ n e @pP $d $e q),((bu σ vs).set Y $a).set s2 $b])
def mT_12:MFun:=λa b c d e f g h i j k l A B C D E F G H I J K L v=>`(#[∀i m σ H,W i m σ H->($a/\(dP,H))\/($b/\∃N:$c,(∀σ' H',N σ' H'->(ih,W @A m' σ' H'))/\∀x H',$d->g x σ H' λI H2=>(rK,N,N)),(bD q).drop $a,∃σ' H',@zF/\$a,(W.2 _ $a).trans $b,aR $a @cf (ab $b (ab $c (be,$d,$e))),(dT,(dS,$a,$b)),∀Q':VK,Q' $a H->$b,@I->t σ H Q->(dJ,$a,$b),n_ C H d r t c $a $b,@bn/\gm n $a $b p=@h,((old++$a).map @aA).Nodup,BF j ba @al f $a,∀i x,i<n->@iU->$a,(bh,_,_,@d,$a,$b,@d),$a<=@X,(br m).map $a,bf.2 (cr,$a),hg.mono λg hg=>$a,(bt n).map $a,∀no,@e1->@e0->$a,absurd $a (xT _),(o.zip $a).map (k7,$b),wM (l:=[]) $a,∀w∈P,$a<=eE w,(h.map (cZ,$a)).sum,qk $a $b λ_ _ x=>x,aj.of (dl,$a),(($a :Int)).toNat,ao (H:=H1) (a:=$a) (o:=$b),(Y.trans s2).seq $a,zs.map λz=>$a,(vy $a).1 (i.symm.trans he),i.trans ((vy $a).2 e),by intro pins s σ H Q I h;exact$a,by cases x;exact$a,(o,"__init__",$a,$b),bN $a (dk,$b,$c) bS,(aO,$a,@aC),(bi,@aC,$a),iF (top 81) $a,gG P w K mg @ba C $a @mk $b $c,kt X (.builtin $a) $b,(dG,eQ $a,$b,$c,(aQ,$d,$e)),(eu,"row",$a),(ay,["row",$a,$b,$c,$d,$e],"row",$f,$g),(e5,$a,"other",$b),(bB r $a+c+$b)%2==1,{mv,.amount $a,@bf},nQ n m i @au cs $a,rV C H' p cl g n $a $b $c])
def mT_13:MFun:=λa b c d e f g h i j k l A B C D E F G H I J K L v=>`(#[aX @eA A $a $b (Lj @eA A env @AP) $c,if$a=0 then$b else(H,$c,1,$d,$e),{$a,$b,$c,@d,$d,$e,(af,$f),(d,$g,My.nI $h),$i},{λh=>$a,λh=>$b},(aq,@mk,"self",$a),{_,_,@d,$a,$b,$c,@d,@d,?_},(bl,p,(ad,$a)),aX M A $a Q E s,(λe=>by rw[e,$A]at this;cases this),Ij (tk:=@wE) L _ $a $b q,(br $a).flatMap λi=>$b,(br i).map $a,λz=>absurd z $a,l.find? (fO,$a),some (HO.lst $a),.inr (.inl $a),(fA $a).headD 0,∀k i,i+k=n->∀h,$a,(oK $a q).length,.tup (V,$a),{s with heap:=s.heap.push $a,toks:=$b},{s with heap:=s.heap.push $a},MZ λ_ _ _ _ _ _ _ q=>$a,(qm k $a).flatten,((bI $a).map @aJ).length,ao (H:=H3) (a:=$a) (o:=$b),Aa (Ih (jD hr) $a $b),(gZ $a).map @aJ,(d,J.len,$a),by rw[au,$A];omega,(ar,$a,{s with heap:=$b}),(ar,$a,(en,t')),(L,$a,$b,"wrong"),Kp (lO p st L X) H $a,Kp (vA f ds) H $a,gM (own:=$a) @d $b $c (fc @d) $d (m4,$e) (λ_ _ _ _ _=>$f),iF (top 112) $a,iC I q (dg not $a),[V.ref p,V.int $a],ni C H' p u f ds $a $b,by unfold done;rw[au,$A],iZ X (wA .Add) $a,iZ X (wA $a) (rI $b λi j=>.int $c),(il,@dK,(aH,p,$a)),λe=>hc ((N c).2 $a),(ix,X.base.get? b,$a),PE X @mK (tC $a),{@d,$a,$b,_,_,@d,@d,$c,$(v 3),*},vn P w K mg @ba $a C $b 1 $c,bE (i:=$a) $b @d @xn @xn])
def mT_14:MFun:=λa b c d e f g h i j k l A B C D E F G H I J K L v=>`(#[(S,[0,cY (az $a)]),(er,$a,$b,$c,(lj,@wj)),qx @kr @Y (kS $a) (kS $b),px n d K u i $a N,{λi H=>$a,λi H x H'=>H'=H/\$b,λi H=>$c},($a+((bI,o.getD p 0,p)+s)%2)%2,(settle $a @ko @fI).2,(DT $a @a0).map @bA,∀{xs:@F}{us:@O},$a,((l.zipIdx.take $a).filter p).map f,My.walk h @af $a,_,((lJ m).take $a).filter (nh r n m T),λa h m _ q=>(nH,m,$a),(λq=>by rw[q,$A]at h;cases h),(cy,(aC,"word"),"word",$a),(cy,(aC,"piece"),"piece",$a),(e8,oN (iY $a) aE aE),cB $a $b=(zs.find? (fP,$c)).map @km,St->Hp->$a->@u,∀c o,c≠d->(R,H7 c)->(R,$a),(Qz _ _ (qj hb)).trans $a,(by refine Z _ $a;cases a with|true=>exact cq $b|false=>exact cI $c),(t+$a+@dm)%2=0,some {@ko,.card $a $b,@fI},(((br n).drop i).filter λj=>$a).length,x6 $a (λc hc=>h c (by simp[dk,hc])),e4 i @bV $a @K,∀(kV L pm:ah)(z:@eg)(aL ct:ah)(us:@O),(ol,$a),λvs H Q _=>∃(a:aa)(r:db)(n:Nat),(fN,@ee,@G,$a,$b),λvs H Q _=>∃n:Nat,vs=[@dd]/\0<n/\$a,Nm @d B.zip (be,$a,$b),(dB,Nb @d,B.all,af9,$a),(k1,Na,B.tuple,agb,$a),{u,_,_,@d,hp,@hB,$a,@d,$(v 1),*},by rw[cC];exact{zs,$a,b,λz mz=>⟨$b,(c z mz).2⟩},∀H',@ab->Q $a H',{@d,_,@d,$a,_,_,_,@d,$(v 1),*},(gI,(eq,o,m),$a,M3 C m sp $b $c ta $d),aX (bv @cW w) A $a $b E s,by funext z;show(B,$a,$b)=_;rw[aD];rw[bU,eW];exact{$c,λq=>(aF,q)},Ae P w K mg @ba $a @bf s H,(ie,$a,.fields $b),(bu σ vs).set slot $a,(bh,@d,$a,_,_,@d,@d),($a :aq).cps.toList,mX $a (by rfl) $b $c (ab $d ac),qw @d B.range (ab $a ac),(ik,$a,@V,@bz,@d,r,_,@d,$b,?_),(ie,"tuple",.seq $a)])
def mT_15:MFun:=λa b c d e f g h i j k l A B C D E F G H I J K L v=>`(#[rl $a $b (rS $c) (qA $d) (a9 $e) @dD kV L pm z aL ct,S.words.map (cA $a),λx=>(⟨x.1,$a⟩:cQ),(ke n S).drop $a,X.blk s H ba (uN ba $a $b @a0) B,(dc,$a)=[(@K,$b)],bx (ha pos @P s σ H _ I h) $a,(λv z=>by rw[$A]at z;cases z),{cls:=@kp,dict:=$a,data:=$b,slots:=$c},by rw[$A,<-$b];exact$c,by rw[$A];decide+kernel,[@ex,V.int $a],(P,b,$a)->(bl,b,$b),@a7<=a7/\(bS,a,nB)/\$a,nQ n m i @au l $a,kn slot x @d6 H' $a,(bt,.Call $a $b [] pos),(qu T hi).1 $a,$a=@gL/\(cf,$b,l1,(eW,aK mv @gD)),.inl {[],_,r,_,@d,@d,$a,@d,$b},(a d $a).2 e,uL K @ea $a=some (J,f),j $a _ q (λ_ _ z=>@wt),bx (N @P s σ H _ I h) $a,λx=>(a7,$a),∀c∈m,c∈$a,call (.builtin $a) $b,($a ::$b).map @aJ,(p.map @aA).contains $a,My.settle (eE x) $a $b,by show$a;omega,PE X $a (λσ H Q=>$b),ag H @al $a,by rw[$A];decide,R (.ok (.ret (.bool $a))) $b,(il,@dK,ag H p $a),(il,(cV,p),(cY,p,$a)),((r.drop (i*w)).take w).map $a,λH' h=>hd H' h.1 $a,(bY,$a,@gI)&&(bY,$b-$c,n-i-@gI),B8 (s:=@iO) e c $a @Z (mW,$b,$c,$d,$e),λD=>(H,D.1,k,(D.1,$a),D),left.find? (λx=>!$a),∀y∈ba.names,y.2=@dE->$a,(λq xs h e=>by rw[e,$A]at h;cases h),{_,_,@d,hp,@hB,$a,@d,$b,$(v 2),*},bN $a (ay (ew,y,$b)) (ay $c),ip i @bV (E++@iW) $a=some ($b ::st),(bD q).filter λno=>dt $a no !=@mt,MW @d B.range $a])
def mT_16:MFun:=λa b c d e f g h i j k l A B C D E F G H I J K L v=>`(#[∀(q:aa)(xs:@F),$a->q≠$b,(Q,_,@d,told z,(d,vm,$a)),K9 $a (some $b) @wA @a0=pure @K,x=@bb/\vs=[$a]/\@hT/\$b/\$c,(tn,a,(aT,r),$a,$b,s5.seq ha),bx (hi @P Y σ H1 _ L O) $a,λb H3=>(L,b,te I H3 λy H4=>∃acc,(aa,H4 D,acc)/\acc.length<a7/\$a,$b),∀(k i:Nat),i+k=n->∀h,$a,∀(o:@o)(i:Nat),$a,∀i m H,W i m H->($a/\j H)\/($b/\∃F:@fy,$c),(fD,$a,Y,(ab,ao,e)),∃W:Nat->@iM,(∃m,@HT)/\$a,(rN $a).Perm (rN g),s.heap.FunFrames @fp $a,{s with heap:=s.heap.update $a $b,toks:=$c},λσ' H'=>(bl,d,@mu)/\$a,Ab λi j=>.int $a,MY λi j _ _ _ _ _ hc q=>$a,(Y.trans $a).trans s4,QM ((r.dropLast.take $a).map kg),∃dx,(bj,(ad,$a)),ao (H:=H) (a:=$a) (o:=$b),∀(H':Hp)(q:aa),@ab->$a->$b->Q @bi H',let⟨ps,a,c⟩:=t;⟨ps,$a,$b⟩,(b_,V.int.inj $a),(L,$a==xS "list",$b,$c),∀H',@d_->$a->j H',∀(s:aF)(H:Hp)(C:aa)(cl:@cN)(B:@aa),$a,by have:=$a;rw[$B,$C]at this;exact this,{m,b,_,_,(dK,@d,$a,@hz,@qI)},PI X tg (.Call (.Name $a p) $b [] pos) $c,(mh,b6 N A H' D $a),va (lo:=1) (n:=$a) (λi σ H'=>$b) $c ?_ ?_,by have:$a=[]:=o5.1 $b;subst this;exact$c,(iy,b6 N A H' D $a),if$a then(a9,6)else$b,HT.mY @X @X $a,(d,My.f_ $a,bX _),(bW,(dn,!$a),(av,$b)),by cases x;cases r;exact{_,$a},_,by cases x;rw[bT];exact{_,$a},∀(H':Hp)(p:aa),(eR,$a,@ao),(Z,$a,["text","size"],7,$b),.ListComp oq [⟨$a,iter,M,0⟩] ba pos,by cases h;cases r;exact{_,$a},(a5,_,@d,_,@d,_,$(v 0),*),Un fs ex H $a h h',((nL $a).map @aJ).length,bj (Nz (K:=K)) $a $b @qu])
def mT_17:MFun:=λa b c d e f g h i j k l A B C D E F G H I J K L v=>`(#[by rw[<-zb,be,$A];rfl,(ai,yb,H.len,$a),(c6,$a,Ab λi j=>.bl (decide $b)),(ev,λc H1=>(L,c,$a,$b)),by intro wh pins s σ H Q I h;refine$a;rw[j9,$B,$C],qx @kr @B (kS $a) vd,(aL,(bX,@aC),(eo,$a,@B)),(ln,$a,λ_ z=>@cL),@b2->WF n r->WF n $a,{_,$a,@d,@d,$b,$c,_,@d,?_},∀L,Bp n e f l=.ok L->$a,(dB,SX,@v7,af8,$a),qx @kr @Y vd (kS $a),some {m.mv,.amount $a,@kk},¬(iT $a :aW)=iT @hX,∀b u,b≠e->(bJ,$a)->(bJ,@di),∀(H':Hp)(q:aa),(eR,$a,@bi),{$a,H,L,$b,$c,$d,λb hb=>(hf b hb).1},match$a:term with|none=>none|some f=>Qe g f,λo q=>k $a @v o q,λb o _ _ hc e _=>⟨o.slots,$a⟩,∀(i j:Int)(t u:Tok)(s:aF)(Q:@ac)(E:@ac),$a,((l.take $a).filter p).map f,λvs H Q _=>∃(a:aa)(ns:@J),vs=@cM/\(fE,ns)/\$a,Cr $a λa h=>h.1,λ_ _ _ _ _=>ES $a,λb u e Z h2 h3=>(D,$a,@xd),∀(W:@bM)(S:@bo),$a,h'.get? $a=some (lc,@r,.seq $b c',#[]),by show(bD $a).Perm _;rw[$B];exact$c,(D,(λq=>by rw[q,$A]at a;cases a),a),(fb,h3 $a @e (lo,$b)),∀s',@wr->Q (.bool $a) s',by rw[az,i=n];subst this;exact(zX $a).2 $b,e_ P w H (h.push @pS) @go $a,fX @d (by rw[be,Ch,$A];rfl),PE X (.Constant $a j pos) (tC $b),(es,$a,@Y,@E,@H),(fd,$a,l1,{S++E,@gK,P++W}),[iT (u,((@fO)[$a]).1),iT (av,((@fO)[$b]).2)],by subst z;rw[$A]at j;exact j,bq (v,(u,$a)>0),(iD,@c5,W 0 m σ H,(iH,$a,$b,@c5,$c)),(ay,["text","size",$a],"text","size",$b),(iF,G,BR l2/\∃l1,(lm,$a,$b),G,$c,$d),(aI,7,"text","size",$a),_,(ay,["row","other",$a,$b],"row","other",$c),lZ r a++lY $a (b8 r (lZ r a)),{[($a,$b)],ao,@d,λz mz=>by cases cz.1 mz;exact⟨$c,$d⟩}])
def mT_18:MFun:=λa b c d e f g h i j k l A B C D E F G H I J K L v=>`(#[(ct,(dR,$a),G.NO_ROW),λq=>hd _ (G,q,$a),λq=>hD _ (G,q,$a),∀w,W.head?=some w->eE w<$a,(g $a).flatMap λx=>(xO (m.map g)).map λy=>x::y,∀l,(I,l)->Q @bb $a,λrest r s'=>r.1=@r/\s'=s/\$a,Dp.readsAll I ds _ $a $b $c,oN (ao,B_,@B,dB G.RIGHT) $a $b,S_ @d B.reversed (ab $a ac),Tz @d B.list B.reversed $a,(((zs.take $a).map @bA).filter g).map f,λc o hc hh=>(D,du hh X,$a),{@pX,M _ _ _ _ $a @pX @qb},aU P w K mg @ba CX $a $b fd ps sp,(by let{ps,cH,_}:=$a;rw[q,$B]at cH;cases cH),(λe=>by let{zt,R,_}:=$a;rw[e,$B]at R;cases R),(fT,Tj @d,mX Ti (by rfl) B.range Qm $a),(fV,4,$a,[($b,3)],$c,(eS,3,$d),@mc,$e),([(cB,l),(bn,m),(cB,c),$a,(bn,$b)]:@kj),(if QP<@ah then(a9,7)else atZ S x f)=$a,RL (n:=n) (e:=e) (S:=S) (k:=$a) (cs:=$b) (W:=W) $c,∀i even,ip i @bV $a []=some [@xe],λH' p s st e=>{$a,(r,e,$b),(aF,$c),λz m=>?_},(eV,$a,@bB,λj σ H'=>$b,{$c,@r,@d,$d},λj σ H' _ h=>$e),(@ef/\$a=-7)\/(¬@ef/\($b\/∃q,$c=@hI/\$d=@kF)),(rK S g s st).bind (ip S g $a),(aD,u,(lI,d,x,S,(al,λys hy=>(d,$a,hx)),$b)),∀n,(Z,"refusal_of",["text","reader"],6,Oe K $a $b $c),∀q,@ap->@dM->@cZ=o->@ek=p->$a,∀H' p,@ab->@kP->(aP,p,$a)->b6 N A H' p $b,c σ H λb H1=>(L,b,∃N:$a,(∀σ' H',N σ' H'->$b)/\tb {D with nx:=N,ct:=N,bk:=D.nx} σ H1,(dP,H1)),Re hn (B:=f) (a:=$a) (λk w=>@d) i (λk hk=>$b) r @e,["enumerate","zip","dict_itemiterator","dict_reverseitemiterator","odict_iterator","itertools.zip_longest","itertools.pairwise"].contains $a,atc (cr,N) (cr,iu) atd ate atf atg (ath _ _) $a $b,[@c2,(T,i),@fQ,(J,W),$a,N,v6,v7],[@bc,@fF,@c2,@fD,(J,N),(J,T),v6,$a,$b,@r],kS aE @P s σ H Q I (aD,$a,q),[@c2,@fF,(T,c),@fD,(T,@aM),@r,@cr,(J,J),$a,$b],t q f g v i y b hy hb (gA.1 $a),{ss,.card k $a,W},∀(cs:List Lm)(a:afY cs),$a,∃(a:aa)(vs:@O),v=@W/\$a/\@sm,∀(j:Nat)(v:ah),(ah,$a,v)->$b,∀(i:Nat)(z:α)(H':Hp)(Q:@fS),(C,l,z)->@d_->(gV,p $a)->$b,((c.zip ms).take $a).map @xx,λvs H Q _=>∃(p cl g:aa)(n:Nat)(r:db)(t:Nat)(cs:@o)(i:Nat),$a,λvs H Q _=>∃(a:aa)(t:@o)(p:Nat),$a,((br n).map λ(k:Nat)=>@gO+k).map $a,.lst (xs:=$a) (aj.of ?_) (Tk _)])
def mT_19:MFun:=λa b c d e f g h i j k l A B C D E F G H I J K L v=>`(#[.builtin "type.__call__" ⟨$a,j⟩,∃(p:aa)(c:iM),v=@ao/\(C,cs,c)/\$a,l.filter (ij,@hM,$a,@vW||(t+$b+@mm+@dm)%2==0),∀L:Ends,$a->tM tt t u L σ H,by rw[atm h0 $a]at Z;exact bZ Z,by let{t,h}:=h;exact z_ (v:=$a) hg h @qQ hd,@wi=@dF->Qs $a @pY=pure @kw,bx (N @P Y σ H1 _ L O) $a,by let{m,{o,es,ep,N,r},_}:=id @hx;let{D,W}:=u.any N @gq $a;exact$b,PE X (.Call (eq,o,@bG) $a [] mG) $b,(λe=>by rw[e,$A]at hp;cases hp),(λe=>by rw[<-e,$A]at hy;cases hy),(λe=>by rw[e,$A]at e1;cases e1),(bv,t.all (λ(z:Int)=>$a),(bY,@ah,$b)),(λq=>by rw[q,$A]at X;cases X),PI X (.Tuple C6 kk xp) (.Call (.Name $a p) $b [] pos) $c,(r.zipIdx.filter λx=>@so).map $a,by rw[az,i=n];subst this;rw[$A];exact$b,by let{zs,Z,e2,hz}:=h;exact{zs,$a,e2,λz m=>$b},∀c o,$a->(P,c,o)->(R,H' c),by have:(F,(cB $a $b).isSome):=$c;exact aSo.1 (lB,this),X.s_0.heap.FunFrames @fp $a,(bT,p,C,dx,hp,@V,$a,@d,_,_,@d,@d,$(v 1),*),(aL,(bX,@dP),(eo,$a,@dP)),∀c o,c≠D->(R,H2 c)->(R,$a),(λz=>by rw[z,$A]at nd;cases nd),∀(pins:@ae)(s:aF)(σ:St)(H:Hp)(Q:VK),$a,PS X (.Assign [$a] e pos) (MV te $b),(lG,by rw[au,<-$a,gn]at h;exact h.2),∃o,$a/\∀v,@eQ≠.cell v,Nw G.BINDS G.BINDS_d $a @cg,(by induction k with|zero=>exact$a|succ k ih=>exact$b),(aw,6,@fs,bd fb @a4 $a),@I->$a->t $b σ H Q->(dJ,$c,λ_ s'=>(iJ,Q σ' H')),by rw[bY];exact{ps,$a,b.same s},by intro pins s σ H Q I h;refine$a;subst ex;rw[bg];exact$b,∀s',(ar,ag H a $a,s')->Q () s',mn xs (some $a) (some $b)=(xs.drop $c).take $d,(lO,(bX,@aC),(bN,$a,@dP),$b),Eu hn (k'::l) @qX (λ_=>$a),@I->@iY->@dQ->r x y H Q->$a,Un (uY @es) ch H H' @am $a,(GI @cH $a @r @mZ).toList=fF $b,((r.map @dg).set i $a).set @f6 $b,(rp,@fS,(iO,$a,TP X @P σ Q)),wV (EL $a) (wV (tC @cy) yk),I.laid (t':=@bk) (λ_ _=>aRe) (Gs _) $a,(rB,vs=[@m7]/\$a/\(gT,ns.sum)),((s.heap.push @p7).push @qV).get? $a=some $b,g (.ref T) σ $a λI H2=>@CZ])
def mT_20:MFun:=λa b c d e f g h i j k l A B C D E F G H I J K L v=>`(#[(aq,["row","card"],"row",$a),tK (de,B_,@a6,dB $a) (rO $b),(dr,a,@cP,@ab/\$a,$b,λi σ H' _ h=>(ey,X)),tK (de,yj,@E,aE) (rO (de,jL,@E,$a)),by rcases h with(h|⟨o,h⟩)|h;rw[Q,.inl $a];rw[Q,(a_,o,$b)];rw[ac,h],λD σ H=>tv σ H λv H1=>td σ H1 λx H2=>ty σ H2 λy H3=>$a,Ig I (cl,zE) hs ⟨q,U⟩ {$a,hd,_,$b,q,es,ep,U,h2,h3,h4,h5},{O,(Y.2 $a y.symm).trans pI.1,CZ,ib},$a/\(∀q,$b=@hI->(lM $c pA {[],@e7} t).2=@kF),(sW,#[],$a,(qm $b aD).flatten.toArray),(sZ,0<n/\@aQ/\∀(H':Hp)(p dx W mv v:aa)(I J:aq)(tm:Int),@ab->(jA,nZ n $a $b W mv I J tm v)->$c->$d->Q @ao H'),∀(i:Nat)(z:α)(H':Hp)(Q:VK),(C,l,z)->@d_->(gV,$a)->$b,(old++acc).any (λz=>z.1==$a),(L,$a,[i,0],[])++(L,$b,[i,1],[]),∀(f p:Nat),∀x∈fN t f p,$a,∃a b kvs k,x=@W/\y=@aH/\$a/\qv $b b k/\$c,∀q,V.ref q∈$a->∃ys,(ag,q,ys),match(lK,$a)with|none=>([],l)|some x=>_,∀i even st a,(lP,@xw,zW u F a $a),∀{xs:@F}{us:@O}(i:Nat),@c6->bi $a $b,∀{xs:@F}{us:@O}(n:Nat),@c6->bi $a $b,λb u e=>(D,du $a h,s b u e),λσ H R=>tl σ H λx H1=>∃a,x=@W/\(∃xs,$a)/\R $b H1,λx vs H Q=>∃l b xs zs,(lV,@aH,$a,@X+@cX<=a7/\Q @cI (dh,xs++zs)),∀(ds:$a)(vs:@F)(us:@O),$b->@jc->∃as,$c,(o.zipIdx.map λx=>@mM).map $a,aRq (hsz:=hz) $a $b dd λh' j hs=>h _ ?_,∀(ds:@el)(vs:@O),$a->tW ds=@h->$b->$c,.tup $a (.cons (.int _) (dX,.int _)),((s.heap.push @qg).update @al @Bi).get? $a,λvs H Q _=>∃(l:aa)(h:ax)(n:Nat),vs=[@bb]/\@fZ/\@aB/\$a/\$b,λvs H Q _=>∃(a:aa)(ns:@J)(n:Nat),vs=[@W,@dd]/\(fE,ns)/\$a,fX (j:=$a-1) (by show(u,$b)-1=_;omega) (by rw[be,be,akT @e];rfl),h.mono λa x n p=>{w a n,$a},((($a ::$b).reverse.map V.bl).dropLast)=$c,λz mz=>{?_,$a,(c z mz).2.2},∀(i:Nat)(v:V),(C,L.map @km,v)->$a,(R.und.2.2.2 i d hd).same $a,∀j d,(ah,ds,d)->TabAt $a d [(@fR,@b8)],((fN tx @r6 0).map $a).sum,match$a:term with|none=>(a9,7)|some i=>(S,0::bI (Ly q i)),(aSB @T @l3 (placeOf q x.toNat)).contains $a,(by cases l with|nil=>exact .inr {m,@d,@d,$a}|cons x r=>exact .inl $b),by
  have:$a=$b :=by unfold done;rw[$C]
  rw[aN,agT hl],by rw[atn @e $a]at Z;rw[eZ,<-hl];exact bZ Z,(K,xs,@X-1-i,x)->@hS->$a->$b,⟨I.base.keep,I.base.slot,$a,I.base.there,$b,$c,$d⟩,(aa,(ag H p @dI) D,$a)/\$b=@bq/\Mv (an,ag H p @dI,D,$c) D $d,$a->(∀z∈acc,@w8)->(iR,acc)->let r:=$b;$c,(λe=>by let{ys,hy,_}:=$a;rw[e,u]at hy;cases hy)])
def mT_21:MFun:=λa b c d e f g h i j k l A B C D E F G H I J K L v=>`(#[(x.cps.toList.take $a).map f,by unfold mn;rw[HT.Cb,HT.Cb,$A,$B],@dl->(∀j,j<@X->(F,lt j i))->$a->$b,(aq,["spelt","byte"],"spelt",$a),(aq,["size","place"],"size",$a),∀(s:aF)(us:@O),@wi=$a->Ld s fd @pY $b,(aa,(bE,$a,g,$b,q5),xs.2.map @aJ),(g7,$a,h.IsKeyIter it d i @a7 ep),{Ee af6 _,QJ aSd (d,QK af6 _,$a)},{s3 with heap:=s3.heap.push (kX,"slice",#[n,$a,$b])},by show l.foldl @xr (aK @ai (gw n x))=_;rw[jJ,$A],(ay,["numbers","size","number"],"numbers","size",$a),{r.hd,by have:=r.dp;show$a<_;omega,by have:=r.un;show$b<_;omega},bx ((z_ (v:=@W) hg hm @d hd).out @P $a σ $b $c $d $e) $f,eq_of_beq (Gd (p:=λx:@ar×ax=>x.1==$a) e),(s.heap.push $a).get? @al=some $b,{I.ok,I.os,@gr,@v5,$a,@wu,@gq,I.freeC,$b,@cd,$c},Io (n:=$a) (λi=>$b) @e hD @bm (λi H' Q hi q=>?_) $c,{$a,(.word J,p)::$b,$c,by show dI $d ::$e=_;rw[M,hw];rfl},(ay,["size","number"],"size","number",$a),by intro pins s σ H D I h;exact$a,by let{od,J,hl}:=I.look;exact$a,by let{f,fd,F,hm,hb,c}:=M;exact$a,by let{f,fd,F,M,hm,hb}:=N;exact$a,by let{zs,Z,e,hz}:=h;exact{zs,(D,aI,Z),e,λz m=>⟨eY,$a⟩},by
  by_cases e:@aU;.rw[$A];decide
  rw[s,$B,$C],(Q,@m4,_,I.lnew (t':=@bk) $a $b,q _ I.fresh),by have:∀k:Fin 23,$a :=@aG;exact this ⟨k,hk⟩,λσ H Q=>to σ H λx H1=>SV K T x H1/\$a,by apply uC hl;intro i Z h2;have:=h i Z;rwa[$A,$B]at this,(sM,∃a o,x=@W/\tU H2 a y o/\Q (.bl $a) H2),{{u,(D,b,cK)},@KR,@xs,$a,d.n1,d.n2,d.n3},ku (K:=K) (n:=2) @d (eF (kg,$a,$b) (eF (kg,$c,$d) kr)),(λq=>by let{zs,a,_}:=$a;rw[q,e1]at a;cases a),show e_ @a8 X.w _ _ _ $a from$b,show DQ $a≠aQR/\$b from{(λx=>nomatch x),h},∀(k:Nat)(s:@o),@dc=k->s≠[]->(∀x∈s,$a)->$b->$c,∀x,Qa n t=.ok x->BZ n x/\dk x≠[]/\∃m,$a,∀w',rF n r q w'->@mq=$a->iK $b w',∀p:iM,ip (cx p) (cf p) ss []=some [$a],RR _ _ $a $b (λi a b ha hb=>?_) (r,U,D q f jv),∀(j:Nat)(c:cQ),(ah,$a,c)->@gZ=$b/\@qj=@ce,hs $a (by unfold uY;rw[afv,hf];exact$b),∀(pins:@ae)(s:aF)(σ:St)(H:Hp)(D:Ends),@I->t D σ H->(dJ,$a,SP X @P D),λx y H Q=>∃p xs i v,x=@ao/\y=@a3/\$a/\(bz,xs,i,v)/\Q v H,λx y H Q=>ai8 x y=@h/\(c0,$a),aQB @e (d,aQC i @e,q) (.inl $a),λs3 I3=>(Q,.bl $a,H2,I3,q2),∀x dx,$a->$b->dx≠x->sp (@gQ::@kV) $c @KP E,∃kvs,(a4,@eZ)/\@a7=@R/\$a])
def mT_22:MFun:=λa b c d e f g h i j k l A B C D E F G H I J K L v=>`(#[∃d u,(a4,u)/\@wV/\∀od,$a,∃(aD:@O)(o:bA)(n:Nat),@kM/\@kI/\@iB=$a/\@eQ=.seq @aR n,∃vs:@O,@fq<=a7/\@m9/\($a\/$b),akq (l:=$a) (lo:=e) (λxs us r=>?_) $b he $c @IZ,λvs H Q _=>∃(p st L X:aa)(n:Nat)(rf:Int)(I J:aq)(cs:@o)(ss:@bo)(W:@bM),$a,bd (akn (K:=K)) (akh li $a $b @cg) (jC (ab $c ac)),∃(g ld:aa)(J:Nat),$a=(sT,(aB,@kJ))/\$b/\$c/\$d/\J+(d+d)*@kJ=m,by intro pins s σ H Q I U;refine$a;have hf:(cV,@bF):=@wB;refine(Q,@Im,$b,L.laid (t':=@wE) (λb u e=>@eY) @L ?_,q _ hf);exact$c,by let{u,e1,e2}:=rv.get $a;rw[hv]at e1;cases e1;exact e2,Im H->aRT @iH a=@h->QF @iH r.asked a=@h->$a->sp $b xs H $c @m3,(Z,"pieces_of",["text"],5,UW K $a),bx (he @P Y σ H1 _ L O) $a,σ=$a/\(aP,z,(lv,0,gZ ((M.take j).flatMap @qB))),by intro pins s σ H Q I hw;refine$a;let{d,rfl,q}:=O;cases G;exact BA ⟨H1,L,q⟩,bx (hi @P s σ H _ I h) $a,PG X (.Tuple es k pos) (HE $a n t),match$a:term with|.error q=>@hI|.ok x=>$b,(bh,@d,_,@d,$a,@d,(T,@gS)),∀p,p∈$a↔@bn/\tu r p=@h/\x_ n 0 p=@h/\(F,@hP),∀b o,@qe->$a->b∉ch->@dr->@bP->$b,(lz,.Dict [some k] [v] pos,∀p,@dK->tk σ $a λy H1=>e σ H1 $b),σ=[@bc,@c2,(T,c),(J,L),$a,N,v6]/\i8 $b L $c,{ms,o.1,_,os,@d,R2.same s3,m3,$a,λH4 R4 D=>?_},(rK i @bV s st).bind (ip i @bV $a),{$a,?_,$b,I3.len,@e,$c,Uw d ht,?_,λH4 R4 D=>$d},by have js:R⊆@iV:=λx hx=>BN.2 $a;have:=$b;rwa[Ek]at this,_,(rq,∃k,y=@e4/\Q (.bl $a) H2),[@e5,@fF,(aB,i),(T,@wZ),(T,$a)],(aL,(eB,(ao,yj,@Y,dB $a),(ao,jL,@Y,(b1,$b))),cR),by intro pins s σ H Q I h;rw[mU,λu s2⟨x,H2,I2,J,a,z,ex,g,q2⟩=>?_];subst ex;rw[bg];exact$a,{@d,$a,_,@d,.inl (Q,Kf,$b,.inl g1,g2.symm),t,_,_,$(v 2),*},{@d,@d,g1,$a,g2,_,@d,@fY,λt1 pX=>?_},(fY,e,.Slice $a @r (some (.Constant (.int 2) W p3)) p2,Tx K te $b),eR dO afL atP SY (b8,"card",2,$a,@aC,2,$b,(e6,@E)) (ab $c ac),by refine cU (My.L7 _ _ _ L.len) ?_;rw[$A];exact Ge $b hn,λe=>by rw[e,hD]at h;exact$a,λx y H Q=>∃a b xs ys,x=@W/\y=@aH/\@fc/\(cc,b,ys)/\$a≠[]/\@X+@dG<=a7/\($b=[]->Q $c H)/\($d≠[]->(lD,.tup (xs++ys))),∀{eE:@nf}{m:@aT},(∀v,(x,v)∉eE)->$a=m x,∀{P:@aE}{vs:@O}{i:Nat}{m:@aT},P.Nodup->(C,P,x)->(C,vs,v)->$a->$b=some v,aQZ ht.isList $a pl $b $c @v ?_ (by rw[eZ]<;>omega),λh' c' kp e=>fin aD r' hz h' c' $a $b,λvs H Q _=>∃(p st L X:aa)(n:Nat)(rf:Int)(I J:aq)(cs:@o)(ss:@bo)(W:@bM)(x:aq),(ci,@eo,$a,$b,$c,$d/\$e/\$f),aj6 $a $b (λx y=>.int $c) $d $e hD $f $g @cg (λi x y H' Q _ _ _ k=>$h) @xl,ajJ (em,"card",3,@mJ,Td @B,3,@mJ,$a),fw k (A.deeper $a)->sp vs H Q E->∃t,tL $b $c t/\t {nx:=λ_ H'=>Q @cI H',rt:=Q} @sj H,(d==nB)=@K/\(fX,d)/\o.ExactDict/\$a,jz n m (f+1) i @au l=($a,(jz n m f @A $b $c).2),(gK,∀x l2,$a=.ok (x,l2)->BZ n x/\$b/\∃l1 E P,$c=@gL/\l1≠[]/\$d/\$e/\$f/\(eA,fo E),$g,$h),∀(pins:@ae)(s:aF)(σ:St)(H:Hp)(Q:$a),$b])
def mT_23:MFun:=λa b c d e f g h i j k l A B C D E F G H I J K L v=>`(#[λσ H Q=>ty σ H λy H2=>$a,by
  rcases h with h|h;.left;rcases h with h|⟨o,h⟩;rw[Q,$A];rw[ac,⟨o,$b⟩]
  rw[ac,h],s.heap.IsTuple $a @aR,∃b,N0 H5 b $a/\($b=@h->∃ys,aj K H5 $c ys/\(bz,ys,@aL,@aH))/\((F,$d)->b=D0),∀(X:Cx),@a8=P->X.w=w->@dz->@du->∀(i:Nat)(pins:@ae)(s:aF)(σ:St)(H:Hp)(E:@ac),@I->(∀b∈B,(bD,H,b))->L i @am->$a->aX (bv P w) X.A (zB @eI) (λr Y=>$b) E s,afF $a (λA R s=>(bx,l,(lc,dd,@w3,D))/\@iJ=some (lc,M,.seq @gv n2,U)/\(lC,@qU,s)),aRr (s5,λr Y⟨v,H1,L,rv,O⟩=>(om,λu s2⟨x,H2,I2,J,q2⟩=>bx (hi @P s2 σ H2 _ I2 q2) $a)) hs,∀(w:cn)(mg:@aT)(g:aa)(h:bV),m w h->(K @pK).In h->h.Ns iU mg->(fZ,d.name,g)->(sy,@dF,@kw,(K @pK).In @ba,aU r.prog w @m_ mg @ba $a k g fd ps $b),∀(i:Nat)(z:α)(H':Hp)(Q:VK),(C,$a,z)->@d_->@w6->(s0,f z)->(g1,@m0),λvs H Q _=>∃(p u f l:aa)(ds:@aa)(U:@aZ)(F S:@Q)(h:ax)(n:Nat),(ci,@bb,(fj,H),@fZ,@aB,@aQ/\@bC/\$a),∃(ks:@o)(v2 O v4:@ag),σ=[@bc,@cr,v2,O,v4]/\$a/\ks.Nodup/\(gH,ks,$b),λvs H Q=>∃(a:aa)(ns:@J),$a,by have Z:=UR @m2 (p:=$a) (e:=$b) @e @i2;rw[(v,$c=(A,$d)),(v,$e+1=(A,$f)),Z,(v,$g-$h=$i),<-wm,<-wo,$J],{$a,_,λH i v=>$b,λi j=>$c,@d,$d,?_,{?_,?_,?_,?_,?_},λi v H7 hv uh s7=>?_},{$a,@r,@r,@r,@r,@r,@d,$b},@ab/\b6 (λa=>a≠D) (b6 (λa=>a≠D) jq) H' D (a2,i,$a)/\∃v v2:@ag,σ=$b,(bT,p,C,dx,$a,@V,T.nS,@d,D,sp,_,_,@d,@d,$b,$c,?_,$d,_,@d,?_),Ae @a8 X.w X.K X.mg @fp $a @es s H,{$a,I.os,@gr,@v5,@hx,@wu,@gq,I.freeC,I.pin,@cd,I.len},by intro pins s σ H x y v u Q I J B h;let{d,e,hd,he,n,j,q}:=h;let{as,G}:=Dp.reads I d x v hd J;let{bs,r2}:=Dp.reads I e y u he B;exact$a,tb {D with nx:=$a,ct:=$b,bk:=D.nx} I H2,{@dn,@V,@bz,@d,r,q,@T,@d,@p5,@bI,@a1,$a},(p3,s,H,λx H1=>x=@W/\ty σ H1 λy H2=>$a,I,(al,h),λu Y⟨d,H1,L,J,ex,O⟩=>$b),(bv,(kI mG $a).all (λx=>! x.1)&&(DY mG (DZ [] @a0)).all (λx=>x.1.isSome),(ap,$b+([]:List Qu).length+(if([]:List Qu).isEmpty then 0 else 1),30)),{@d,p,st,L,X,n,rf,I,J,cs,ss,W,$a,@d,R,hl,λH1 d k1=>?_},(by intro q;by_cases Z:@gM;rw[bi,n0 Z];by_cases h3:@nh;rw[bi,t_ h3];by_cases h4:$a;rw[kq,$B];by_cases h5:@qO;rw[kq,CA h5];rw[Ay Z h3 $c $d h5]at q;cases q),hp $a @P s σ H (λvs H1=>$b) I h,aln (ls,$a) @e hD ao @bm @xm @qN,{@d,p,W,v,n,sv,rf,_,_,tm,ms,M,$a,@d,R,$b,$c},(by
  unfold rB;have:∀c:agg,(∀l,c≠.load l)->(match c with|.load l=>(sP,rowOf l)|c=>match S.row with|none=>(a9,1)|some r=>onRow S r c)=$a :=by intro c hc;rw[h];cases c<;>first|rfl|rw[a2,hc _]
  refine this _ λl e=>?_;unfold pR at e;split at e<;>first|exact hk @d|cases e),(lW,∃(O v4:@ag)(kvs:@bp),$a,{@r,@r,[],@d,Y,ao,@L,@I5}),by intro pins s σ H Q I h;refine BE (wU I hg hm hv ?_ hn j);exact$a,(bf,["grid","side","number","strips"],["grid","side","number"],$a),by intro pins s σ H x y v u Q I J B h;let{i,j,rfl,rfl,q}:=h;rw[aX];rw[dq];exact zC i j t t' s _ _ $a,by
  refine(h,$a,@C);.let{n,k,rfl,_}:=h;rfl
  .let{n,k,rfl,h0,hn,hk,q0}:=h;rw[an,(es,a,@Y,@B,aE)];refine{_,@d,_,@d,n,k,$b,@d,h0,hn,hk,λH' p hs hm=>q0 H' p hs (dZ,$c)},(by
  let{us,Z,h2,h3}:=c a ha;have hu:us=vs:=by
   rcases h3 with q|q;.rw[e]at q;exact$a
   .rw[e]at q;exact$b
  subst hu;rw[ae,h2];cases hk:K.lookup a with|none=>exact .inl (.inr {_,(r,Nq ha hk e,$c)})|some o=>have e2:=B a o hk;rw[e]at e2;obtain rfl:=bZ e2;exact .inr $d),{L,X,n,rf,_,J,cs,ss,W,_,@d,R,@e,$a,$b,$c,λZ h2 h3=>?_},(lh,∃xs:$a,Paired $b kvs xs/\∃o es ep,@kI/\o.ExactDict/\@eQ=@mj/\es.toList=xs.map (asT $c)/\(xs.map @aA).Nodup),[@fD,(J,m),@fQ,O,(J,S),(J,$a),v6,v7,v8,N],(a5,_,@d,_,@d,T,_,_,@d,@d,$a,aoZ $b @e,_,@d,l,N,cs,m,ns,$c,n,@d,$d,$e,jF,@e,CL,@e,@e,hn,$f),{I.ok,I.os,@gr,(sQ,I.base.free,I.base.tups,I.base.frzs,I.base.tbls),$a,$b,@gq,I.freeC,@cu,J ⟨$c,$d,$e⟩ hs,by simpa using I.len},∀y,y∈l↔(@i_/\c_ y=y/\$a),by intro pins s σ H R I h;refine bx (hl @P s σ H _ I h) @kz;let{a,e,{xs,U},q}:=O;subst e;cases G;let{aD,rv,p,hz}:=$a;refine$b;refine{@bF,[@bF],_,_,H1,@d,L.kept (t':=@wE) @m5,$c,@jj,@f2,q};rw[E,b,@bF,@gG];subst e;exact L.fpOk @L @wB,by let{xs,e}:=hi.allInts.items;have hn:numsOf (intItems xs).toList=ns:=(cg,hi.numsOf);rw[aRb]at hn;rw[e]at hl;refine$a;have:=h h' tk t' hk;rw[aRc,Bo @v,hn];exact this,{.inl {kvs,@mI,$a,?_,?_,@d},_,_,iE kvs @mI $b,@d,$c,ao,?_,?_},by
  by_cases hc:i<$a;.let{yy,pp,Z,sE,_,W}:=$b;rw[ap,pp,?_,λ_=>⟨yy,Z,sE⟩,λq=>(gE,bq hc)];rw[My.gD (d,$c,hc)];exact W
  .rw[ap,D0,?_,λq=>absurd (bT q) hc,@bm];rw[My.rL (af,$d)];exact hN6,by
  let{z,y,xs,r,o,es,ep,Z,h2,h3,h4,h5}:=$a;refine{z,y,xs,r,o,es,ep,Z,h2,h3,h4,@gW,h5};have all:∀{l:$b}{m:$c},$d->∀x∈m,$e :=by intro l m q;induction q with|nil=>intro x hx;exact nomatch hx|@cons p q ps G U t ih=>intro x hx;rcases de.mp hx with e|hx;rw[bZ,$F];.exact ih x hx
  exact all r x hx,σ=[@fD,(J,m),@fQ,O,(J,S),(J,L),(J,F),$a,v8,N]/\jO H' d (C++b)/\rZ H' F b/\px n dd C u i $b b,by unfold PC PE at*;intro pins s σ H Q I h;rw[fB];refine bx (hi @P s σ H _ I h) λF Y⟨y,H1,L,B,k,n,O⟩=>(p3,Y,H1,λv H2=>v=@W/\H2=H1,L,@ds,λu s2⟨v,H2,I2,rv,z,D⟩=>?_);subst z D n;obtain rfl:u=cy a:=rv;refine$a;rw[<-(@m8)];exact(Q,.bl _,_,I2.tok _,O),by
  unfold PE at*;intro pins s σ H Q I q;have hn:=I.hok.fresh (bo @al);rw[m_,$A,@qq,@xk,$B];refine aR0 (keys:=[some k]) (values:=[v]) @d @d @v @v ?_;refine aR1 (bx (hk @P _ σ _ _ L (q _ hn)) λu Y⟨y,H1,I2,B,O⟩=>bx (hv @P Y σ H1 _ I2 O) λG s2⟨z,H2,I3,g,b,ks,n,d,hp,q2⟩=>aR2 ?_);subst n;obtain rfl:u=cy b:=B;let{f,hd,xs,rel,dd}:=$c;cases rel;rw[bB,af3 _ [(cy b,G)]];unfold af3;refine(g9,λrest _ s'=>(@bl=[(cy b,G)]/\s'=s2)\/(@bl=[]/\(e_,@cq,s')),.inl @ds)
  .rintro x rest r s'(⟨e1,e2⟩|⟨e1,_⟩);.injection e1 with e3 e4;subst e2 e3 e4;rw[x,aR3 (hsz:=@aO) (show$d from(ly,$e)) $f dd λh' j hs=>?_];refine b5 (.inr @kB);let{o',es,ep,U,h2,h3,h4,_,h5}:=j;rw[bV,@cq,Ig (ob:=$g) I3 (d,hp,zE) hs ⟨o',U⟩ {@fY,hd,_,?_,o',es,ep,U,h2,h3,h4,h5},q2];have:=$h;exact this.keeps λc ys ec=>(D,B6 ec hp (λz=>@wt),ec)
   .cases e1
  .rintro r s'(⟨e1,_⟩|⟨_,h⟩);.cases e1
   .exact h])
def mT_24:MFun:=λa b c d e f g h i j k l A B C D E F G H I J K L v=>`(#[λvs H Q _=>∃(n i:Nat),vs=[@dd,@a3]/\$a/\$b,λvs H Q _=>∃(p W v:aa)(n:Nat)(sv:Bool)(rf:Int)(I J:aq)(tm:Int)(ms:@Q)(M:ax)(os:@dy),$a,by have:=$a;simp at this;omega,(ev,λxs H1=>@X<=a7/\$a),oP @aY $a @eX $b @e hD $c @bm @pU $d λH1 Y u=>?_,(ff,λv Y⟨x,H1,L,G,O⟩=>$a),u_ P w K (.Tuple C6 kk xp) $a $b $c (λi h=>$d),bx (fI,_) λv Y⟨x,H1,L,G,O⟩=>$a,{[],$a,@d,λz m=>nomatch m},by have:=$a;rw[AE (jC,hg)];exact this,(iM,(ao,tO,@dP,cR),$a),by cases h;rw[bT];exact{_,$a},@X<=a7/\∃(aD:@O)(n:Nat),$a,Paired.mapP r λ_ _ z=>{z.1,$a,@eR},[@bc,(T,p),some (.str k),(aB,$a)],_,{$a,@l_,c',?_,by simpa using hD},(P,t,(bW,.ref mv,vw $a)),nz (cU (Ed _ _) $a) (eY,100000<a7),by intro y hy;rw[aZ,hy];exact$a,(e0,@kp,∃(a:aa)(kvs:$a),xs=@cM/\$b/\$c),∃fd:lD,(pV,$a,$b)/\∀base:bV,$c->base.Ns iU mg->$d,dr (eR dO agc agd ajt $a (ab $b ac)),dr (eR dO agc agd (ako (K:=K)) $a (ab $b ac)),by
  by_cases h:a=b;.subst h;simp
  .rw[cG h,cG (λq=>h $a)],P (.done (.ret (.bool $a))) s,∃aD:@O,@kM/\$a/\@X<=a7,I.pins_of λp hp=>I.pin p $a,{(g5,$a),by show$b<1073741824;omega},(aL,(dR,$a),bd kR (dB G.FAULT) $b),{@d,@d,ao,?_,$a,st',_,_,_,_,@d,?_,AK},(aq,(dQ,"row",$a,"card"),"row",$b),(dG,(lR,(be,aE,(b1,@Y))),$a,$b,$c),(iE,"len",∃p ys,xs=[@ao]/\$a/\(gT,@dG)),(iE,"len",∃a kvs,xs=[V.ref a]/\$a/\(gT,@a7)),λσ H Q=>ty σ H λy H1=>td σ H1 λx H2=>$a,(gO,(u,(Jf $a).length)),(by have:=$a;rw[q,$B]at this;cases this),match$a:term with|none=>(a9,2)|some r=>({some r,[]},[0,cY r.length]),{λb o e n hb hx=>?_,λb o e n hb hx=>?_,$a,λb o e hx=>?_,$b,$c,$d},(g4,[@bc,@cr,$a,$b],$c,$d,∀(j:Nat)(hj:@gY),j<i->$e),PS X (.Assign [.Subscript o i sh] @gu pos) $a,[@c2,(T,m),(J,g),(J,ld),$a],by let{zs,a,b,c}:=h;exact{zs,@dw,b,λz m=>$a},Ng (K:=K) (a:=a) (xs:=l.map c) $a $b @Eu ?_ $c,atu (λj O=>j++O) $a (qm $b @aR)=$c,λv j=>(gR,(bt,b),λu z=>$a,j),λb=>iN (H:=$a) (p:=p) (o:=$b) (b:=b),λvs H Q _=>∃(a:aa)(t:@o)(n:Nat),(cz,@dd,@h0,∃o,@kL,@mT,$a),∀t p,ae H' t->N p->A t p $a->Q @ao t])
def mT_25:MFun:=λa b c d e f g h i j k l A B C D E F G H I J K L v=>`(#[B6 hp $a (by intro z;cases z),_,S9 atB.lookup hs (lr,λu Y⟨x,H1,L,J,O⟩=>(lX,$a)),∃ys,aj K H l ys/\@dG=$a,bx (hv @P s σ H _ I h) $a,H'=H/\(fW,σ=[@fD,(aB,$a),v]),if@eB then _++(ez,$a)else[],SD ha hb I h λv u s2 x y H2 I2 J B q=>$a,λz H2=>∃b ks,y=@aH/\$a/\H2 p=some $b/\Q @ao (ag H2 p $c),{$a,@V,@qD,@d,n,@d,@iC,R.hn,$b},(er,$a,$b,$c,HE K 2 (B7 (kn Y) (B7 (kn s2) MT)) x @d6 H' $d),Rd H a $a\/∃(o:bA)(aD:@cj)(n:Nat),$b,(l.filter λx=>f x&&$a).length,∀(j:Nat)(hj:j<k),$a=[],∀(l:@o){r:Row},@G->@m1->$a,(p.filter λx=>h x.1).map $a,(MA $a U).trans ((Ht $b _).trans (MA R h0)),(λz=>by rw[$A]at z;cases z),(bz.mp hp).elim (λz=>I.pin p $a) $b,λσ H Q=>td σ H λx H1=>ty σ H1 λy H2=>$a,λ(n,k)=>if($a&&@sk)then$b else(n,k),((c $a).1 $b).isHand (v.lev _),∃i H',Inv @kX [] (bu σ @mQ) H' s'/\L i @gs/\@m6/\$a,(iw,$a,$b,$c,$d,λi σ H' _⟨_,_,_,_,s5,_⟩=>$e)])
def mE_0:MFun:=λa b c d e f g h i j k l A B C D E F G H I J K L v=>`(#[_,_,_,_,_,_,_,_,_,_,_,_,_,_,_,_,_,_,by .rw[$A];exact$b,_,_,_,_,by refine aV $a,_,_,_,_,_,_,by have e:$a=$b :=$c,_,_,_,_,_,_,_,_,_,_,by refine⟨$a,$b⟩,by .exact .inl $a,_,_,_,_,by rw[aE,@hD,@hD]])
def mE_1:MFun:=λa b c d e f g h i j k l A B C D E F G H I J K L v=>`(#[_,_,_,_,_,_,_,_,_,_,_,_,_,by rw[this],by rw[ad,$A,$B,?_],by .exact .inr $a,by refine⟨$a,$b,$c⟩,by rw[P,$A,?_],_,by have e2:$a=$b :=$c,by have e1:$a=$b :=$c,by .exact absurd $a $b,by .rw[$A,$B];exact$c,by apply iz,by exact absurd $a $b,by refine{_,@d,$a},by rw[a4,(aY,$a)],_,by refine⟨$a,$b,$c,$d⟩,by rw[aw,?_],by refine cq $a,by rw[a9,2,$A,$B,$C,$D],_,_,by rw[ap,$A,$B,$C,?_],by refine cI $a,by rw[P,@aO,$A],by .rw[$A,$B];rfl,by have:$a :=@e,by let{d,c,a,S,q,ns,rfl,_}:=h,by let{r,t,dx,hd,R,O}:=D.opened hS,by show$a=@r,by apply jk.2,by refine bF $a $b,by refine{_,@d,$a,@d,$b,$c},by rw[ai $a,ai $b],by let{d,c,a,S,q,ns,rfl,D,hS,ha,hok,g}:=h,by rw[au,jg],by rw[x,?_],by rw[s,aA $a,$B]])
def mE_2:MFun:=λa b c d e f g h i j k l A B C D E F G H I J K L v=>`(#[by .rw[$A,$B,$C];rfl,by rw[aO,$A,$B,?_],by rw[this,$A],by refine(e,$a,_,@d,$b,$c),by rw[P,?_,$A],by .have:=$a;omega,by have g:i<n:=$a,by (.cases h),by rw[s,ai $a,$B],by rw[a4,@d],by let{f0,f1,f2,O,j,Y}:=hf it @v,by refine{_,@d,p,(dD,$a,$b,$c)},by let{t,rfl}:=J,by rw[be]at hi,by let{x,hx,rfl}:=bf.1 $a,by rw[ai $a]at h,_,by rw[al,@d,$A],by have:$a=$b :=@e,by refine{_,$a,?_},by rw[s,cz.1 $a,$B],by by_cases hn:@aU,by let{dx,hp}:=@kq,by rw[a4,aw $a $b],by rw[a4,(bR,$a,$b,$c,$d,$e)],by exact{$a,@d},by .rw[au,$A];exact$b,by rw[a4,(bu,$a,$b)],by rw[a4,(bF,$a,$b,$c)],by rw[af $a]at h,_,_,by (obtain rfl:u=cy a:=J),_,by (.rw[$A]at q;cases q),by rw[<-this],by rw[s,af $a,$B],by refine{_,@hL},by rw[e]at this,by have Y:=(ax,$a,H,$b),by generalize(cY,$a,$b)=H2 at*,by exact@ay,by .rw[$A,au,$B];exact$c,by rw[ax,@bZ],by rw[bc,$A,$B,(bu,$c,$d)],by rw[bS,$a>>=_],by rw[a9,1,$A,$B,$C,(aY,@B)],by have dX:(bI r).length=n:=(aA,fC,au,$a),by have ge:(dd,$a)=$b :=$c,by rw[E,i,$A,@e]])
def mE_3:MFun:=λa b c d e f g h i j k l A B C D E F G H I J K L v=>`(#[_,_,by show aX _ @r9 ($a>>=_) _ _ _,by show aX _ _ $a _ _ _,_,by have mz:=cZ $a,by let{dx,mv,hp,fO}:=@kq,by generalize@fB=tx at*,_,by refine(e,(k3,hd,@iP)),by refine(eU,_),by rw[x,@dH],by rw[ar,?_],by rw[bc,$A,$B,(aY,$c)],by (.rw[$A]at h;cases h),by rw[ab,λσ' H'=>$a,?_],by rw[cg,i<n],by rw[ds,T,@mi],by refine pF $a $b @ey @ey ?_,by let{ie,dX}:=yE (K:=K) ha hok,by show aX _ _ $a _ _ s,by let{t,rfl}:=r,_,by refine(Q,$a,_,$b,$c),by rw[fH,$A];subst e4;exact{$b,@hK,@d,@Z,$c,@iL,J,@iK,λ_=>$d},by rw[af @e],by let{ps,a,b}:=m,by .subst e;exact$a,by rw[(@fC)]at u,_,by have eV:=@ed,by rw[af (λh=>$a)],by .show$a;rw[$B];exact$c,by (.rw[e,$A]at h;cases h),by rw[P,dL,@cY],_,by refine{_,@d,_,@d,p,(dD,$a,$b,$c)},by rw[bi.ref1 r],by rw[ap,_,@d,$A,$B],by have h0:0<n:=@e,_,by rw[ay,ao,bh],by rw[bw,$A,$B,AC h6 n],by .rw[e];rw[ar,$A];exact(l2,AA h6),by rw[dq];exact$a,by have hi:$a :=@e,by refine{_,@d,p,(bh,C,l,$a,@V,$b,(el,$c))},by rw[ab,$A,{@X,@v,@aO,h0}],by by_cases h0:u=0,by let{z,aD,n,r,hl,e}:=I.lstM D])
def mE_4:MFun:=λa b c d e f g h i j k l A B C D E F G H I J K L v=>`(#[by let{zs,h,rfl,hz}:=h,by generalize(aH,$a,$b)=H1 at*,by let{l,u,b7,g}:=@tm,by refine(e,@vT),by rw[ae,hw _],by have L:(ar,H,@iO):=$a,by rw[aj,e,$A,@ml],by rw[P,λw l2 h=>@ch,@vZ],by rw[P,λx l2 z=>@cL,λq' z=>?_],by have ic:@cX=$a :=(cw,$b,au),by have Y:=(bM,H,hD),by rw[aF,a,@mg,@bZ],by rw[aE,λcN=>?_,λcN=>?_],by refine GD hp (bx $a $b),_,by (rw[e]at hi;cases hi),by refine .inr {$a,Pv @A,$b,$c},by let{zs,a,b,c}:=m,by rw[aE,@gC,λhc=>absurd $a hc],by refine(Q,_,@d,_,$a),by rw[ig.2 hb],by let{x,hx,e}:=bf.1 $a,_,by let{b1,b2}:=pk J $a,by have X:=Cg t p,_,_,by generalize ag H1 $a $b=H2 at*,by (obtain⟨z,iP,rfl⟩:∃z,$a :=$b),by exact .cons $a ih,_,by exact(show@lM from r).elim,by rw[aE,@hD,@gC],by cases r;rfl,by rw[bT];rfl,by .rw[bh];rfl,by (rw[$A]at h;cases h),by refine{$a,$b,?_,$c,?_},_,by rw[aW,ao,@kc,$A],by rw[bW,$A,$B,yF ha,@my],by rw[av,$A,@d,(a1,$b)],by refine{_,@d,q,(mk,g)},by rw[go,@kc],by have s2:=(cu,$a,Y,$b),by generalize(an,H2,$a,$b)=H3 at*,by refine lift (m1:=$a) $b ?_,by have T:@aU:=@wa,by rw[aE,λhc=>absurd @b6 @aG,@gC],by have ib:¬@aU:=by intro e;exact(bm,show V.int (@aq%2)=@ex by rw[(v,@aq%2=0)])])
def mE_5:MFun:=λa b c d e f g h i j k l A B C D E F G H I J K L v=>`(#[by refine(e,(cs,p,$a,u,hp,@hB,(eU,@l6))),by refine Ce (λσ H'=>$a) (λσ _=>$b) $c ?_,by let{u,hu,S}:=rv.get hx,by refine no (My.wR ?_ (λh=>$a)) H @bj,by have O:=sW @c4 hi,_,by refine(e,$a,@d,@e,@e,@bZ),by .intro x hi hx;rw[wO hi]at hx;rw[(@mz)];exact$a,by rw[nh,λH1 p u W mv v I J tm Y hp fO hh=>?_],by have C:=tw R h0,by (wp_walk using sR hl,sR hb),_,by (cases e:ps[i]? with|none=>rw[cA]|some c=>rw[gr]),by rw[kf,cb,ij,<-$a],by by_cases hb:(bv,(B,@aM,@T),mT ns),by let{e1,I,e3}:=Jg hb @bx @a1,_,by refine{a,ns,@T,@d,@fP,$a,@wd},by let{t',rfl}:=B,by cases B;exact$a,by refine{$a,_,@d,$b,(kZ,_)},by rw[al,show@hE from hs,iA],by refine yes ⟨ms,$a⟩ ?_ H' _ _ _ R' $b (xX jw) o',by rw[E,b,it,@gG],by refine oP $a $b @eX $c @e hD $d @bm @pU (λi z H' Q _ _ q=>$e) λH1 Y u=>?_,by refine⟨$a,$b,$c⟩<;>exact@yS,_,by by_cases e:p.1=k,by rw[hz]at this,by have Z:=h $a @v,by by_cases e:j=i,by (obtain rfl:$a :=@e),by let{aD,rv,p,hz}:=I.list U,_,by let{hp,g,d,tk,os}:=s,by let{hl,hb,h}:=h,by let{a,kvs,rfl,ha,q}:=h,_,by let{n,rfl,_}:=h,by let{a,b,r,q,n,rfl,_}:=h,_,by have s4:=(cu,$a,s3,$b),by let{a,t,rfl,_}:=h,by let{zs,hz,_}:=id $a,by rw[l]at fO hh,by rw[x,Qh $a $b ?_],by rw[E,@d4,$A,$B],by rw[aW,(D,$a,ao),$B,$C],by rw[s,z,Ll _ _],by rw[P,λw l2 h=>?_,$A]])
def mE_6:MFun:=λa b c d e f g h i j k l A B C D E F G H I J K L v=>`(#[by rw[du,⟨M,$a,os⟩,$B],_,by rw[aF,l,(a1,$a),?_],by let{j,hj,e}:=H.surj $a,by let{a,ha,rfl}:=bf.1 $a,_,_,by let{g,eh}:=gR.1 hx,_,by let{p,hp}:=KL _ $a,by have X:=T.hand i x hi hx,by let{u,rfl,J}:=vals1 r,by let{u,rfl,S}:=rv.one,_,by let{z,hd,vs,rel,dd}:=EU @cd e,by let{w',hw,V}:=km.some_of (v:=v) (o:=$a) $b,by let{aD,rv,p',hz}:=L.list U,_,by let{hd,hi}:=hg,by have s3:=aH (o:=$a) hs hT,by have s3:=(aK,$a,H2,$b),by let{a,r,n,rfl,_}:=h,_,_,_,by generalize ag H2 $a $b=H3 at*,by generalize ag H2 d $a=H3 at*,by let{cM,ec}:=fk.1 hc,by by_cases hp:@eB,by have cK:=(aV,hp),_,_,by have zj:(cA,ag $a d (ad,$b) d,$c):=ao,_,_,by rw[P,$A,λq U=>?_],by (.rw[a0,$A];cases h),by (.rw[bd,$A];cases h),_,by (rw[$A,e]at h;cases h),by show$a=some (HO.lst $b),by by_cases e:j=k,by refine no ?_ H @bj,by .rw[bl];rw[fu];exact k,_,by rw[hc]at ge;exact cq {pQ,(cX,ge,$a)},by rw[hc]at ge;exact cI {pQ,(cX,ge,$a)},by rw[aC,(bo,c=40/\$a)],by rw[P,λx l2 z=>@cL,λq z=>?_]])
def mE_7:MFun:=λa b c d e f g h i j k l A B C D E F G H I J K L v=>`(#[_,by have hj:(dm,@eh):=@kC,by let{p1,p2}:=place_lt J b1 b2,_,by rw[H.len,ai hn],by refine(e,a,_,@d,@dN,@vT),by let{x,ex}:=tm hp,by next z=>rw[hb]at z;omega,by have li:=Ob hr,by let{aD,rv,p',hz}:=I.list (aj.of (K:=X.K) $a),by let{ys,hy,cP}:=R.outer.len (K:=K),_,by cases hk;exact{$a,_,@d,@d,$b,@d},_,by rw[s,BG,iR.2 @cg],by rw[x,K2 $a afq ?_],_,_,_,_,_,_,_,by have:((λD:$a×V=>$b)∘$c)=$d :=$e,_,_,by let{t,e}:=show∃t,u=$a from r;cases e;rfl,by .intro h;exact⟨$a,h,$b⟩,by .refine .inl $a;rw[aA $b];exact h,by rw[az,k=0\/k=1\/k=2],by refine .inl {[],_,r,_,@d,@d,?_,@d},by refine E7 $a $b $c (λhc Q' q=>?_) (λhc Q' q=>?_) ?_,by have bG:(t.map @aY).length=@ah:=au _,by rw[iy,l,(by rw[be]at hx;cases e:l[i]? with|none=>rw[fv]|some z=>rw[iC])],by refine{_,h,@v,zs++[(p,x)],?_,?_,?_},by (induction hg with|one=>exact$a|mul hm _ ih=>exact$b),by let{rfl,rfl}:=Nl ib n,by (obtain⟨p,hp,rfl⟩:∃p,(C,ps,p)/\y=V.ref p:=$a),by have:(W,16777216)=a7:=@Z,by
  .intro z m;rcases bz.1 m with m|m;.exact$a
   .cases cz.1 m;exact⟨$b,$c⟩,by first|rw[x,afU @pG @dH]|rw[x,afV @pG @dH],by let{o',e1}:=I.base.there b o e hx,by .rw[af e2]at h2;have:=bT h2;rw[bX];exact@gP,by .rw[$A]at k;exact(E,q,m,b,_,_,@d,g,@hz,$b,@d,k),by (cases y with|non=>rw[dr,$A]|bl j=>rw[dr,$B]|int j=>rw[cf,$C]|str j=>rw[cf,$D]|_=>rw[dt]),by (rw[e]at hj;cases hj),by rw[hs]at hw;rw[$A,cG @aG,cG (λq=>by cases q)],_,_,by (rw[e]at hx;cases hx)])
def mE_8:MFun:=λa b c d e f g h i j k l A B C D E F G H I J K L v=>`(#[by let{e1,e2}:=hn @d,by rw[bw,$A,(a9,$b),(fH,@pZ,$c)],by rw[af hk]at hx,by rw[ai hk]at hx,by by_cases hk:@gM,by let{c,o,vs,G,rel,dd}:=hk,_,by rw[E,st',$a ::st,(bZ jx).symm],by let{y,hy,rfl}:=@kv,by let{k,hk,rfl}:=lX hx,by let{i,hi,rfl}:=@kv,by let{m,rest,e1,e2,e3,e4,G,e5}:=lst $a @d @d hl,by let{a,b,_}:=B2 T hi H hf hx L,by let{_,o,N,_}:=I.ok.funs.mem hb,by let{m,hn,hl}:=@hx,by let{e,n,ne,G,d}:=I.pin p hp,by let{o,e,c,d}:=id st',_,by let{xs,x,U,hx}:=hg,by let{u,rfl,t,rfl}:=vals1 r,by let{{V,M,afG,U},iu,cN,n2,on}:=id $a,by let{aD,r,pl,hz}:=I.list U,by let{j,Z,h2,h3,h4,h5}:=SO he,by let{aD,r',pl,hz}:=I.list U,by let{aD,r',pl,hz}:=@mF,by let{l,b,xs,zs,rfl,rfl,D,G,hz,q}:=h,by let{aD,rv,hl,_}:=I.list hs,by let{z,hd,xs,rel,dd}:=Ic @cd e,by let{acc,e1,e2,e3}:=Mv.push (x:=$a) $b $c,by have s2:=aH (o:=$a) hs hT,_,_,_,by let{x,hx,ex}:=ht.get hp,by let{a,ns,rfl,_}:=h,by let{n,rfl,h0,hn,q0}:=h,by let{{dx,hp},gH,l,aI}:=id R,by have e0:=dg (λl:$a=>l[$b]?) $c,by have hz:$a :=atU h2.2|>.1,by let{a,t,n,rfl,_}:=h,by let{p,st,L,X,n,rf,I,J,cs,ss,W,x,rfl,_}:=h,by replace g:(fU,(dd,$a)):=g,by refine(e,_,@d,d,_,@d,$a,_,@d,?_),by rw[am,λp dx m oU aI=>?_],by (rw[O]at hi;cases hi),by rw[s,q,{_,$a,λv q=>@wg}],by refine(E,$a,_,(dM,(aJ,$b))),by (rw[e]at h;cases h),_,by let{_,_,_,_,o,_,_,e,_}:=x;exact@cp])
def mE_9:MFun:=λa b c d e f g h i j k l A B C D E F G H I J K L v=>`(#[by rw[P,λw l2 h=>@ch,@wz],_,_,by rw[E,eT $a,HO.tup [$b,V.int $c],$D],_,by refine{_,@d,p,C,dx,_,_,(dK,@d,hp,@V,$a)},by rw[e]at hi;exact(aD,z,(bZ hi).symm),_,by rw[e]at hi;exact(aD,c,(bZ hi).symm),by rw[P,λy l2 z=>?_,λq' z=>@cL],by rw[bV,@cq,I.laid (t':=@bk) (o:=$a) $b @L $c,$D],by rw[ch,b7,@kc,9],by by_cases hw:@l3=[],by rw[aC,(bo,c=41/\$a)],by refine(E,a,_,(dM,@dN)),by rw[as,$A,(e4,X),@mX,(aY,$b)],by have Y:=(aK,@gV,H,hD),_,by .rw[ai $a];rw[dx,@b_,@b_,$B],by refine(e,p,C,dx,_,(a5,hp,@V,$a,@d,$b,(dM,(aJ,$c)))),by rw[j1,S.words.length],by let{_,_,_,_,o,_,_,e,_}:=x;exact⟨o,e⟩,by refine Ls (λd=>absurd d @Z) @gC,by have D:=jK (v,n-k<=n) hn,_,by let{hm,e}:=place_lt H Z h2,by have L:x.1=@bK:=(p4,@bK),by have J:=Ez (r:=r) N c,by have z2:=(aG,H1,z,@bs),by let{H,hf,x,hx,L,st}:=(ll,s),by have I2:aG n $a :=My.uT _ L $b,by let{z,hd,xs,rel,dd}:=Iu @cd e,by (obtain rfl:F=cy b:=B),by let{ys,lT,cP}:=R.told.len (K:=K),_,by have z1:=(aG,H,z,@bs),by .have Z:(c1,$a):=$b;exact nz Z (eY,100000<a7),by .intro b o e;rw[(fR,y)];exact$a,by refine{_,@d,p,(bh,C,dx,cK,@V,$a,(dA,0<1000))},by rw[aE,@hD,λhc=>absurd (bq (v,(u,d)<=1)) hc],by refine{_,@d,q,C,dx,_,_,(dK,@d,$a,@V,T.nK)},by refine{_,@d,_,@d,p,(bh,C,dx,hp,@V,$a,(dA,0<1000))},by rw[aE,λhc=>absurd @b6 @e,@hD],by rw[cD,bq (by show@d7<_;simp)],by refine(e,$a,@d,@e,@e,?_),by exact .inr (aD,q,h2 q hr),by let{b1,b2}:=d no ck,by
  .intro i x hi hx;rcases c i x hx with q|⟨_,q⟩;.exact$a
   rw[s,q,$B],by have hz:@fq<=a7:=(G,rel.length,z),by refine(e,(cs,d,C,dx,@dn,@V,@G9))])
def mE_10:MFun:=λa b c d e f g h i j k l A B C D E F G H I J K L v=>`(#[by (rw[De]at e1;cases e1),by have X:0<S.words.length:=zp.2 hw,by rw[kh,r,(by rw[be,fC,be]at hi;cases e:r[i]? with|none=>rw[cA]|some z=>rw[gp])],by rw[dw,@aJ,ns,λz=>.int $a,ha,(Q,_,@d,z,@co)],_,_,_,_,_,_,_,_,_,_,_,_,_,_,by refine{T,(E,@mi,@d,_,_,@d,_,_,@d,@d,hw _ _,?_)},_,by rw[am,g _ ?_ ?_ q dx y ?_],_,_,_,_,_,_,_,_,_,by refine(p7,(bk,n),$a,λH' hs hm=>$b),by have aI:$a :=by let{zs,h,_}:=$b;rw[h];exact@ml,by (have b:p≠X:=λe=>by rw[<-e,cK]at a;cases a),_,by have L:=vx @eu @iC,by have i:asO g=w:=@kG,by have hsz:(fK,@iE):=(r,eZ,bG),by (obtain⟨L,z,rfl⟩:∃L z,$a=L++[z]:=$b),by rw[bV,@cI,I.lset (its':=$a) D e @v $b ?_,q],by refine{p2,_,_,@d,ao,@ww,@e,$a},by refine BE (MR I hg hm ?_ j),by let{σ',H',I,q}:=h;exact⟨σ',H',I.unwish,q⟩,_,by let{σ',H',I2,e,q}:=q;exact{σ',_,@Gh,q},by rw[$A,(@bL),(@bL),(@bL),(@ax)],by rw[kz,$A,$B,by rw[jg,m.len];have:=O.hn;omega,$C],by refine(bC,$a,hd H hs ?_),by (have O:$a :=λe=>by rw[e,ao]at hD;cases hD),_,by have v:dc @T @Dy:=λh hh=>by let{w,hw,rfl}:=bf.1 hh;exact(O.wf w hw).isHand @bx])
def mE_11:MFun:=λa b c d e f g h i j k l A B C D E F G H I J K L v=>`(#[by have t:ng yp (b6 yp jq):=@gR,by rw[fw];subst e1;exact{$a,_,@d,@Z,eY,@iL,J,@wK,@iK},by refine .inr {$a,λH=>ae H1 H/\(ag,D,$b),λH' h=>{$c-@A,@e,@d,bn,h},@wC},by let{L,hw}:=Bu.1 hg;exact⟨L,z,hw⟩,by have Y:@cB:=λb o h=>k1 b o (ai,aA (du h m),aA (du h oU),h) (du h m),_,by refine{p,W,v,l1,n,sv,rf,I,J,tm,ms,M,_,os,@d,R.same Y,m1,$a,@Dw},by refine afE (h₀:=@fp) I.ok.mod.kin $a $b he dF,_,_,_,by have t:=ia S _ (by simpa using y) R,_,by refine{_,(dY,@d,1,@aq+1,@d,@fX)},by .rw[fx,$A,8,(O,hw)];rw[hw];exact(fe,@bj),by rw[ab,λi m H=>m=$a/\i<=$b/\ae H1 H/\(ag,D,$c),{$d,@v,@aO,@gT,ao}],by refine{_,@d,a,r,n,@d,ha,R,hn,@qt},by let{D,e1}:=I.base.slot b o e n hb hx,_,_,by let{k,p',r',w',rfl,hk,i,rfl}:=Md h;let{w1,a,a1,M}:=zQ n e f d _ _ _ i;exact(p8,$a,(.num k,p')::a,(O,a1),$b,wr k::oB w'),by .rw[au,bh,dj,uJ,By,uG @v];simp,_,_,_,by refine{_,@d,d,(iz,hd,@iF,(gC,@d,t,ys,@d,.inl lT))},_,_,by .have m:=$a;exact{@pX,st _ _ _ _ (NW s) @pX @qb},by have W:=afN (prog:=@a8) (w:=X.w) (A:=@r9) hh $a l JP @aR,_,by let{o1,o2,o3,D}:=Mo (n:=n) hm n 0 @aD l (gq n) @e (Hl n) $a $b,by .let{a,b,J,k,y,Z,h2,h3,h4}:=I.new x $a;refine{a,b,J,k,y,?_,h2,h3,h4};unfold tH at Z⊢;omega,by have t':@ni/\$a :=by simpa[dv]using t,by have s3:=(ax,@bs,ag H2 d (ad,@mU),hz),by .rw[cB,$A,$B,@zf];let{e,y}:=y;subst e;exact$c,by have hh:X.A.in1.handled=@r:=hr.hd,_,by let{v,a,x,_,_,j}:=h3.sub 0 (p:=p3),by have ht:=(bw,N8 (v:=@w5) $a $b (λe=>@kn)),by rw[e]at hj;exact(aD,z,(bZ hj).symm),by (obtain⟨z,hz,rfl⟩:∃z,(C,$a,z)/\c z=x:=$b),by let{wf,he,l1,e1,e2}:=R.1 x.1 x.2 hx,by let{h,w,rfl,rfl,h0,U,hw,hh,mw,hg}:=amL hb @a1,_,by rw[e]at hx;exact(aD,z,bZ hx),by .exfalso;rcases G.kinds with e|e|e|e|e|e|e<;>rw[e]at hx<;>first|exact hk e|rw[al,hx,@aG],by .injection e with e1 _;rw[e1],by let{j,H7,V,n7}:=O;exact again V n7,by
  have:(fa,λi=>$a)=$b :=by
   conv=>rhs;rw[<-aiR H.len]
   rw[bC];rfl])
def mE_12:MFun:=λa b c d e f g h i j k l A B C D E F G H I J K L v=>`(#[by generalize jz n m n 0 @aD l=y at o1 o2 o3 D,_,_,by rw[e]at hx;exact(aD,z,(bZ hx).symm),by rw[aA (B6 ec e (λz=>@wt))],by rw[aA (λq=>by rw[q,$A]at Z;cases Z)],by refine pF $a $b (gX,@d,@d,_,@d,(d,$c,q)) (gX,@d,@d,_,@d,(d,$d,q)) ?_,by let{_,_,l}:=B2 T hi H hf hx L,by refine{_,@d,d,(dD,@qz,@bz,3)},by .refine{_,@d,q,(mk,U)};rw[fu];exact k,_,by have:(F,@eb):=by simpa using eh.2,by .rw[cB,bn,$A,@zf];let{e,y}:=y;subst e y;exact$b,by have:=eX (i/dE (@aw-j)) (v,0<@aw-j+1),by have hz:x.2=[]:=by simpa using h0,by have hz:@X<=a7:=(G,Paired.length rel,z),by have W:My.cd r $a=$b :=by unfold My.cd;rw[dy,(@em)];rfl,by let{mA,O,r,_,_,_}:=SH @cd e,by refine{_,@d,a,$a,@d,ha,@e,λH1 Y=>?_},by (cases st with|nil=>cases hr|cons b st=>cases st with|nil=>cases hr|cons a st=>cases hr;simp),by let{{cls,dd,data,D},N,hc,n,hd}:=id $a,by let{p,xs,i,z,rfl,rfl,U,he,q}:=h,by have d:@eH:=λc hc=>hx c ((fY c).1 hc),by have eI:(j0 $a p o).length=n:=by unfold j0;rw[au,W],by let{_,_,_,_,o,_,_,e,ex,_}:=(c2,p,hk),by let{z2,j,n2,r2,lc,e2}:=I.lstM G,by unfold zA at h;injection h with h;exact h.symm,by rw[s,AE (λz=>by rw[z,hg]at q;cases q),q],by rw[am,bF (λcN=>?_) (λcN=>?_)],by .rintro⟨a,b⟩;exact{a,λm' hm z=>b m' hm $a},by .rintro⟨h,hg,he⟩;exact⟨h,$a,he⟩,by let{_,aD,r,o,Z,h2,n,h3}:=(f2,$a,ok a _ e),by let{q,es,ep,U,h2,h3,h4,_,h5}:=j,by rw[bA,tryCatch (wz [v] (call @b0 [v])) _],by have pT:(dU zs).length=@cX:=by unfold dU;rw[au],by have e:=yc (sv:=@K) (ms:=[]) (l2:=[]) $a,_,by let{hs,G,hx,xn,xo,vs,n,hsz,D,hm}:=I.frzK hd,by have Y:=QC s2.heap S (nE @wk),by let{hs,G,hx,xn,xo,n,hsz,kO}:=I.frzT hd,_,by have he:¬d%2=0:=λz=>hc ((u @d).2 z),_,by have aoP:4^@bW<=256:=cU (ae_ @Z jw) @Z,by .subst hb;rw[ao]at e;cases e;exact new,by let{oc,od,kV,L,pm,z,aL,ct,M,rfl,G,W}:=F.ex,by rw[m7,b∉ch,(by have q:=(hf b z).1;rw[q]at e;cases e)],by refine{@i9,J _,$a,[$b],[],$c,@v,?_,@v,?_,?_},by rw[show cA n @ay=@ai from rfl,uR fO],by cases y<;>exact absurd (show@hE from hs) iA])
def mE_13:MFun:=λa b c d e f g h i j k l A B C D E F G H I J K L v=>`(#[by (cases r with|cons G r2=>let{as,O}:=$a;let{bs,q2}:=$b;exact{_,$c}),by rw[show(F,$a||$b)by rw[xP,l9,l9];omega],by refine(sV,$a,$b,(lG,by rw[au,gn]at h;exact h.2)),_,by have j:ae H (aH,D,[]):=aH @bj hD,by
  have c:(F,lG m p x):=by
   unfold lG;have:(F,@eC):=by simpa using eh
   rw[aa];rfl,by have cJ:left.Nodup:=(d,oy,hs.imp @qG),by (induction R with|nil=>simp|cons a R ih=>simp only[cb,ij,cX,ih];rw[Bj];omega),by have O:∀H',$a->@w4:=λH' o c u hc h=>$b,by let{T,x,y,rfl,hT,rfl,M,y2}:=y,by have hl:lK n l:=λy hy=>ia y (f6 _ hy),_,by have I:=(fJ,@xa,ae.refl H',hT,hm),by have hm:((dk x).eraseDups).Nodup:=Mt _ _ @L,by have k:dc n $a :=λg hg=>by rw[aZ,hg];exact oF $b,_,by have k:∀b∈A,b∈a::A:=λb hb=>f6 _ hb,by (cases hx:m.contains x with|false=>rfl|true=>have:=$a;rw[aa];simp),by have J:(F,aRB "dict_keyiterator"):=@Z,by have B:@en≠[]:=by intro z;have:=C.len;rw[z]at this;simp at this;omega,by let{c1,c2,p',hr}:=C.1 x.1 x.2 hx,by have I:(dF,m.map @aY):=(G,Am,ha),by have q:(bD,H2,S):=⟨J.2.1,h.2⟩,by let{a,b,r,q,n,rfl,ha,hb,R,S,hn,q0}:=h,by (have z:p≠v:=λe=>by rw[<-e,$A]at r;cases r),_,_,by let{a,r,n,rfl,ha,R,h0,hn,q0}:=h,by let{p,cl,g,n,r,t,cs,i,rfl,_}:=h,by (obtain⟨⟨k,v⟩,N⟩:∃p,(C,kvs,p):={kvs[i],@ej}),by have b2:dv (ag H p @dI) ps h:=b.same (aH @bj hp),by let{p,e1,e2}:=b.get' (x:=@bK) (d,My.f_ hi,@ej),by have I1p:L2.Inv X ([$a,($b,O)]++@P) σ $c (en,C):=$d,by .exfalso;have h9:(u,$a)=0:=@b6;omega,by have es:@h1=0:=by unfold qG;rw[af (λz=>$a)],by let{N,d,b,t}:=d4.snoc @gR @se nD $a,by have b1:@kT:=(G,ec,(R.no_bounds cM).1),_,by have jw:=FU m g λc hc=>(oe c).1 hc,by (obtain⟨u,lp⟩:∃u,(K,zs,0,u):=$a),by (obtain⟨x,y,ns,rfl⟩:∃x y l,ns=x::y::l:=by match ns,hok.1 with|x::y::l,_=>exact{x,y,l,@d}),by (cases c with|true=>exact$a|false=>exact$b),_,by have e:(ck,$a):=x;show h'.get? a=some $b;exact k a _ @aK e,by rw[P,⟨o,e,ex.1⟩,λa e2=>?_],by refine(e,a,_,@d,$a,_,_,@d,@d,?_),by .rcases MI hw q with q|q;rw[ac,q];rw[s,q,.inl s],by show ae4 n c $a (placeOf (b8 $b $c) ((bD q).headD 0))=_,_,by .subst e;rw[hg]at u;cases u;exact$a])
def mE_14:MFun:=λa b c d e f g h i j k l A B C D E F G H I J K L v=>`(#[by (obtain⟨c,hc,rfl⟩:∃c,(C,$a,c)/\y=V.int @ci:=$b),by let{p,W,v,n,sv,rf,I,J,tm,ms,M,os,rfl,_}:=h,by refine{ih.1,ih.2.1,λz hz=>ih.2.2.1 z (key.2.2.1 z hz),?_},by rw[ar,{_,@d,L,(iU,tt,@d)}],by let{a,t,n,rfl,ha,{R,N},dX,h0,hn,q0}:=h,by let{k,q,I,J,tm,R2,mw,iu,lc}:=r2,by let{p,st,L,X,n,rf,I,J,cs,ss,W,rfl,_}:=h,by have:aD=its':=by simpa using dg asY d1,by .exfalso;have:=(g0,amj);have t:=G.letter hk 40 (O,this);omega,by .rw[$A]at q;injection q with e;omega,by .rw[iR];intro x hx;let{c,_,rfl}:=@kv;rfl,by let{p,u,f,l,ds,U,F,S,h,n,rfl,_}:=h,by let{p,u,f,l,ds,U,F,S,h,n,rfl,R,hl,hh,hn,g,q0}:=h,by rw[e]at hj;exact(aD,c,(bZ hj).symm),by let{d,c,a,S,q,ns,rfl,D,hS,ha,_,g}:=h,by .rw[show($a||$b)=@h by rw[mN,bU,bU];omega];rw[$C]at ge;exact$d,by rw[dw,@dg,$A,λc=>(a7,@cK),$B,(lT,@co)],by have v:@aN=p+1+@jf:=by unfold bw;rw[hk,ai hw],by refine(E,d,C,dx,_,_,@d,$a,@V,@bz,@d,vB ao $b $c $d),by
  .rcases wT hv with⟨j,u,rfl,rfl⟩|⟨y,u,rfl,rfl⟩;.rw[$A]at h;exact$b
   .rw[$C]at h;exact$d,by refine(e,(E,a,_,_,_,@d,@d,$a,Iq hp,@kl,@d,?_)),by rw[hs]at hw;rw[show I=$a from hw,(@eG),(@eG)],by have:=eX (@fG+@iS) (eY,0<2),by refine{y,_,I.lset (its':=$a) D e ?_ $b ?_,$c,q},by .rw[au,jU];simp at bG;exact@a2,by have dF:@d2=@bW:=(cw,G.names,au),by let{x,g,L}:=MN (B.all it o1 @e),by refine{p3,_,@d,aj.of a,λp4 c=>?_},_,_,by refine yes $a ?_ H' L _ _ _ R' @d ?_ (Oi $b W ss hok) @aK o',by refine{_,@d,d,od,@d,.inl {_,ao,@bZ}},by refine{_,@d,p,(iz,hp,@nr,(f1,v,(aJ,hy)))},by refine{_,@d,p,C,dx,_,_,@d,hp,@V,$a,@d,$b,@d,(a1,$c),@bZ},by refine(bT,p,C,l,(s_,b7,λH3 j s3 _ m3=>?_)),by let{S,N,J,b',i1,i2,I,t,U,T}:=g3,by let{z,y,xs,r,ob,es,ep,e,c}:=x;exact{z,y,xs,Paired.mapP r λp q z=>{z.1,$a,@eR},ob,es,ep,@f7,c},by have g:(lS,(P,q,@d9),v):=(lM,a),by have e3:(C,L.map @bA,y.2):=(dg,O),by rw[(@wn),(@wn),(@wn),aA l.symm]at this,by have c:@ft=@a7:=by have:=dg lz $a;rw[au,<-Paired.length rel]at this;simpa using this,by have hl:(iE kvs k v).length<=a7:=(b_,Nh kvs k v),by have Y:ae H1 $a :=λb o hb=>(ai,(g3,nx),$b,hb),by have L:¬(bv,! aD.toArray.isEmpty,Lg @xq):=(ai,SW hsz,aQ3,iA),by let{i,hi,eq}:=s q' J h @gA,by let{o1,o2}:=LX J n 0 $a @e (λm hm=>@e),by have q:qB d=@h/\tW ds=@h:=aRQ.mp p,_,by let{F,r',q}:=hl j y v' e1 e2 e3,by
  have Fu:(lL,∃c,(ep,y.1)):=λy hy e=>by
   rcases ok.free y hy e with k|k;.exact I.ok.has _ (.inl k)
   .exact I.ok.has _ (.inr k)])
def mE_15:MFun:=λa b c d e f g h i j k l A B C D E F G H I J K L v=>`(#[by have no:$a=@r->(cj,@K):=by intro hs H' s';have k:=q0 H' own (λc u _ h=>s' _ _ h) @wT;rw[hs]at k;exact k $b,by have yV:V.get? @al=some (k4,#[$a,$b]):=(iK,K_ $c,hT),by have d':af0 @iD _=aRS es ep:=d,by have hD:(aa,(ag H p @dI) D,@bB):=(D,du a hp,a),by have xz:(gL r q).length=n:=by unfold gL;rw[au,My.gq,R.len],by (obtain⟨pp,Z,rfl⟩:∃pp,(ah,ps,pp)/\y=V.ref pp:=@Km),by
  .have:x≠n:=by rintro rfl;exact h v mP
   simp[this],by
  .repeat(split at h;rw[ai,h,@aG])
   exact@yS,_,by refine{_,_,@d,@d,@de,_,@d,$a,_,@d,$b,@e,$c},by .injection h with h;injection h with Z h2;subst Z h2;exact{@ay,[],@d,@d},by 
  simp only[zF,HT.mY,aQY,show(1:Int)>0 by decide,iQ];by_cases h:i<0;.simp only[h,iQ]<;>omega
  .simp only[h,kG]<;>omega,by rw[ag,(lx,S,v::V),$A,(r,My.settle,$b)],by have:aK (back a) @dx=aK (back a) $a :=by rw[e],by have:(if$a then($b+2-1)/2 else 0).toNat=$c :=by split<;>omega,by .rw[av,@wx,r,$A];have e:=r.length;simp only[xU]at e;omega,by rw[bw,$A,(L,rw q @cz,(fi,$b),(a9,5)),amB e1 I @d S $c],_,by rw[aK,λz=>by rw[z,h]at q;cases q;exact j,q],by .let{a,b,c}:=I.pin p $a;exact{a,sub _ b,c},by rw[s,e,{vs,ajY (d,Nn L,cU (aRP ds) z2),λu hu=>(Z u hu).mono k,$a}],_,by
  .let{z,hz,he}:=$a;rcases bz.1 hz with h|h;.exact{z,xH _ h,he}
   .exact{z,qZ _ (ih.2.2.1 z h),he},by
  .rw[$A]at hc;rcases bz.1 (show c∈dk x.1++dk y.1 from hc)with h|h;.exact O c h
   .exact H c h,by refine(E,_,@d,q,_,_,_,@d,@d,@qM,ky,_,@d,d,_,@d,.inr {kvs,eG (at_ r i),pp,.inl k1,@d,um,@d},_,@d,?_),by rw[x,Lu (W.item $a _ _ _ (d,hsz,$b) $c λv h' C B acp ia=>?_)],_,by refine D8 aQ4 @jd aQ5 (aQ6 _ _) $a {e,e2,?_},by rintro i m H⟨rfl,hi,p⟩;have q:=hl i H hi p;by_cases bn:@hS;rw[is,$A,λH' p'=>@zD,$B];.rw[bx,@X];subst e;exact(bC,$c,hd H p),by have aI:¬((b2,@f1)=@mI):=by intro q;have q:=wy q;have L:=R.nodup;rw[oy,xI,oZ]at L;exact L j i hj cM @e (af,ec),by refine{I.ok,I.os,@gr,?_,@hx,@wu,$a,$b,$c,?_,I.len},by .have h2:¬$a :=λe=>(bm,@i2);have q:=q0 H @b5;rw[cG (λe=>h2 $b),wx]at q;exact q,by cases r;let{aD,o,n,rv,N,hc,hd}:=$a;let{as,hr}:=Dw.readsAll hok B ds _ aD ha rv;exact{_,$b},by have new:e_ @a8 X.w $a V @al $b :={@b3,$c,.cons $d (dX,$e),{_,yV,@d,_,@d}},by have aI:@bK≠@af:=λz=>ck _ @sg (aF,z),by (have uw:(K,gL r q,0,@dS):=by cases e:gL r q with|nil=>rw[e]at xz;simp at xz;omega|cons x l=>rfl),by have L:$a=$b++(L,$c,[z.2],[]):=by rw[rA,v,BJ,af2];congr 1;by_cases h:$d=@h;rw[ay,ai h,afg h];rw[ay,af h,aff h],by rw[L9 (d,(jl d HT).len,nI a),L9 (d,d.len,nI HT)],by have g:∀p,p∈@xA↔@iX/\(F,@hP)/\gm n 0 @aD p=@h:=by intro p;rw[gR,gR];simp[and_assoc],by
  have Z:=vK (C++R) (λx hx=>by
   rcases bz.1 hx with h|h;.exact(J.best x h).1
   .exact(t.new x h).1) t.nodup,_,by rw[<-img hx ((c _).1 I),<-img hy ((c _).1 G),he],by have e3:((cd r m).turned @h).no=(b4,m):=rfl,by (obtain⟨s',d,rfl⟩:∃s' d,s=s'++[d]:={s.dropLast,s.getLast aI,(aPS aI).symm}),by have u:(cj,$a):=λH' s=>by have:=q0 H' s;unfold tu at this;rw[hl,$B]at this;exact this,by (cases O with|ret u=>exact I.after U|next=>exact l5 U|brk=>exact l5 U|cont=>exact l5 U),by have JQ:(toString "min"++toString ".loop":String)="min.loop":=@Z,by (obtain⟨c2,cN⟩:∃c2,(s2.heap.update S (nE @wk)).get? S=some (xW "list" #[v,x] c2):={_,aSc J.1 @wk}),by (obtain⟨d,hd,rfl⟩:∃d,(C,ds,d)/\y=V.ref d:=by rw[aY];cases e:ds[i]? with|none=>rw[cA]|some c=>rw[gr]),by have p3:(aa,ag H2 d (ad,@mU) p2,(aT,$a)):=(D,(λe=>by rw[e,(@qz)]at ju;cases ju),ju)])
def mE_16:MFun:=λa b c d e f g h i j k l A B C D E F G H I J K L v=>`(#[by refine(e,_,_,@d,@d,1,@aq+1,@d,@ww,?_),by rw[x,aRx (atE (name:=xV "__next__") @pG Lk (Gw Lk @pG aRy ?_ (aRz _)))],by rw[x,Gv (name:=$a) (r:=$b) hT (by rw[aR8,aR9];kernel_rfl) ?_],by rw[aC,tq _ w];have:=dM w $a $b $c;unfold tq;rw[af (this.1 @e),af (this.2 @d)],by refine bx (h @P s σ _ _ L (hw od)) $a,by have Z:bY @hF (bY x.2 x.1)=x.1:=by rw[<-uQ (d,X.len,T.lt i x hi hx),uS X,wF],by .let{yy,Z,sE}:=$a;exact(E,_,@d,(f0,$b,Z,(d,ei,sE),q)),by (rw[aX];cases y with|non=>rw[dr,$A]|int j=>rw[cf,$B]|str j=>rw[cf,$C]|_=>rw[dt]),by .let{o,es,ep,N,r}:=hm;exact⟨o,es,ep,$a,r⟩,_,by refine{D,_,_,@d,@d,d,?_,(aE,$a),?_,(T,@bQ),$b,$c},by (cases J;cases y with|non=>rw[dr,$A]|bl j=>rw[dr,$B]|str j=>rw[cf,$C]|_=>rw[dt]),by show(Bw g @hV @kA).bind (λu=>Qe u f)=_;rw[hf];rfl,by refine(E,(X,$a),_,@d,(X,$b),_,@d,T,_,_,$c,(a7,$d),@d,@d,$e,@e,@e,?_,?_,?_),by (have:∀m:Nat,((br m).map λj=>([@fR,(j,@h)]:@bu).length).sum=2*m:=by intro m;induction m with|zero=>rfl|succ m ih=>rw[qY,bh,Dv,ih];simp;omega),by refine Ta hs G hx n (jD,$a,{_,@c3,@d,?_}),by have ck:∀x∈@gF,x.1≠@bK:=by intro x hx z;have:=we.1 e x hx;rw[z]at this;simp at this,_,_,by have G:=λm x=>ahg h2 h6 J m x,by
  have hk:@ng:=by
   rw[fA];.exfalso;rw[fz];have:=(g0,amk);have t:=G.letter hk 41 (O,this);omega
   .rw[fy];exact hx,by have et:(fa,@IQ)=@ja:=by unfold nL bt;rw[bC,bC];rw[ak];intro k _;show V.int (1+@av)=(b6,@aV);congr 1;omega,by have t:∀q',aG n q'->(cT,q')->(e3,q')->jZ q' m∈l:=λq' J hc hh=>(g _).2 {$a,(d,Ry hm (λc hc=>(fY c).2 hc),hh),RA J hm},by let{ys,hy,cP,qb}:=(hm.same M h4).snoc M S np ap,_,by refine(bh,x,y,hx.1,hx.2,_,@d),by refine{p,j,t,_,@T,@d,ao,$a,@we,v,@bx,W,λH2 u f0 ds U F0 y J keep=>@kB},by refine{p,dx,n,$a,@d,ao,h0,hn,λH1 W v d x B k1=>@kB},by .rw[aZ,U];have a:=h x hx;have b:=h 1 Z;simp only[eW]at a b;exact bq (r,a,b),by
  .rcases de.1 hp with rfl|hp;.exact{t,h.1,@eK,@kQ,λv z=>@cL}
   rw[a5,hp,{acr,d.1,d.2.1,d.2.2.1,(lb,ib)}],by .rw[m5,λ_ q=>q,@qL];rcases hc with z|z;rw[s,z,j b u e];.exact j c _ z,by let{w1,a,a1,M}:=inner r $a (λ_ _=>$b) [$c] @cg h;exact{w1,$d,(O,a1),$e},by .rw[ao];have:M.take @aj=M.take j++[x]:=(ab,rA,hx);rw[aN,PY];unfold gZ;rw[bh,cb,cb,bh];rfl,by refine E7 (B,@be,"word") (.str (H,@be,"word",@pO,@be)) @ey (λhb Q' k=>?_) (λhb Q' k=>?_) ?_,by .refine(e,q,m,b,_,(c5,U,@hz,@qJ,(cs,p,C,dx,hp,@V,(eU,@qD))));rw[(fh,(e1,@bJ,@aq),@nk)];exact k,by have L:(e2,H1,(en,C)):=I.turned (λb o hb e=>ia b o @gG e) d.1 d.2.1 d.2.2.2.1 d.2.2.2.2.1 d.2.2.2.2.2,by have hM:aK (fq n it) (cS n l)=@fW:=(G,Sr h2 l o2 it o1,aiJ H J (Eu hn _ $a (λ_=>h2)) $b),by have I3:=I2.turned (t':=s2.toks) @KO q.1 q.2.1 q.2.2.2.1 q.2.2.2.2.1 q.2.2.2.2.2,by (obtain⟨z,hz,rfl,rfl⟩:∃z,(C,zs,z)/\k=(b2,@aF)/\v=@d5:=by unfold dU at hk;rw[be]at hk;cases e:zs[i]? with|none=>rw[e]at hk;cases hk|some z=>rw[e]at hk;cases hk;exact{z,@d,@d,@d}),by refine .inr (al,I p cM s' hs.2 ?_);have e:(lH ($a ::s')).sum=$b+(lH s').sum:=rfl;rw[e]at ht;omega,by rw[bW,$A,$B,CH ha,{m,@bl,e1,e2,e3,G,e5}],_,by (.have:=alZ hn;cases ht:tokOf x with|num k=>rw[al,ht,this k]|word _=>rfl|sign _=>rfl|wrong=>rfl),by have U:=R2.re (dx:=l) (rf':=$a) (wn':=I) (wd':=J) (tm':=tm) @wo g R2.hM,by have R:=Rf (e:=$a) hn (ae6 $b) qh $c @ai [] (by unfold ae6;omega) @v (ph n),by
  (.left;cases ha:o.any λy=>!m.contains y with
    |true=>rfl
    |false=>
     exfalso;have js:o⊆m:=by intro c hc;rw[asI]at ha;have:=ha c hc;exact gA.1 (by simpa using this)
     have cJ:o.Nodup:=@xi;have:=@qF;rw[N.length_eq,gq]at this;omega),by rw[ng,λc=>@xz,IX n,{W,v,_,_,_,d,@d,λ_=>Dx,@L},IY m D z N],by refine step i z H' _ hz hs aI λH4 p h4 np ap=>?_,by refine akl (d:=d) (o:=od) (kvs:=@fz) (iy,(b0,$a)) {@gT,ao} (λi H' _ h=>h.1 _ _ hd) ?_ (λH' h=>N H' h.1 (by rw[pT,gn]at h;exact h.2)),by let{q,H3,I3,n3}:=q3;let{m',hm,w3}:=S q H3 n3;exact⟨m',hm,q,H3,I3,w3⟩])
def mE_17:MFun:=λa b c d e f g h i j k l A B C D E F G H I J K L v=>`(#[by have L:(ar,H,@mV):=I.turned (λb o hb e=>kk b o @gG e) f0 f1 O j Y,by (
  cases st with
  |nil=>cases jx
  |cons b st=>
   cases st with
   |nil=>cases jx
   |cons l st=>
    rw[aw,(Q,_,@d,.inr $a,?_)];rw[am,cI ?_];rw[fD,$B];have m:(pA,b,l::st,(l::st).reverse.map V.bl):=(ai,kJ,bh,KY);have J_:(pA,l,st,@I9):=(ai,kJ,bh,KY);refine(e,(gB,(X,hm),D,@f3,hm,?_));rw[nm];rw[m];refine(e,(gB,(X,ao),D,.bl l,ao,?_));.rw[au,jU,kJ,bh,cX,By];rw[uG @v];simp
    rw[J_];refine{_,@d,(X,ao),_,@d,@d,_,@d,$c};rw[cE,?_];cases l with|true=>rw[ar,$D];rw[kF];.rw[ao,e,kJ,bh];rfl|false=>rw[aw,$E];rw[kF];.rw[ao,e,kJ,bh];rfl),by rw[x,Lu (xR (qk (aks (E':=@i8) F hr.in1 @d hb I1p (dX,$a) (M.turn $b _ $c $d $e (λv2 H2=>$f) λH2 v2 a b=>⟨a,b⟩)) (λx s2 he=>?_) λ_ _ hF=>hF.elim))],by (obtain⟨m,rfl⟩:∃m,n=@aP:={@aw,@e}),_,_,by let{p,c,rfl,Z,h2}:=ao3 i v hv,_,_,by (induction L with|nil=>rfl|cons x L ih=>rw[Bq,dj,ih];simp;omega),by .let{rfl,rfl}:=e;rw[hy]at hz;cases hz;exact$a,by rw[af (show¬(c3,cy d,xQ)from iA)],by rw[ad,λL h=>?_,λL h=>?_,λq h=>@ch],by rw[P,λc' r' z=>@cL,λq z=>?_],by have hl:@dc=@ah:=@c7,by refine bx (hi @P s σ H _ I h) λF Y⟨y,H1,L,B,O⟩=>(om,$a),_,by let{t,e}:=show∃t,u=$a from r;subst e;exact$b,by refine yes $a ?_ H' L _ _ _ R' @d @aS $b @aK o',by
  .intro y hy;rcases bz.1 hy with q|q;.exact$a
   rw[a5,q,$B],by (cases B;cases x with|non=>cases J;exact$a|bl b=>cases J;exact$b|int b=>rw[aX];exact$c|str b=>rw[aX];exact$d|_=>rw[al,show@hE from D,iA]),by (rw[dq];cases x with|non=>cases J;exact$a|bl b=>cases J;exact$b|int b=>rw[aX];exact$c|str b=>rw[aX];exact$d|_=>rw[al,show@hE from D,iA]),by have g:@v_:=AG.imp λh=>il h,by have W:@bY=n:=(r,N.length_eq,gq),_,by rw[bV,@cq,I.laid (t':=tk) (o:=.lst $a) hk @L $b,$C],by refine(I.hok b u e).stay (λc v hc q=>k c v ?_ q) $a $b,by rw[E,bt @aP,1::$a,by unfold bt;rw[KG,cb,bC];rfl],by have j:∀b u,(P,b,u)->$a :=λb u e z=>$b,by rw[bA,tryCatch (zB (.ref It)) _],by
  have d:(F,lF m p x):=by
   unfold lF;have:(F,@eC):=by simpa using eh
   rw[aa];rfl,by have L:=I.laid (a:=@al) (o:=$a) (h':=$b) (t':=@bk) $c @L $d,by refine jY x g ?_ @xo (by rw[c];simp;omega),by have fin:(e_,w,s):=⟨z,H,I,V,q⟩,by let{z,hd,vs,rel,dd}:=S8 @cd ha,by let{z,hd,xs,rel,dd}:=Nj @cd ha,by rintro i m σ H⟨rfl,hi,p⟩;have q:=@xf;by_cases bn:@hS;rw[is,$A,@Du,$B];.rw[bx,@X];subst e;exact(bC,$c,@wO),by .rw[az,@A=n];rw[aN,wk];omega,by refine(e,(E,a,p,$a,$b,t,@d,@ct,dX,$c,$d,λH2 S j hj k2 g2 r2=>?_)),by refine{a,tx,@T,@d,ie,@mg,@e,@bx,@a1,$a},by have bG:(jY (gM,@h4) @aD).length=n:=$a,by .rw[ao];unfold nL;rw[bh,bh];rfl,by (.refine q2 @b_;rw[bq h.1,$A]at hc;cases hc),by .have F:¬q.1=k:=λz=>e (Z.trans z);have b:$a=$b :=$c;rw[tT e,b];exact ih,by .rw[p,kJ,bh,cX,By];rw[uG @v];simp,by refine as6 (pl:=pl) (ff,λu Y⟨x,H1,L,J,a,dx,fs,ex,M,l,q⟩=>?_) ht,by .let{aD,r,pl,hz}:=@mF;refine$a;rw[(@xv),HR r fs];exact q,by rw[(@cl),(@fb),af h3,af h4,af h5],by have:=hd.length_le_of_subset hs,by rw[DE (by simpa[fB]using hj)]at h])
def mE_18:MFun:=λa b c d e f g h i j k l A B C D E F G H I J K L v=>`(#[by have a:g≠[]:=by intro z;have:=R.len;rw[z]at this;simp at this;omega,by let{it,l,e,_}:=EH (show$a=$b+1 by have:=$c;omega),by let{Z,h2,h3,h4}:=G1 v hi H hf ex,by let{Y,s2,s3,s4}:=G1 v hi H hf ex,by have I4:$a :=I3.kept (t':=s3.toks) @wW])
local macro_rules|`(@$n:ident)=>mPic #[mZ_0,mZ_1,mZ_2,mZ_3,mZ_4,mZ_5,mZ_6,mZ_7,mZ_8,mZ_9,mZ_10,mZ_11,mZ_12,mZ_13,mZ_14,mZ_15,mZ_16,mZ_17,mZ_18,mZ_19,mZ_20,mZ_21,mZ_22,mZ_23,mZ_24,mZ_25,mZ_26,mZ_27,mZ_28,mZ_29,mZ_30,mZ_31,mZ_32,mZ_33,mZ_34,mZ_35,mZ_36,mZ_37,mZ_38,mZ_39,mZ_40,mZ_41,mZ_42,mZ_43,mZ_44,mZ_45,mZ_46,mZ_47,mZ_48] n.getId
def mQck(l:Array MFun)(n:Lean.Term)(y:Array Lean.Term):MTrm:=let u(i:Nat):Lean.Term:=y.getD i n;let w(i:Nat):MRul:=⟨Lean.mkNode ``Lean.Parser.Tactic.rwRule #[Lean.mkNullNode,u i]⟩;mPic (l.map λf=>f (u 0) (u 1) (u 2) (u 3) (u 4) (u 5) (u 6) (u 7) (u 8) (u 9) (u 10) (u 11) (w 0) (w 1) (w 2) (w 3) (w 4) (w 5) (w 6) (w 7) (w 8) (w 9) (w 10) (w 11) (λi=>y.extract i)) n.raw.getId
local macro_rules|`(($n:ident,$x,*))=>mQck #[mT_0,mT_1,mT_2,mT_3,mT_4,mT_5,mT_6,mT_7,mT_8,mT_9,mT_10,mT_11,mT_12,mT_13,mT_14,mT_15,mT_16,mT_17,mT_18,mT_19,mT_20,mT_21,mT_22,mT_23,mT_24,mT_25] n x.getElems
local macro_rules|`(tactic|rw[$x,*])=>do let z:Array Lean.Term:=x.getElems.map λr=>⟨r.raw[1]⟩;let r:=(<-mQck #[mE_0,mE_1,mE_2,mE_3,mE_4,mE_5,mE_6,mE_7,mE_8,mE_9,mE_10,mE_11,mE_12,mE_13,mE_14,mE_15,mE_16,mE_17,mE_18] z[0]! (z.extract 1)).raw;let r:=if r.getKind==``Lean.Parser.Term.paren then r[1] else r;let q:Lean.TSyntax ``Lean.Parser.Tactic.tacticSeq:=⟨r[1]⟩;`(tactic|($q))
def mObt:Nat->Lean.Syntax->Lean.MacroM (Lean.TSyntax `rcasesPat)|0,_=>Lean.Macro.throwUnsupported|n+1,s=>do
 let s:=(s.getArgs.find? (·.isOfKind `«term{_}»)).getD s
 if s.isIdent then let i:Lean.Ident:=⟨s⟩;`(rcasesPat|$i:ident) else if s.isOfKind ``Lean.Parser.Term.hole then `(rcasesPat|_) else if s.isOfKind `«term{_}» then let l<-s[1].getSepArgs.mapM (mObt n);`(rcasesPat|⟨$[$l:rcasesPat],*⟩) else Lean.Macro.throwUnsupported
local macro_rules|`(tactic|let $p:term:=$e)=>do let r<-mObt 9 p;`(tactic|obtain $r:rcasesPat:=$e)
local macro_rules|`({$x:term,*})=>do let y:=x.getElems;let z:=y.back!.raw;let t(r:Lean.Syntax):=r.isOfKind ``Lean.Parser.Term.tuple||r.isOfKind ``Lean.Parser.Term.explicit;let q<-(if t z then Lean.Macro.expandMacro? z else pure none);let r:=q.getD z;let w(a:Array Lean.Syntax):MTrm:=let v:Array Lean.Term:=y.pop++a.map λs=>⟨s⟩;`({$v:term,*});if r.isOfKind ``Lean.Parser.Term.anonymousCtor||r.isOfKind `«term{_}» then w r[1].getSepArgs else if q.isSome&&t r then w #[r] else `(⟨$y,*⟩)
namespace My
open Vbcjac PyVbcjac
variable{b c d e n no w:Nat}{F P S:@Q}{q y:Row}{U:@aZ}{α:@az}{left o:@o}{l:fP}{K N u:im}{a z:ax}{W:@bu}{t:xF}
structure bH(n:Nat)(h:ax):@u where
 len:@bq=n
 lt:∀i,i<n->@nY<n
 inj:∀i j,i<n->j<n->@nY=@eN->i=j
def f_{h:ax}{i:Nat}(hi:@jI):@bK=h[i]:=by unfold at_;rw[dy,(@ej)];rfl
def aui{h:ax}{i:Nat}(hi:@bq<=i):@bK=@af:=by unfold at_;rw[dy,ny hi];rfl
def uP{b:ax}(hl:@ol)(h:∀i,i<@eU->at_ a i=at_ b i):a=b:=(qi,f_ Z,f_ h2)
def LC(a b:ax):@dx=b.map (bY a):=@d
def l_(a b:ax):(aK a b).length=@bX:=by simp[LC]
def nF{b:ax}{i:Nat}(hi:i<@bX):at_ @dx i=bY a (at_ b i):=by rw[f_ (by simpa[l_]using hi),f_ hi];simp[LC]
def zJ(h:ax)(x:@ar):bY h x=((at_ h x.1).1,(at_ h x.1).2 !=x.2):=@d
def nG(h:ax)(i:Nat):@gh=@bK:=by rw[zJ];show(@nY,(at_ h i).2 !=@K)=@bK;simp
def uQ{b:ax}{x:@ar}(hx:x.1<@bX):bY @dx x=bY a (bY b x):=by let{i,u}:=x;simp only[zJ,nF hx];rw[asn]
def ph(n:Nat):(same n).length=n:=by simp[same]
def rC(n i:Nat):at_ @ai i=@af:=by
 rcases dH i n with h|h;.rw[f_ @GZ];simp[same]
 .rw[aui @GZ]
def wF(n:Nat)(x:@ar):bY @ai x=x:=by let{i,u}:=x;simp[zJ,rC]
def jJ(n:Nat)(h:ax):aK @ai h=h:=by
 rw[LC];have:bY @ai=id:=by funext x;exact wF n x
 rw[aN,qX]
def uR{h:ax}(hl:@bq=n):aK h @ai=h:=by apply uP (by simp[l_,ph,hl]);intro i hi;rw[nF (by simpa[l_]using hi),rC,nG]
def bH.lt'{n h}(H:@aB){x:@ar}(hx:x.1<n):(bY h x).1<n:=H.lt _ hx
def ki{b c:ax}(hb:@bX=n)(hc:bH n c):aK a (aK b c)=aK @dx c:=by
 apply uP (by simp[l_]);intro i hi;have g:i<@cJ:=by simpa[l_]using hi
 have hn:i<n:=by simpa[hc.len]using g
 rw[nF (by simpa[l_]using g),nF g,nF g,uQ (d,hb,hc.lt _ hn)]
def mS(n:Nat):bH n @ai where
 len:=ph n
 lt:=λi hi=>by simpa[rC]using hi
 inj:=λi j _ _ h=>by simpa[rC]using h
def jl{b:ax}(ha:bH n a)(hb:bH n b):bH n @dx where
 len:=by simp[l_,hb.len]
 lt:=λi hi=>(d,(@JE),ha.lt _ (hb.lt _ hi))
 inj:=λi j hi hj h=>by rw[(@JE),nF (by simpa[hb.len]using hj)]at h;exact hb.inj i j hi hj (ha.inj _ _ (hb.lt _ hi) (hb.lt _ hj) h)
def auj{l:@o}(hd:l.Nodup)(bn:∀x∈l,x<n)(hl:@R=n){i:Nat}(hi:i<n):i∈l:=by
 refine aso λa=>?_;have Z:(i::l).Nodup:=mJ.2 ⟨a,hd⟩;have h2:(i::l)⊆br n:=by
  intro x hx;rcases de.1 hx with h|h;.subst h;exact ja.2 hi
  .exact ja.2 (bn x h)
 have:=Z.length_le_of_subset h2;simp[hl]at this;omega
def bH.firsts_nodup{n h}(H:@aB):(h.map @aA).Nodup:=by rw[oy,oZ];intro i j hi hj E he;simp only[au]at hi hj;simp only[iI]at he;rw[<-f_ hi,<-f_ hj]at he;have:=H.inj i j (by simpa[H.len]using hi) (by simpa[H.len]using hj) he;omega
def bH.surj{n h}(H:@aB){i:Nat}(hi:i<n):∃j,j<n/\@eN=i:=by have:=auj (n:=n) H.firsts_nodup (by intro x hx;rw[fE];let{k,hk,rfl}:=lX hy;rw[<-f_ hk];exact@uB) (by simp[H.len]) hi;let{y,hy,rfl}:=bf.1 this;let{k,hk,rfl}:=lX hy;exact{k,@Lb,(aF,f_ hk)}
def GY(h:ax):(back h).length=@bq:=by simp[back]
def BM{h:ax}(H:@aB){j:Nat}(hj:j<n):at_ @jm @eN=(j,@lx):=by
 have bn:=H.lt j hj;have yG:j<@bq:=@nT;rw[f_ (ai,GY,H.len,bn)];have hf:h.findIdx (fO,@eN)=j:=by
  rw[aPH yG];constructor;.rw[f_ yG];simp
  .intro k hk;have pT:k<@bq:=@e;rw[<-f_ pT];refine ig.2 @sr;have yH:=eq_of_beq he;have:=H.inj k j @e hj yH;omega
 simp only[back,iI,o0,hf]
def uS{n h}(H:@aB):aK @jm h=@ai:=by
 apply uP (by simp[l_,ph,H.len]);intro i hi;have g:@jI:=by simpa[l_]using hi
 have hn:i<n:=(d5,g);rw[nF g,rC,zJ,BM H hn];simp
def QS{n h}(H:@aB):aK h @jm=@ai:=by
 apply uP (by simp[l_,ph,H.len,GY]);intro i hi;have g:i<(back h).length:=by simpa[l_]using hi
 have hn:i<n:=by rw[<-H.len,<-GY];exact g
 rw[dZ,hn];subst e;rw[nF g,rC,BM H hj,zJ];simp
def oF{n h}(H:@aB):bH n @jm where
 len:=(hj,GY)
 lt:=λi hi=>by rw[dZ,hi];subst e;rw[BM H hj];exact hj
 inj:=λi k hi hk he=>by rw[dZ,hi];let{l,hl,F}:=H.surj hk;subst e F;rw[BM H hj,BM H hl]at he;have a:j=l:=he;rw[a]
inductive Gen(n:Nat)(S:@Q):ax->@u|one:(a8,@ai)|mul{g h}:g∈S->@cw->(a8,aK g h)
def dc(n:Nat)(S:@Q):@u:=∀g∈S,bH n g
def Gen.isHand{n S h}(v:@aI)(hg:@cw):@aB:=by rw[fh,mS n,jl (v _ hm) ih]
def Gen.comp{n S a b}(v:@aI)(ha:(a8,a))(hb:(a8,b)):(a8,@dx):=by induction ha with|one=>rw[jJ];exact hb|@mul g h hm hh ih=>rw[<-ki (hh.isHand v).len (hb.isHand v)];exact Gen.mul hm ih
def Gen.mem{n S g}(v:@aI)(hg:g∈S):(a8,g):=(gj,Gen.mul hg (Gen.one (n:=n) (S:=S)),uR (v g hg).len)
def Gen.mono{n S T h}(a:∀g∈S,g∈T)(hg:@cw):(et,T):=by rw[fh,@gw,Gen.mul (a _ hm) ih]
def Gen.trans{n S T h}(HT:dc n T)(a:∀g∈S,Gen n T g)(hg:@cw):(et,T):=by rw[fh,@gw,Gen.comp HT (a _ hm) ih]
def power(n:Nat)(h:ax):Nat->ax|0=>@ai|k+1=>aK h (aj,k)
def sS{n h}(H:@aB)(k:Nat):bH n (aj,k):=(oK,mS n,jl H ih)
def Ej{n h}(H:@aB)(a b:Nat):(aj,a+b)=aK (aj,a) (aj,b):=by induction a with|zero=>rw[oz];exact(jJ n _).symm|succ a ih=>rw[Nat.succ_add];show aK h (aj,a+b)=aK (aK h (aj,a)) (aj,b);rw[ih,ki (sS H a).len (sS H b)]
def Gen.power{n S h}(v:@aI)(hg:@cw)(k:Nat):(a8,(aj,k)):=(oK,@gw,(hb,hg,ih))
def pj{α:@az}(v:@as):Nat->(ej,α)|0=>[[]]|n+1=>v.flatMap @FK
def QT{α:@az}{v:@as}:∀{n:Nat}{l:@as},@R=n->(∀x∈l,x∈v)->l∈pj v n|0,[],_,_=>by simp[pj]|n+1,x::l,hl,h=>by simp only[pj,jT,bf];exact{x,h x @v,l,QT @jA @FL,@d}
def signed(n:Nat):@bu:=(jE,n,[@af,(i,@h)])
def BN{x:@ar}:x∈@iV↔x.1<n:=by
 let{i,u}:=x;simp only[signed,jT,ja];constructor;.rintro⟨j,hj,h⟩;simp at h;rcases h with h|h<;>omega
 rw[e_,i,by cases u<;>simp]
def Ek(n:Nat):(signed n).length=2*n:=by induction n with|zero=>rfl|succ n ih=>simp only[signed]at ih⊢;rw[qY,PY,dj,ih];simp;omega
def bH.mem_all{n h}(H:@aB):h∈pj @iV n:=by apply QT H.len;intro x hx;rw[fF];rw[<-f_ hk];exact BN.2 @uB
def auk{n h}(H:@aB):∃k,(aj,@aV)=@ai:=by
 refine aso λck=>?_;have ck:∀k,(aj,@aV)≠@ai:=λk e=>ck ⟨k,e⟩;have aI:∀i j,i<j->(aj,i)≠(aj,j):=by
  intro i j E e;rw[ag,(aj,j),@Ep,by rw[<-Ej H];congr 1;omega];have e3:aK (back (aj,i)) (aj,i)=aK (back (aj,i)) @Ep:=by rw[<-e2,<-e]
  rw[ki (sS H i).len (sS H (j-i)),uS (sS H i),jJ]at e3;rw[a3,j-i,(j-i-1)+1];rw[this]at e3;exact ck _ e3.symm
 let N:=@uC;have hd:((br (N+1)).map (power n h)).Nodup:=by rw[oy,oZ];intro i j hi hj E;simpa using aI i j E
 have hs:((br (N+1)).map (power n h))⊆pj @iV n:=by intro x hx;let{k,_,rfl}:=@kv;exact(sS H k).mem_all
 rw[nq];simp[N]at this;omega
def GZ{n a b}(ha:bH n a)(hb:bH n b)(e:@dx=@ai):back a=b:=by rw[lh,@ai];rw[ki ha.len hb,uS ha,jJ,uR (oF ha).len]at this;exact this.symm
def Gen.back{n S h}(v:@aI)(hg:@cw):(a8,@jm):=by have H:=hg.isHand v;let{k,e}:=auk H;have:aPI h=My.power n h k:=GZ H (sS H k) e;rw[aa];exact hg.power v k
def GoodR(n i:Nat)(S:@Q)(x:@ar×ax):@u:=(a8,x.2)/\bY x.2 @af=x.1
def sV(old:dw)(x:@ar×ax)(acc:dw)(g:ax):dw:=let y:=@g0;(L,(pe,y),acc,acc++[(y,@dt)])
def aul{n S x i g}(v:@aI)(hi:i<n)(hg:g∈S)(hx:@oa):GoodR n i S (@g0,@dt):=by rw[ae,Gen.mul hg hx.1];show bY @dt @af=@g0;rw[uQ (aW,(hx.1.isHand v).len),hx.2]
def agm{n i:Nat}{S:@Q}(v:@aI)(hi:i<n){old:dw}{x:@ar×ax}(hx:@oa):∀(e:@Q)(acc:dw),(pO,∀g∈e,g∈S,e.foldl (sV old x) acc,(∀z∈r,@w8)/\(iR,r)/\@Ke/\(∀g∈e,@KN))
 |[],acc,_,Z,h2=>@Fx
 |g::e,acc,c,Z,h2=>by
  have hg:g∈S:=c g @v;have key:(∀z∈@px,@w8)/\(iR,@px)/\(∀z∈acc,z∈@px)/\∃z∈old++@px,z.1=@g0:=by
   unfold sV;by_cases hc:(pe,@g0)=@h;.simp only[hc,iQ];let{z,hz,he}:=PZ.1 hc;exact{Z,h2,λ_ h=>h,z,hz,eq_of_beq he}
   .simp only[hc];rw[av,?_,?_,?_]
    .intro z hz;rcases bz.1 hz with h|h;.exact Z z h
     rw[a5,h,aul v hi hg hx]
    .show(iR,acc++[(@g0,@dt)]);rw[<-eM,bh];rw[Du];rw[ab,h2,@v];intro a ha b hb;simp only[cb,xG,cz]at hb;subst hb;let{z,hz,rfl}:=bf.1 ha;intro he;apply hc;exact PZ.2 {z,hz,eW.2 he}
    .intro z hz;exact xH _ hz
    .exact{(@g0,@dt),@v,@d}
  have ih:=agm v hi hx e @px (λg' h=>c g' @yA) key.1 key.2.1;simp only[zo];rw[kj];intro g' u;rcases de.1 u with rfl|h;rw[lq,key.2.2.2];.exact ih.2.2.2 g' h
def agn{n i:Nat}{S:@Q}(v:@aI)(hi:i<n){old:dw}:∀(l:dw)(acc:dw),(pO,∀x∈l,@oa,l.foldl (λacc x=>@AH) acc,(∀z∈r,@w8)/\(iR,r)/\@Ke/\(∀x∈l,∀g∈S,@KN))|[],acc,_,Z,h2=>@Fx|x::l,acc,hl,Z,h2=>by have key:=agm v hi (old:=old) (hl x @v) S acc (λ_ h=>h) Z h2;have ih:=agn v hi (old:=old) l @AH (λy h=>hl y @yA) key.1 key.2.1;simp only[zo];rw[kj];intro d C g hg;rcases de.1 C with rfl|h;rw[lq,key.2.2.2 g hg];.exact ih.2.2.2 d h g hg
structure El(n i:Nat)(S:@Q)(r:dw):@u where
 good:∀x∈r,@oa
 nodup:@Lq
 start:(@af,@ai)∈r
 closed:∀x∈r,∀g∈S,∃z∈r,z.1=@g0
def aum(gens:@Q)(f:Nat)(old l:dw)(hl:@gc):Ky gens (f+1) old l=Ky gens f (old++@KF) @KF:=by
 have:(F,@pE):=by cases l<;>simp_all
 simp only[Ky,this];rfl
def aun(gens:@Q)(f:Nat)(old:dw):Ky gens f old []=old:=by cases f<;>simp[Ky]
def ago{n i S}(v:@aI)(hi:i<n){r:dw}(Z:∀x∈r,@oa)(h2:@Lq):r.length<=2*n:=by
 have hs:r.map @aA⊆@iV:=by intro y hy;rw[aZ,hy];rw[BN,<-(Z x hx).2];exact((Z x hx).1.isHand v).lt _ hi
 have:=h2.length_le_of_subset hs;simpa[Ek]using this
def auo{i:Nat}(v:@aI)(hi:i<n):∀(f:Nat)(old l:dw),(∀x∈old,@oa)->(old.map @aA).Nodup->(@af,@ai)∈old->(∀x∈l,x∈old)->(∀x∈old,x∈l\/∀g∈S,∃z∈old,z.1=@g0)->(@gc->2*n+1<=old.length+f)->El n i S (Ky S f old l):=by
 intro f;induction f with
 |zero=>
  intro old l Z h2 h3 h4 h5 h6;by_cases hl:l=[];.subst hl;exact{Z,h2,h3,@FO}
  .have:=h6 hl;have:=ago v hi Z h2;omega
 |succ f ih=>
  intro old l Z h2 h3 h4 h5 h6;by_cases hl:l=[];.subst hl;rw[aun];exact{Z,h2,h3,@FO}
  .rw[aum _ _ _ _ hl];have key:=agn v hi (old:=old) l [] (λx hx=>Z x (h4 x hx)) @v @rn;apply ih
   .intro x hx;rcases bz.1 hx with h|h;.exact Z x h
    .exact key.1 x h
   .exact key.2.1
   .exact xH _ h3
   .intro x hx;exact qZ _ hx
   .intro x hx;rcases bz.1 hx with h|h
    .right;intro g hg;rcases h5 x h with h'|h';.exact key.2.2.2 x h' g hg
     .let{z,hz,he}:=h' g hg;exact{z,xH _ hz,he}
    .exact ak h
   .intro hm;have:=h6 hl;have:0<(l.foldl (λacc x=>@AH) []).length:=zp.2 hm;rw[dj];omega
def sW{i:Nat}(v:@aI)(hi:i<n):El n i S (kF n i S):=by
 unfold kF;apply auo v hi;.intro x hx;rw[(@mz)];exact{@gw,by simp[wF]}
 .simp
 .simp
 .intro x hx;exact hx
 .intro x hx;exact ak hx
 .intro _;simp
def El.of_gen{n i S r}(v:@aI)(hi:i<n)(O:El n i S r){h}(hg:@cw):∃z∈r,z.1=@gh:=by induction hg with|one=>exact{_,O.start,by simp[wF]}|@mul g h hm hh ih=>let{z,hz,he}:=ih;let{w,hw,a}:=O.closed z hz g hm;exact{w,hw,(aA,a,he,(@Ju))}
def El.mem_iff{n i S r}(v:@aI)(hi:i<n)(O:El n i S r)(y:@ar):y∈r.map @aA↔∃h,@cw/\@gh=y:=by
 constructor;.intro hy;rw[aZ,hy];exact{x.2,@AI,(O.good x hx).2}
 .rintro⟨h,hg,rfl⟩;let{z,hz,he}:=O.of_gen v hi hg;exact bf.2 ⟨z,hz,he⟩
def eP(S:@Q)(i:Nat):@Q:=S.filter λg=>fR g i
def kK{h:ax}{i:Nat}:@eq↔@B7:=by simp[fR,iR]
def Em{h:ax}{i j:Nat}(E:j<=i)(hf:@eq):fR h j=@h:=by rw[kK]at*;exact λk hk=>hf k @e
def xY{i:Nat}{g:ax}:g∈@dJ↔g∈S/\(dN,g):=gR
def agp{i j:Nat}(E:j<=i){g:ax}(hg:g∈@dJ):g∈eP S j:=by rw[xY]at*;exact{hg.1,Em E hg.2}
def dc.lev{n S}(v:@aI)(i:Nat):dc n @dJ:=λg hg=>v g (xY.1 hg).1
def En(n i:Nat):(dN,@ai):=by rw[kK];intro j _;exact rC n j
def LD{n i a b}(hb:@bX=n)(hi:i<=n)(ha:(dN,a))(G:(dN,b)):(dN,@dx):=by rw[kK]at*;intro j hj;rw[nF @e,G j hj,nG,ha j hj]
def LF{n i a}(H:bH n a)(hi:i<=n)(ha:(dN,a)):(dN,back a):=by rw[kK]at*;intro j hj;have:=BM H (j:=j) @e;rw[ha j hj]at this;exact this
def Gen.fixes{n S i h}(v:@aI)(hi:i<=n)(hg:@rT):@eq:=by induction hg with|one=>exact En n i|mul hm hh ih=>exact LD (hh.isHand @c4).len hi (xY.1 hm).2 ih
def zK{n h}(H:@aB)(hf:fR h n=@h):h=@ai:=by apply uP (r,H.len,ph);intro i hi;rw[rC];exact kK.1 hf i (d5,hi)
def LG(n:Nat)(S:@Q):(ke n S).length=n:=by simp[ke]
def QU{i:Nat}(hi:i<n):(ke n S)[i]'(by simpa[LG]using hi)=@lN:=by simp[ke,eP]
def zM{i:Nat}(hi:i<n):(k8,i)=@lN::(k8,@A):=(G,QU hi,v_ (by simpa[LG]using hi))
def LH(n:Nat)(S:@Q):(k8,n)=[]:=by apply wb;simp[LG]
def QV(i:Nat)(h:ax):mK [] i h=h:=by unfold mK;rfl
def agq{l:dw}{r:@aZ}{i:Nat}{h:ax}(e:(jH,@gh)=@r):mK (l::r) i h=h:=by unfold mK;simp only[e]
def BO{l:dw}{r:@aZ}{i:Nat}{h:ax}{x}(e:(jH,@gh)=some x):mK (l::r) i h=mK r @A @e_:=by rw[mK];simp only[e]
def LI{l:dw}{y:@ar}{x}(e:(jH,y)=some x):x∈l/\x.1=y:={zq e,(p4,y)}
def LJ{l:dw}{y:@ar}(h:∃z∈l,z.1=y):∃x,(jH,y)=some x:=by let{z,hz,he}:=h;cases e:l.find? (λx=>x.1==y)with|some x=>rw[a_,x]|none=>have:=we.1 e z hz;simp[he]at this
def G1{i:Nat}(v:@aI)(hi:i<n){h:ax}(H:@aB)(hf:@eq){x}(e:(kF n i @dJ).find? (fO,@gh)=some x):bH n @e_/\fR @e_ @A=@h/\Gen n @dJ x.2/\h=aK x.2 @e_:=by
 rw[dc];let{hm,he}:=LI e;have G:=O.good x hm;have a:=G.1.isHand @c4;have k:=oF a;rw[av,jl k H,?_,G.1];.rw[kK];intro j hj;rw[nF @hh];rcases dH j i with t|t;rw[aj,kK.1 hf j t,nG,kK.1 (LF a @e (G.1.fixes v @e)) j t];.rw[a3,j,i];subst this;rw[nG]at he;rw[<-he,<-G.2,<-uQ (aW,a.len),uS a,wF]
 .rw[ki k.len H,QS a,jJ]
def LK{n:Nat}{S:@Q}(v:@aI){h:ax}(H:@aB):∀(i:Nat),i<=n->@eq->mK (ke n S) 0 h=@lF
 |0,_,_=>rfl
 |i+1,hi,hf=>by
  rw[LK v H i @e (Em @e hf),zM @e];have c:=(hB,hf);have O:=sW @c4 (v,i<n);let{x,ex}:=LJ (l:=@lN) (y:=@gh) {_,O.start,(r,nG,c)};rw[BO ex];let{hm,he}:=LI ex;have:x=(@af,@ai):=by
   have hn:=O.nodup;rw[oy,xI,oZ]at hn;let{a,ha,e1}:=lX hm;let{b,hb,e2}:=lX O.start;have g:x.1=@af:=(aA,he,nG,c);rcases Bi a b with d|d|d;.exfalso;apply hn a b ha hb d;rw[e1,e2,g]
   .subst d;rw[<-e1,<-e2]
   .exfalso;apply hn b a hb ha d;rw[e1,e2,g]
  subst this;have j:back @ai=@ai:=@FN;simp only[j,jJ]
def G2{n:Nat}{S:@Q}(v:@aI):(lZ,@aB->@eq->@lF=@ai->@rT)|0,i,hk,h,H,hf,_=>(ow,(@oN),@gw)|k+1,i,hk,h,H,hf,hs=>by rw[bO];rw[zM hi]at hs;cases ex:(kF n i (eP S i)).find? (λx=>x.1==bY h (i,false))with|none=>rw[agq ex]at hs;rw[hs];exact@gw|some x=>rw[BO ex]at hs;rw[nu];have:=G2 v k @A @e _ Z h2 hs;rw[h4];exact Gen.comp @c4 h3 (this.mono λg hg=>agp @e hg)
def Eo(n:Nat)(S:@Q):@u:=∀i,i<n->∀x∈@lN,∀g∈@dJ,@yY
def QW{n:Nat}{S:@Q}(v:@aI)(F:Eo n S):(lZ,@rT->@lF=@ai)|0,i,hk,h,hg=>by rw[cg,i=n];subst hi;rw[LH,QV];exact zK (hg.isHand @c4) (hg.fixes v @L)|k+1,i,hk,h,hg=>by rw[bO];have ih:=QW v F k @A @e;rw[dc];induction hg with|one=>rw[<-LK v (mS n) i @e (En n i),LK v (mS n) n @L (En n n),LH,QV]|@mul g h hm hh a=>have H:=hh.isHand @c4;have hf:=hh.fixes v @e;have d:=v.lev i g hm;let{x,ex}:=LJ (O.of_gen @c4 hi hh);rw[nv];rw[zM hi,BO ex]at a;have g1:Gen n (eP S @A) @e_:=G2 v k @A @e _ Y s2 a;have l:Gen n @dJ @dt:=Gen.mul hm s3;have c:=l.isHand @c4;have b:=l.fixes v @e;have hs:=F i hi x (LI ex).1 g hm;rw[LK v c i @e b,zM hi]at hs;let{z,C}:=LJ (O.of_gen @c4 hi l);rw[BO C]at hs;let{t1,t2,Z,t4}:=G1 v hi c b C;have g2:Gen n (eP S @A) (aK (back z.2) @dt):=G2 v k @A @e _ t1 t2 hs;rw[ah,aK g h,aK @dt @e_,by have:=s3.isHand @c4;rw[<-ki this.len Y,<-s4]];rw[ag,bY (aK g h) @af,bY @dt @af,by rw[e1,uQ (aW,Y.len),nG _ i,(hB,s2)]];rw[zM hi,BO (d,e2,C)];apply ih;have hz:=(Z.isHand @c4);rw[e1,ki c.len Y];exact Gen.comp (v.lev @A) g2 g1
def aup(h:Kz n S=@r):Eo n S:=by
 intro i hi x hx g hg;unfold Kz at h;rw[List.findSome?_eq_none_iff]at h;have fY:@dt∈((ke n S).zipIdx).flatMap λl=>l.1.flatMap λx=>(S.filter λg=>fR g l.2).map λg=>@dt:=by
  rw[jT];rw[ab,(@lN,i),?_];.rw[<-QU hi];rw[asp];exact bX _
  rw[s,jT,{x,hx,(a0,g,hg)}]
 have:=h _ fY;by_cases hc:@yY;.exact hc
 .simp[hc]at this
def auq(h:Kz n S=some z):∃i,i<n/\∃x∈@lN,∃g∈@dJ,z=mK (ke n S) 0 @dt/\z≠@ai:=by
 unfold Kz at h;let{k,hk,he}:=List.exists_of_findSome?_eq_some h;rw[jT]at hk;let{{l,i},hl,hk}:=hk;rw[jT]at hk;let{x,hx,hk}:=hk;let{g,hg,rfl}:=bf.1 hk;rw[asp]at hl;let{hi,hl}:=fk.1 hl;rw[LG]at hi;rw[QU hi]at hl;by_cases hc:@yY;.simp[hc]at he
 .simp[hc]at he;refine{i,hi,x,(d,hl,hx),g,hg,he.symm,?_};rw[<-he];exact hc
def agr{n:Nat}{S:@Q}(v:@aI):(lZ,@aB->@eq->@cw->@lF≠@ai->∃j,i<=j/\j<n/\(a8,@lF)/\fR @lF j=@h/\∀w∈kF n j (eP S j),w.1≠bY @lF @fR)|0,i,hk,h,H,hf,hg,aI=>by exfalso;apply aI;rw[az,i=n];subst this;rw[LH,QV];exact@oN|k+1,i,hk,h,H,hf,hg,aI=>by rw[bO];rw[zM hi]at aI⊢;cases ex:(kF n i (eP S i)).find? (λx=>x.1==bY h (i,false))with|none=>rw[agq ex];refine{i,@L,hi,hg,hf,?_};intro w hw he;have:=we.1 ex w hw;simp[he]at this|some x=>rw[BO ex]at aI⊢;rw[nu];have d:(a8,x.2):=h3.mono λg hg=>(xY.1 hg).1;let{j,a,b,c}:=agr v k @A @e _ Z h2 (hb,d.back v,hg) aI;exact{j,@e,b,c}
def LL(n:Nat)(S:@Q):Nat:=(hc,λi=>(kF n i @dJ).length)
def LM{f g:Nat->Nat}:∀(l:@o),@K5->@xI<=@xH|[],_=>@v|i::l,h=>by rw[dB,i];have h2:=LM l @pq;simp only[cb,ij];omega
def ags{f g:Nat->Nat}{j:Nat}:∀(l:@o),@K5->j∈l->f j<g j->@xI<@xH
 |[],_,hj,_=>by simp at hj
 |i::l,h,hj,bn=>by
  rw[dB,i];have h2:=LM l @pq;simp only[cb,ij];rcases de.1 hj with rfl|hj;.omega
  rw[aQ,ags l @pq hj bn]
def LN(c:Nat):∀n,(hc,λ_=>c)=n*c|0=>@v|n+1=>by rw[qY,bh,Dv,LN c n,Bj];simp
def aur(v:@aI):LL n S<=@i4:=by rw[<-LN];apply LM;intro i hi;have hi:=@jo;rw[dc];exact ago @c4 hi O.good O.nodup
def agt{i:Nat}{T:@Q}(v:@aI)(HT:dc n T)(hi:i<n)(h:∀g∈S,g∈T):(kF n i S).map @aA⊆(kF n i T).map @aA:=by intro y hy;let{k,hk,e}:=((sW v hi).mem_iff v hi y).1 hy;exact((sW HT hi).mem_iff HT hi y).2 {k,hk.mono h,e}
def agu{g:ax}{i:Nat}(h:g∈@dJ):g∈eP @rU i:=by rw[xY]at*;exact{xH _ h.1,h.2}
def dc.append{n S z}(v:@aI)(hz:bH n z):dc n @rU:=by
 intro g hg;rcases bz.1 hg with h|h;.exact v g h
 rw[a5,h,hz]
def aus(v:@aI)(h:Kz n S=some z):(a8,z)/\LL n S<LL n @rU:=by
 let{i,hi,x,hx,g,hg,e,aI}:=auq h;rw[dc];have c:Gen n @dJ @dt:=Gen.mul hg @AI;have b:(a8,@dt):=c.mono λg hg=>(xY.1 hg).1;have hs:=agr v n 0 @e @dt (b.isHand v) @yB b (ld,mM,e,aI);rw[mM,<-e]at hs;let{j,_,hj,hz,d,hw}:=hs;have f:=hz.isHand v;have HT:=v.append f;rw[ae,hz];apply ags (j:=j);.intro k hk;have hk:=ja.1 hk;have O:=sW (v.lev k) hk;have:=O.nodup.length_le_of_subset (agt (v.lev k) (HT.lev k) hk λg hg=>agu hg);simpa using this
 .exact ja.2 hj
 .have O:=sW (v.lev j) hj;have D:=sW @st hj;have cJ:(bY z @fR::@KC).Nodup:=by rw[mJ];rw[aP,O.nodup];intro hm;let{w,a,mw}:=bf.1 hm;exact hw w a mw
  have js:(bY z @fR::@KC)⊆(kF n j (eP @rU j)).map @aA:=by
   intro y hy;rcases de.1 hy with rfl|hy;.refine(D.mem_iff @st hj _).2 {z,Gen.mem @st ?_,@d};rw[xY];exact{@v,d}
   .exact agt (v.lev j) @st hj (λg hg=>agu hg) hy
  have:=@qF;simp at this;omega
def agv{n:Nat}:∀(f:Nat)(S:@Q),@aI->@i4<LL n S+f->dc n (wg n f S)/\Eo n (wg n f S)/\∀h,(et,wg n f S)↔@cw
 |0,S,v,hf=>(b_,aur v)
 |f+1,S,v,hf=>by
  simp only[wg];cases e:Kz n S with
  |none=>exact{v,aup e,λh=>Dx}
  |some z=>
   let{j,d}:=aus v e;have HT:=v.append (j.isHand v);let{a,b,c}:=agv f @rU HT @e;rw[ad,a,b,λh=>(c h).trans {?_,?_}]
   .intro hg;apply hg.trans v;intro g hg;rcases bz.1 hg with h|h;.exact Gen.mem v h
    rw[a5,h,j]
   .intro hg;exact(iY,xH _ hg)
def agw(hn:n<=8)(v:@aI):dc n @j4/\Eo n @j4/\∀h,(et,@j4)↔@cw:=by apply agv _ _ v;have:@i4<=8*(2*8):=Ge hn (Ge @L hn);unfold Bk;omega
def aut(v:@aI)(F:Eo n S){h:ax}(H:@aB):mK (ke n S) 0 h=@ai↔@cw:=by
 have l0:∀{g},g∈eP S 0↔g∈S:=by intro g;rw[xY];simp[fR]
 constructor;.intro hs;have:=G2 v n 0 @e h H @yB @yC;exact this.mono λg hg=>l0.1 hg
 .intro hg;have:=QW v F n 0 @e h (iY,l0.2 hg);simpa using this
def s_(n:Nat)(S:@Q):Nat->@Q|0=>[@ai]|k+1=>(kF n @cE (eP S @cE)).flatMap @Dd
def agx{n a b c}(ha:bH n a)(hb:bH n b)(hc:bH n c)(e:@dx=aK a c):b=c:=by rw[lh,aK a c];rwa[ki ha.len hb,ki ha.len hc,uS ha,jJ,jJ]at this
def agy{n:Nat}{S:@Q}(v:@aI)(F:Eo n S):∀k,@b2->(s_ n S k).Nodup/\∀h,h∈s_ n S k↔(et,eP S (n-k))
 |0,_=>by
  rw[P,by simp[s_],@b_];simp only[s_,cz,Gf];constructor;.rintro rfl;exact@gw
  .intro hg;exact zK (hg.isHand (v.lev n)) (hg.fixes v @L)
 |k+1,hk=>by
  let{e,c}:=agy v F k @e;let i:=@cE;have hi:i<n:=(ly,@cE<n);rw[ah,n-k,@A,by show n-k=@cE+1;omega];rw[dc];rw[e1]at c;have up:∀{h},(et,eP S @A)->@rT:=λhg=>(iY,agp @e hg);have img:∀{x h},x∈@lN->(et,eP S @A)->bY @i3 @af=x.1:=by intro x h hx hh;rw[uQ (aW,(hh.isHand (v.lev _)).len),nG,(hB,hh.fixes v @e)];exact(O.good x hx).2
  show((kF n i @dJ).flatMap @Dd).Nodup/\∀h,h∈(kF n i @dJ).flatMap @Dd↔@rT;constructor
  .rw[oy,asq];constructor;.intro x hx;rw[xI];refine aeW ?_ e;intro a b ha hb d he;exact d (agx ((O.good x hx).1.isHand @c4) (tl,a,ha) (tl,b,hb) he)
   .have hn:=O.nodup;rw[oy,xI]at hn;refine aeW ?_ hn;intro x y hx hy f a ha b hb he;let{J,I,rfl}:=bf.1 ha;let{b',G,rfl}:=bf.1 hb;apply f;rw[lJ]
  .intro h;rw[jT];constructor;.rintro⟨x,hx,hm⟩;rw[d0,hm];exact Gen.comp @c4 @AI (up ((c a).1 ha))
   .intro hg;have H:=hg.isHand @c4;have hf:=hg.fixes v @e;let{x,ex}:=LJ (O.of_gen @c4 hi hg);rw[nv];rw[ad,x,(LI ex).1,bf.2 {@e_,?_,s4.symm}];rw[c];have:=QW v F (n-i) i @e h hg;rw[zM hi,BO ex]at this;exact G2 v (n-@A) @A @e _ Y s2 this
def agz(l:@aZ):∀m,l.foldl @uT m=m*l.foldr @AK 1:=by induction l with|nil=>intro m;simp|cons a l ih=>intro m;simp only[zo,asr,ih];rw[KA]
def agA{n:Nat}(S:@Q):∀k,@b2->(s_ n S k).length=((ke n S).drop (n-k)).foldr @AK 1|0,_=>by simp[s_,LH]|k+1,hk=>by rw[zM (v,@cE<n),asr,(v,@cE+1=n-k),<-agA S k @e];simp only[s_,aeX,au];generalize kF n @cE (eP S @cE)=R;rw[jB]
def auu(hn:n<=8)(v:@aI){L:@Q}(hd:L.Nodup)(W:∀h,h∈L↔@cw):ass (ke n @j4)=@ew:=by
 let{a,b,c}:=agw hn v;let{e1,e2}:=agy a b n @L;have bG:=agA (n:=n) @j4 n @L;have l0:∀{S:@Q}{g},g∈eP S 0↔g∈S:=by intro S g;rw[xY];simp[fR]
 have heq:∀h,h∈s_ n @j4 n↔h∈L:=by intro h;rw[e2,W,<-c h,Gh];exact{λhg=>(iY,l0.1 hg),λhg=>(iY,l0.2 hg)}
 have hp:(s_ n @j4 n).Perm L:=(asu e1 hd).2 heq;unfold ass;rw[agz,aeY,<-hp.length_eq,bG,Gh,mM]
def QX{k:Nat}(hk:@b2)(hn:0<n):@cm=(a2,n,@tf):=by
 apply uP;.simp[cS,same,dj];omega
 .intro i hi;rw[aR,by simp[cS,same,dj]at hi;omega];rw[f_ hi,f_ (by simpa using g)];simp only[cS,same,iI,o0];rw[asv];split;.next h=>simp at h;simp only[asw,iI,o0];rw[(@f8),KC]
  .next h=>simp at h;simp only[asx,iI,o0,ik,au,lu];rw[E,i+k,(i-(n-k))+n,@e];rw[e,Bl,(@f8)]
def agB(n k:Nat)(hk:@b2)(b:Bool):(((same n).take k).reverse.map λx=>(x.1,b))++(same n).drop k=(a2,k,(k-1-i,b))++@wM:=by
 congr 1
 .apply uC;.simp[same];omega
  .intro i Z h2;simp[same]at Z h2⊢;omega
 .apply uC;.simp[same]
  .intro i Z h2;simp[same]at Z h2⊢
def QY{k:Nat}(hk:@b2):gK n k=(a2,k,(k-1-i,@h))++@wM:=agB n k hk @h
def agC{k:Nat}(hk:@b2):Dy n k=(a2,k,(db,k-1-i))++@wM:=by
 rw[<-agB n k hk @K];unfold Dy;congr 1;have:∀x∈((same n).take k).reverse,((db,x.1):@ar)=x:=by intro x hx;have:=@zV;simp[same]at this;let{a,_,rfl}:=this;rfl
 rw[iz this];simp
def agD(n:Nat):xJ n=(a2,n,@tR):=by simp[xJ,same]
def auv(i:Nat):(A,az (i%2==1))=@aL%2:=by
 unfold az;rcases Gi i with h|h;.simp[h];omega
 .simp[h];omega
def agE{n:Nat}{h:ax}(H:@aB):∀(f m:Nat),m<2^f->powBy h f m=(aj,m)
 |0,m,hm=>by
  have:m=0:=by simpa using hm
  subst this;simp only[powBy,power,H.len]
 |f+1,m,hm=>by
  unfold powBy;by_cases h0:m=0;.subst h0;simp only[iQ,power,H.len]
  .rw[af h0];have ih:=agE H f (m/2) (by rw[Dz]at hm;omega);simp only[ih];rw[ah,(aj,1),h,uR H.len];by_cases Z:m%2=1;.rw[ai Z,<-Ej H];have:aK (aj,m/2+m/2) h=aK (aj,m/2+m/2) (aj,1):=(aF,e1);rw[this,<-Ej H];congr 1;omega
   .rw[(@cl),<-Ej H];congr 1;omega
def LO{h:ax}(H:@aB){m:Nat}(hm:m<=1000000000000):aeZ h m=(aj,m):=agE H 64 m (nz hm @Z)
def qo{β:@az}(f:α->β){l:@as}{i:Nat}{x:α}(hx:(C,l,x)):(l.take @A).map f=@Ac++[f x]:=(eJ,Gj,hx)
def auw{h g:ax}(H:@aB)(hl:@td)(hg:∀j,j<n->at_ g @eN=(j,@lx)):g=@jm:=by apply uP (aA,hl,GY,H.len);intro i hi;rw[dZ,show i<n by rw[<-hl];exact hi];subst e;rw[hg j hj,BM H hj]
def aux{g:ax}{j i:Nat}{x:@ar}(hj:j<@eV):at_ (g.set j x) i=(H,j,i,x,at_ g i):=by
 unfold at_;rw[dy,dy,ae0];rw[dC];.subst e;simp[hj]
 .simp[e]
def walk(h:ax)(x:@ar):Nat->@ar|0=>x|t+1=>bY h (gn,x)
def LP(h:ax)(x:@ar)(a b:Nat):walk h x (a+b)=@GI:=by induction b with|zero=>rfl|succ b ih=>show bY h (walk h x (a+b))=bY h @GI;rw[ih]
def auy(h:ax)(x:@ar)(b:Bool):bY h @CG=((bY h x).1,(bY h x).2 !=b):=by simp[zJ,asn]
def auz(h:ax)(x:@ar)(b:Bool)(t:Nat):(gn,@CG)=(@zY,(walk h x t).2 !=b):=by induction t with|zero=>rfl|succ t ih=>show bY h (gn,@CG)=_;rw[ih,auy];rfl
def agF(h:ax)(x:@ar)(t:Nat):walk h x (t+1)=(gn,bY h x):=(ab,KC,LP)
def agG(h:ax)(i:Nat):∀(f c j:Nat)(u:Bool),1<=c->c<=f->(walk h (j,u) c).1=i->(∀t,1<=t->t<c->(walk h (j,u) t).1≠i)->asy h i f j u=(c,(walk h (j,u) c).2)
 |0,c,_,_,Z,h2,_,_=>@e
 |f+1,c,j,u,Z,h2,h3,h4=>by
  unfold asy;rw[ah,bY h (j,u),(@eN,u !=@lx),by rw[zJ];cases u<;>cases(at_ h j).2<;>rfl];by_cases hc:c=1
  .subst hc;have:@eN=i:=by rw[<-h3];rfl
   simp only[this,iQ];show _=(1,(bY h (j,u)).2);rw[e1]
  .obtain⟨d,rfl⟩:∃d,c=d+1:={c-1,@e};have aI:@eN≠i:=h4 1 @e @e;simp only[af aI];rw[agF,e1]at h3⊢;have ih:=agG h i f d @eN (u !=@lx) @e @e h3 (λt pX U=>by have:=h4 (t+1) @e @e;rwa[agF,e1]at this);rw[ih]
def Ep{n:Nat}{h:ax}(H:@aB){x:@ar}(hx:x.1<n):∀t,@zY<n|0=>hx|t+1=>H.lt' (Ep H hx t)
def agH{n:Nat}{h:ax}(H:@aB){x y:@ar}(hx:x.1<n)(hy:y.1<n):∀t,@zY=(walk h y t).1->x.1=y.1|0,e=>e|t+1,e=>agH H hx hy t (H.inj _ _ (Ep H hx t) (Ep H hy t) e)
def auA{h:ax}(H:@aB){i:Nat}(hi:i<n):@IG:=by
 have hex:∃c,1<=c/\c<=n/\@w9=i:=by
  refine aso λck=>?_;have ck:∀c,1<=c->c<=n->@w9≠i:=λc Z h2 h3=>ck ⟨c,Z,h2,h3⟩;have hd:((br (n+1)).map λt=>@qR).Nodup:=by rw[oy,oZ];intro a b ha hb d;simp only[au,lu]at ha hb;simp only[iI,o0];intro e;rw[ag,walk h @af b,walk h (walk h @af (b-a)) a,by rw[<-LP];congr 1;omega];rw[e2]at e;exact ck (b-a) @e @e (agH H hi (Ep H hi _) a e).symm
  have hs:((br (n+1)).map λt=>@qR)⊆br n:=by intro x hx;let{t,_,rfl}:=@kv;exact ja.2 (Ep H hi t)
  rw[nq];simp at this;omega
 have key:∀m c,c<=m->1<=c->c<=n->@w9=i->@IG:=by
  intro m;induction m with
  |zero=>intro c Z h2;omega
  |succ m ih=>
   intro c Z h2 h3 h4;by_cases hm:∃t,1<=t/\t<c/\@qR=i;.let{t,a,b,e}:=hm;exact ih t @e a @e e
   .exact{c,h2,h3,h4,λt a b e=>hm ⟨t,a,b,e⟩}
 let{c,Z,h2,h3}:=hex;exact key c c @L Z h2 h3
def agI{h:ax}(H:@aB){i:Nat}(hi:i<n):1<=@cA/\@cA<=2*n/\walk h @af @cA=@af/\∀t,1<=t->t<@cA->(gn,@af)≠@af:=by
 let{c,Z,h2,h3,h4}:=auA H hi;rw[E,asy h i @bq i @K,(c,(walk h @af c).2),agG h i @bq c i @K Z (bU,h2) h3 h4];unfold jH;rw[e];dsimp only;cases hb:(walk h (i,false) c).2 with
 |false=>rw[af @v];rw[ap,Z,@e,ae1 h3 hb,λt a b q=>h4 t a b (aF,q)]
 |true=>
  rw[ai @d];have hc:walk h @af c=(i,@h):=ae1 h3 hb;have O:∀t,(gn,@rW)=(@qR,(walk h @af t).2 !=@h):=λt=>auz h @af @h t;rw[ap,@e,@e,?_,λt a b q=>?_];.rw[(v,2*c=c+c),LP,hc,O,hc];rfl
  .rcases Bi t c with bn|heq|X;.exact h4 t a bn (aF,q)
   .subst heq;rw[hc]at q;cases q
   .rw[ag,(gn,@af),walk h @rW (t-c),by rw[<-hc,<-LP];congr 1;omega];rw[e2,O]at q;exact h4 (t-c) @e @e (dg asz q)
def auB(m k:Nat):m/KD m k*k=Gk m k:=Nat.div_mul_right_comm (Nat.gcd_dvd_left m k) k
def agJ(c:cQ)(b:Bool):(L,(c.turned b).up,-cY (c.turned b).no,cY (c.turned b).no)=(L,b,-@CK,@CK):=by let{n,u}:=c;cases u<;>cases b<;>simp[KE]
def auC{r:Row}{i:Nat}(hi:@he):(C,bI r,(L,(dO,i),-cY (fL,i),cY (fL,i))):=by unfold bI;rw[be,(@ej),dy,(@ej)];rfl
def auD(h:ax)(i:Nat):(ia,@A)=Gk (ia,i) @cA:=(ab,qY,DB)
def LQ{α:@az}[DecidableEq α]:∀{a l:@as},a.Nodup->a⊆l->@R<=@eU->a.Perm l
 |[],l,_,_,h=>(mo,l,@c7,@ay)
 |x::a,l,hd,hs,hl=>by
  have hx:x∈l:=hs @v;have U:=mJ.1 hd;have Z:a⊆l.erase x:=by intro y hy;have O:y∈l:=hs (f6 _ hy);have aI:y≠x:=λe=>U.1 (e▸hy);exact(List.mem_erase_of_ne aI).2 O
  have h2:=LQ U.2 Z (by rw[List.length_erase_of_mem hx];simp at hl;omega);exact(h2.cons x).trans (aPJ hx).symm
def bt(n:Nat):@o:=(fa,(·+1))
def zN(n:Nat):(bt n).Nodup:=by unfold bt;rw[oy,oZ];intro i j hi hj E;simp;omega
def jm{x:Nat}:x∈@aD↔1<=x/\x<=n:=by
 unfold bt;simp only[bf,ja];constructor;.rintro⟨a,h,rfl⟩;omega
 .rintro⟨Z,h2⟩;exact{x-1,@e,@e}
def gq(n:Nat):(bt n).length=n:=by simp[bt]
structure aG(n:Nat)(r:Row):@u where
 len:@c9
 nos:(r.map fK).Perm @aD
def mT(l:@J):@an:=(br @R).all λi=>(l.map asA).contains @A
def agK(l:@J):mT l=@h↔(l.map asA).Perm (bt @R):=by
 unfold mT;constructor;.intro h;refine(LQ (zN _) ?_ (by simp[gq])).symm;intro x hx;rw[jm]at hx;have:=iR.1 h (x-1) (ja.2 @e);rw[(v,x-1+1=x)]at this;exact gA.1 this
 .intro h;rw[iR];intro i hi;rw[gA];exact h.mem_iff.2 (jm.2 {@e,(b_,@jo)})
def e9(l:@J):Row:=l.map λz=>{z.natAbs,(ap,z,0)}
def QZ(l:@J):rowOf l=(da,1<=@R/\@R<=52/\mT l=@h,e9 l):=@d
def agL(l:@J):bI (e9 l)=l:=by
 unfold bI e9;rw[bC];conv=>rhs;rw[<-qX l]
 rw[ak];intro z _;simp only[DC,id,bU,Int.ofNat_eq_natCast];split<;>omega
def Q0{l:@J}(h:mT l=@h):aG @R (e9 l):=by rw[ae,by simp[e9]];have:=(agK l).1 h;unfold e9;rw[bC];exact this
def aG.nodup{n r}(H:@G):(r.map fK).Nodup:=H.nos.nodup_iff.2 (zN n)
def auE{a b:@J}(hp:a.Perm b)(ha:a.Pairwise @ki)(hb:b.Pairwise @ki):a=b:=hp.eq_of_pairwise @K7 ha hb
def auF{l ns:@J}(hp:ns.Perm (l.map λz=>@pu))(hs:ns.Pairwise @ki):(B,ns,@Fj)=mT l:=by
 rw[ah,@Fj,(bt @R).map cY,by unfold bt;rw[bC];rw[ak];intro i _;simp;omega];rw[ag,l.map λz=>@pu,(l.map asA).map cY,by rw[bC];rw[ak];intro z _;simp only[DC];split<;>simp<;>omega];have a:((br @R).map λ(i:Nat)=>@gO+i).Pairwise @ki:=by rw[oZ];intro i j hi hj E;simp;omega
 rw[aD];rw[bU,agK];constructor
 .intro e;rw[e,e1,e2]at hp;have:=hp.map oA;rw[bC,bC]at this;have f:(oA∘cY)=id:=by funext x;rfl
  rw[f,qX,qX]at this;exact this.symm
 .intro h;refine auE (hp.trans ?_) hs a;rw[e1,e2];exact h.map _
def LR{n r}(H:@G){j:Nat}(hj:@gY):(cR,@f1)=j:=by unfold placeOf;rw[aPH hj];rw[P,@v,λk hk=>?_];refine ig.2 @c8;have F:=eq_of_beq e;have hn:=H.nodup;rw[oy,xI,oZ]at hn;exact hn k j @e hj hk F
def Er{n r}(H:@G){j:Nat}(hj:@gY):dt r @f1=@kU:=by unfold dt;rw[LR H hj,dy,bX hj];rfl
def agM{n r}(H:@G){j:Nat}(hj:@gY):bB r @f1=j+az @kU:=by unfold bB;rw[LR H hj,Er H hj]
def aG.has{n r}(H:@G)(Z:1<=c)(h2:c<=n):∃j,∃hj:@gY,@f1=c:=by have:=H.nos.mem_iff.2 (jm.2 ⟨Z,h2⟩);rw[cG,this];let{j,hj,rfl}:=lX hx;exact⟨j,hj,e⟩
def aG.no_bounds{n r}(H:@G){j:Nat}(hj:@gY):1<=@f1/\@f1<=n:=jm.1 (H.nos.mem_iff.1 (iX,uF hj))
def Q1{n r}(H:@G)(g:@an->Nat):((bt n).map λno=>g (dt r no)).Perm (r.map λc=>g @ce):=by
 have Z:=(H.nos.map λno=>g (dt r no)).symm;refine Z.trans ?_;rw[bC];have:(r.map ((λno=>g (dt r no))∘fK))=r.map λc=>g @ce:=by rw[ak];intro c hc;let{j,hj,rfl}:=lX hc;simp only[DC,Er H hj]
 rw[aa]
def rD{n r}(H:@G):aPL r=@aD:=by unfold aPL bt;rw[H.len]
def Q2(f g:Nat->Nat):(d4,(l.map λx=>(f x+g x)%2).sum%2=(@xI+@xH)%2)|[]=>rfl|x::l=>by have ih:=Q2 f g l;simp only[cb,ij];omega
def G3(p:@bv):(d4,(l.filter p).length=(l.map (cZ,p x)).sum)|[]=>rfl|x::l=>by have ih:=G3 p l;rw[dl,ih];cases p x<;>simp[az];omega
def LS(a b:Bool):az (a !=b)=(az a+@b1)%2:=@G0
def auG{n r q}(H:@G)(J:@ap):(unlike r q).length%2=(@cR+@ns)%2:=by unfold unlike;rw[rD H,G3];rw[E,(iZ,(cZ,dt r x !=dt q x)),(iZ,λx=>(az (dt r x)+az (dt q x))%2),by rw[ak];intro x _;exact LS _ _];rw[e,Q2 (cZ,dt r x) (cZ,dt q x),(Q1 H az).sum_nat,(Q1 J az).sum_nat]
def qp{n r q}(H:@G)(J:@ap)(hn:n%2=1):dR r q=(B,@cR%2,@ns%2):=by unfold dR;rw[H.len,(@bd)];have:=auG H J;rw[aa];rw[aD];rw[eW,bU];omega
def gL(r q:Row):@o:=(bt r.length).map λno=>@j5
def agN{n r q}(H:@G)(h0:0<n)(hn:@aU):dR r q=(gL r q).all λd=>(B,d,@dS):=by
 unfold dR;rw[eN];unfold qf gL;rw[rD H,H.len];rw[mI];rw[m6,(a2,m,i+2)];rw[aD];rw[mN,iR,iR,iR];have hd:((bt @aP).map λno=>@j5).headD 0=(bI,1,bB q 1):=@jG;have Z:(W,1)∈bt @aP:=jm.2 @tH;rw[hd];constructor;.rintro(h|h)d U;rw[mj];rw[mj]
 .intro h;have hh:∀x∈bt @aP,(bI,x,bB q x)=(bI,1,bB q 1):=λx hx=>bT (h _ @uq);rcases Gi (bB r 1+bB q 1)with h2|h2;.left;intro x hx;rw[eW,hh x hx,h2]
  .right;intro x hx;rw[eW,hh x hx,h2]
def auH{n r}(H:@G){g:@J}(hl:@td)(hg:∀(j:Nat)(hj:@gY),@JX):g=(iZ,@qS):=by
 apply P0;intro i;by_cases hi:i<n
 .let{j,hj,e}:=H.has (c:=@A) @e @e;have:=hg j hj;rw[e,(v,@A-1=i)]at this;rw[aN,be];have hu:(C,@aD,@A):=by unfold bt;rw[be,xK hi];rfl
  rw[hu,Gm,<-e,agM H hj];simp
 .rw[ny @e,ny (by simp[gq];omega)]
def LU(h:¬@aU):@br=2^@aw:=by unfold eA;rw[af h]
def G4(h:@aU):@br=2:=by unfold eA;rw[ai h]
def agO(h:@aQ):@br<2^63:=(qe,G4 e,LU e,Nat.pow_lt_pow_right @Z @e)
def xZ(l:@o)(i:Nat):Nat:=@K_
def tf(l:@o):Nat->Nat|0=>0|i+1=>tf l i*@jK+xZ l i
def agP(l:@o):∀i,i<=@R->xL l=tf l i*dE @jK+xL (l.drop i)|0,_=>by simp[tf]|i+1,hi=>by rw[agP l i @e];rw[E,l.drop i,(ch,i)::@q_,(ai,dy,(@em),v_ @e)];rw[e];rw[ag,xL ((ch,i)::@q_),xZ l i*dE @jT+xL @q_,by show@K_*dE (l.drop @A).length+xL @q_=_;rw[ik];rfl];rw[e2,(v,@jK=@jT+1)];show tf l i*((@jT+1)*dE @jT)+_=(tf l i*@jK+xZ l i)*dE @jT+_;rw[(v,@jK=@jT+1),Bj (tf l i*(@jT+1)) (xZ l i),KA (tf l i),DD]
def auI(l:@o):xL l=tf l @R:=by rw[agP l @R @L,Gh,asB];simp[dE,xL]
def auJ(n i:Nat):@br*dE @A=@uh*@A:=by show@br*(@A*dE i)=_;rw[KA,zv @A]
def cd(r:Row)(i:Nat):cQ:=@y2
def jX{r:Row}{i:Nat}(hi:@he):cd r i=r[i]:=by unfold cd;rw[dy,(@ej)];rfl
def oG{r:Row}{i:Nat}(hi:@he):(C,r,cd r i):=(d,jX hi,@ej)
def mV(r:Row)(i:Nat):(f7 r i).length=r.length:=by simp[f7]
def rE{r:Row}{i m:Nat}(hi:@he)(hm:(dm,m)):cd @fg m=(cv,@eh,m,(ed,i),i,m,(ed,@eh),@hk):=by
 rw[eK];unfold cd f7;simp only[dy,ae0,zw];by_cases Z:@eh=m;.simp[Z,hm]
 .by_cases h2:i=m;.subst h2;simp[Z,hi]
  .simp[Z,h2]
def auK{r:Row}{i:Nat}(hi:@he):((f7 r i).map fK).Perm @q5:=by rw[eK];rw[E,(f7 r i).map fK,((r.map fK).set i ((@q5)[@eh]'@ro)).set @eh ((@q5)[i]'@hd),by have a:=jX hi;have b:=jX hj;unfold cd at a b;unfold f7;dsimp only;rw[wj,wj,a,b];simp[KE]];rw[e];exact List.set_set_perm _ _
def nH{n r}(H:@G){i:Nat}(hi:i<n):aG n @fg:={(hj,mV),(auK @lm).trans @pJ}
def uT{n}:(te,aG n (b8 r l))|[],_,H,_=>H|i::l,_,H,h=>uT l (nH H (h i @v)) @pq
def zO(r:Row)(a b:@o):b8 r @fj=b8 (b8 r a) b:=by simp[b8]
def zP{n r}(H:@G){j:Nat}(hj:j<n)(e:(b4,j)=no):@ck=j:=by have g:@gY:=@nT;rw[jX g]at e;rw[<-e];exact LR H g
def place_lt{n r}(H:@G)(Z:@e1)(h2:@e0):@ck<n/\(b4,@ck)=no:=by let{j,hj,e}:=H.has Z h2;have g:j<n:=(d5,hj);have:@ck=j:=zP H g (d,jX hj,e);rw[aa];exact{g,(d,jX hj,e)}
def pk{n r}(H:@G){j:Nat}(hj:j<n):1<=(b4,j)/\(b4,j)<=n:=by have g:@gY:=@nT;rw[jX g];exact H.no_bounds g
def agQ{n r}(H:@G){i j:Nat}(hi:i<n)(hj:j<n)(e:(b4,i)=(b4,j)):i=j:=by have a:=zP H hi @d;have b:=zP H hj @d;rw[e]at a;omega
def LV(q p:Nat):(eC q p).length=q-p:=by simp[eC]
def auL{q p k:Nat}(hk:k<q-p):(K,eC q p,k,q-1-k):=by unfold eC;rw[DE @jB];simp only[au,lu];rw[be,xK @e];simp;omega
def LW{q p i:Nat}(h:i∈eC q p):p<=i/\i<q:=by unfold eC at h;simp at h;let{a,b,rfl}:=h;omega
def Q3{q p k:Nat}(hk:k<q-p):(eC q p).take @aV=(iq,q,p)++[q-1-k]:=(ab,Gj,auL hk)
def agR{n r}(H:@G){s p:Nat}(hs:s<n)(hp:p<=s):∀k,k<=s-p->(b8 r (iq,s,p)).length=n/\(cd @BP (s-k)).no=(b4,s)/\∀m,m<s-k->cd @BP m=@hk
 |0,_=>(aD,H.len,λm hm=>@d)
 |k+1,hk=>by
  let{hl,Z,h2}:=agR H hs hp k @e;rw[Q3 @e,zO];generalize@BP=r' at hl Z h2;have et:b8 r' [s-1-k]=f7 r' (s-1-k):=rfl;rw[et];have b:(s-1-k+1)%r'.length=s-k:=(c9,hl,(@f8));rw[ab,(r,mV,hl),?_];.rw[(@os),b,(@bd),(@h8),<-Z];rfl
  .intro m hm;rw[(@os),b,(@bd),(@bd)];exact h2 m @e
def LX{n}{q:Row}(J:@ap):∀(k p:Nat){r:Row},@G->p+k=n->(∀m,m<p->(b4,m)=(ca,m))->(hd,eN (iI,p) p r)/\(hX,b8 r (eN (iI,p) p r))
 |0,p,r,H,hk,he=>by have U:@nM:=@s6;rw[wb @e];exact{by simp[eN],λm hm=>he m @e}
 |k+1,p,r,H,hk,he=>by
  have U:@nM:=@s6;have hp:p<n:=@e;have g:(iI,p)=(ca,p)::(iI,p+1):=by rw[v_ @e,jX (af,J.len)];simp[bD]
  rw[cI,hp];let{hs,L}:=place_lt H b1 b2;have yI:p<=@kN:=by refine asC λbn=>?_;have e1:=he _ bn;rw[L]at e1;have:=agQ J hp @e e1;omega
  have l:(hd,eC @kN p):=@K0;have H2:=uT _ H l;let{lc,d1,d2}:=agR H hs yI (@kN-p) @L;rw[Bo (af,LV)]at lc d1 d2;rw[(v,@kN-(@kN-p)=p)]at d1 d2;have ih:=LX J k (p+1) H2 @e (by
   intro m hm;by_cases AG:m=p;.subst AG;rw[d1,L]
   rw[s,d2 m @e,he m @e]);rw[g];show(hd,@HY)/\(hX,b8 r @HY);rw[P,@g3,(d,zO,ih.2)];rcases bz.1 hi with h|h;.exact l i h
  .exact ih.1 i h
def mW{n r}(H:@G){j:Nat}(hj:j<n):bB r (b4,j)=j+az (cd r j).up:=(d,jX @nT,agM H _)
def wG{n r}(H:@G){j:Nat}(hj:j<n):dt r (b4,j)=(cd r j).up:=(d,jX @nT,Er H _)
def agS(b:Bool):az (b !=@h)=1-@b1:=by cases b<;>rfl
def LY(b:Bool):@b1<=1:=@s7
def Q4{n r}(H:@G)(hn:@aU){i:Nat}(hi:i<n)(Z:@e1)(h2:@e0):bB @fg no%2=@fG%2:=by
 have H2:=@rQ;rw[gI];generalize@ck=m at hm e;subst e;rw[mW H hm];have CJ:=H.len;have hj:@f6<n:=@kC;have E:i≠@f6:=by
  rcases dH (i+1) n with q|q;.rw[gU q];omega
  rw[nf]
 have f:@f6%2=@A%2:=by
  rcases dH (i+1) n with q|q;.rw[gU q]
  rw[nf]
 have hb:=LY @hm;by_cases oe:m=i;.subst oe;rw[ag,cd (f7 r m) (@aP%n),(ed,m),(aA,(@os),CJ,(@ax))];rw[lK];have e4:=mW H2 hj;rw[e2,e3]at e4;rw[e4];show(@aP%n+az (@hm !=@h))%2=_;rw[agS];omega
 .by_cases U:m=@f6;.rw[ag,cd @fg i,(ed,m),by rw[(@os),CJ,(fk,E @l7),(@ax),<-U]];have e4:=mW H2 hi;rw[e2]at e4;rw[lK];rw[e3]at e4;rw[e4];show(i+az (@hm !=@h))%2=_;rw[agS];omega
  .rw[ag,cd @fg m,@hk,by rw[(@os),CJ,(fk,U @l7),(fk,oe @l7)]];have e4:=mW H2 hm;rw[e2]at e4;rw[e4]
def Q5{n}(hn:@aU):(te,∀{no:Nat},@e1->@e0->bB (b8 r l) no%2=@fG%2)|[],_,_,_,_,_,_=>rfl|i::l,r,H,h,no,Z,h2=>by have hi:=h i @v;show bB (b8 @fg l) no%2=_;rw[Q5 hn l @rQ @pq Z h2,Q4 H hn hi Z h2]
def LZ(c:cQ):c.turned @K=c:=by let{a,b}:=c;simp[KE]
def agT{r:Row}(hl:@c9):(au,@ai)=r:=by unfold done same;rw[bC];apply uC (by simp[hl]);intro i Z h2;simp[LZ,h2]
def agU{k:Nat}{r:Row}(hl:@c9):(au,@cm)=r.drop k++r.take k:=by
 unfold cS;have e:∀a b:ax,(au,@fj)=(au,a)++(au,b):=λa b=>by unfold done;rw[bh]
 rw[ah,@Ir,r.drop k,(pJ,@Ir,(done @ai r).drop k,wm)];rw[ag,@D7,r.take k,(pJ,@D7,(done @ai r).take k,wo)];rw[e,e1,e2]
def L5{k:Nat}{r:Row}(H:@G):aG n (gS,k,k):=by have hp:(r.drop k++r.take k).Perm r:=asD.trans (aF,DF);exact{(hj,hp.length_eq),(hp.map fK).trans @pJ}
def auM{r:Row}(hl:@c9){m:Nat}(hm:m<n):cd (gS,1,1) @GT=@hk:=by
 unfold cd;simp only[dy];congr 1;by_cases h0:m=0;.rw[ai h0,uG @lf,ik,aPM];subst h0;rw[(v,@aw-(r.length-1)=0)];simp
 .rw[af h0,ae2 @lf,KH];congr 1;omega
def Q6{r:Row}(H:@G)(hn:@aU)(Z:@e1)(h2:@e0):bB (gS,1,1) no%2=(@fG+1)%2:=by rw[gI];generalize@ck=m at hm e;subst e;rw[mW H hm];have H2:=L5 (k:=1) H;have ec:=auM H.len hm;have e4:=mW H2 (j:=@GT) (by split<;>omega);rw[ec]at e4;rw[e4];split<;>omega
def cuts(n:Nat):Nat->@o->@o|_,[]=>[]|t,i::l=>@oK::cuts n i l
def Q7(n:Nat):∀(l:@o)(t i:Nat),cuts n t (l++[i])=cuts n t l++[(i+n-l.getLastD t)%n]|[],t,i=>rfl|a::l,t,i=>by show _::cuts n a (l++[i])=_::cuts n a l++[_];rw[Q7 n l a i];cases l<;>rfl
def L6(n:Nat):∀(l:@o)(t:Nat),(cuts n t l).length=@R|[],_=>rfl|_::l,_=>by show(cuts n _ l).length+1=_;rw[L6 n l];rfl
def agV{o t z:Nat}(ht:t<n)(N:(o+t)%n=0):(o+z)%n=(z+n-t)%n:=by
 let{k,hk}:=Nat.dvd_of_mod_eq_zero N;rcases ae3 k with q|q;.subst q;rw[az,o=0/\t=0];rw[(@l8),(@tk),oz,Gf,Bl]
 .obtain⟨k',rfl⟩:∃k',k=k'+1:={k-1,@e};rw[ag,o+z,(z+n-t)+n*k',by rw[aPN,aPO]at hk;omega];rw[e2,Nat.add_mul_mod_self_left]
def agW{n:Nat}:∀(l:@o)(o t z:Nat),t<n->(o+t)%n=0->@m1->ae4 n o l z=cuts n t (l++[z])|[],o,t,z,ht,N,_=>(gk,[(o+z)%n],[(z+n-t)%n],agV ht N)|i::l,o,t,z,ht,N,hl=>by have hi:=hl i @v;show((o+i)%n)::ae4 n (n-i) l z=@oK::cuts n i (l++[z]);rw[agV ht N,agW l (n-i) i z hi (r,(c4,n-i+i),wk) (λk hk=>hl k (by simp[hk]))]
def auN{i t:Nat}(ht:t<n):(@aL-(u,t))%@aq=(A,@oK):=(aA,zx,(gY,i+n-t,(@aL-t)+n),Int.add_emod_right)
def L7{n:Nat}:∀(l:@o)(p:Nat)(r:Row),@c9->(eN l p r).length<=@R*n
 |[],_,_,_=>by simp[eN]
 |no::l,p,r,h=>by
  show(eC @ck p++eN l (p+1) (gZ,@ck)).length<=_;have fG:@ck<=n:=(G,h,asE);have hl:@Fk:=by intro l;induction l with|nil=>intro r;rfl|cons i l ih=>intro r;show(b8 @fg l).length=_;rw[ih,mV]
  have ih:=L7 l (p+1) (gZ,@ck) (r,hl,h);rw[dj,LV,cX,Bj];omega
def G5:@Fk|[],_=>rfl|i::l,r=>by show(b8 @fg l).length=_;rw[G5 l,mV]
def Q8{n:Nat}:∀(d:@o)(r:Row),@c9->(lY d r).length<=d.length*n
 |[],_,_=>by simp[lY]
 |no::d,r,h=>by
  show(@ly++lY d (b8 r @ly)).length<=_;have ih:=Q8 d (b8 r @ly) @zw;rw[dj,cX,Bj];have:(lZ r no).length<=n:=by simp[lZ,h]
  omega
def Q9{n:Nat}(h0:0<n):∀(d:@o)(r:Row),@c9->(hd,lY d r)
 |[],_,_,i,hi=>by simp[lY]at hi
 |no::d,r,h,i,hi=>by
  have hi:i∈@ly++lY d (b8 r @ly):=hi;rcases bz.1 hi with q|q;.simp[lZ]at q;let{a,_,rfl}:=q;rw[h];exact@ge
  .exact Q9 h0 d _ @zw i q
def agX:∀(l:@o)(p:Nat)(r:Row)(no:Nat),eN (l++[no]) p r=eN l p r++eC (cb,b8 r (eN l p r)) (p+@R)|[],p,r,no=>by show eC @ck p++[]=[]++eC @ck (p+0);simp|a::l,p,r,no=>by show eC (cR,a) p++eN (l++[no]) (p+1) (gZ,(cR,a))=@KA++eC (cb,b8 r @KA) (p+@nI);rw[agX l (p+1),zO,eM,(v,p+1+@R=p+@nI)]
def L8{n:Nat}:∀(l:@o)(p:Nat){r:Row},@c9->(hd,eN l p r)
 |[],_,_,_,i,hi=>by simp[eN]at hi
 |no::l,p,r,h,i,hi=>by
  have hi:i∈eC @ck p++eN l (p+1) (gZ,@ck):=hi;rcases bz.1 hi with q|q;.have:=LW q;have fG:@ck<=n:=(G,h,asE);omega
  .exact L8 l (p+1) @zw i q
def agY:∀(d:@o)(r:Row)(no:Nat),lY (d++[no]) r=lY d r++lZ (b8 r (lY d r)) no|[],r,no=>by show@ly++[]=[]++@ly;simp|a::d,r,no=>by show(nq,d++[no])=(nq,d)++lZ (b8 r (nq,d)) no;rw[agY d,zO,eM]
def wrong(r2 q:Row):@o:=(q.zipIdx.filter @Kc).map @sq
def agZ(f:@bv):∀(q:Row)(g:@bv)(k:Nat),(∀x∈q.zipIdx k,f @l9=(@pM !=g x.2))->((q.zipIdx k).filter λx=>@pM !=g x.2).map @sq=(q.map fK).filter f|[],_,_,_=>rfl|c::q,g,k,h=>by rw[dB,(c,k)];have ih:=agZ f q g @aV @qX;rw[asF,cb,kf,kf,<-ih];dsimp only at Z⊢;rw[Z];split<;>simp
def Q_{x:cQ×Nat}(hx:x∈q.zipIdx):x.2<@T/\cd q x.2=x.1:=by let{c,i}:=x;rw[asp]at hx;let{Z,h2}:=fk.1 hx;exact{Z,(d,jX Z,h2)}
def auO{n r2 q}(H:aG n r2)(J:@ap)(he:(hX,r2)):@um=(lQ,r2):=by unfold wrong;have:=agZ (λno=>dt r2 no !=@mt) q (λi=>@zb) 0 (by intro x hx;let{Z,h2}:=Q_ hx;have lg:x.2<n:=(G,J.len,Z);have a:=wG J lg;have b:=wG H lg;rw[he _ lg,h2]at b;rw[h2]at a;rw[a,b];cases x.1.up<;>cases(cd r2 x.2).up<;>rfl);exact this
def auP{n r2 q}(H:aG n r2)(J:@ap)(he:(hX,r2))(hs:(i0,bB r2 no%2=@iS%2)):@um=[]:=by unfold wrong;rw[List.filter_eq_nil_iff.2,xG];intro x hx;let{Z,h2}:=Q_ hx;have lg:x.2<n:=(G,J.len,Z);have a:=mW J lg;have b:=mW H lg;let{c1,c2}:=pk J lg;have c:=hs _ c1 c2;rw[he _ lg]at b;rw[a,b,h2]at c;intro z;have aI:@pM≠(cd r2 x.2).up:=P1.1 z;revert c aI;cases x.1.up<;>cases(cd r2 x.2).up<;>simp[az]<;>omega
def auQ{n r q}(H:@G)(h0:0<n)(hn:@aU)(hc:@dM)(hm:(F,qf 0 r q)):qf 1 r q=@h:=by unfold dR at hc;rw[H.len,ai hn,hm,asG]at hc;exact hc
def Es{n r q c}(H:@G)(hm:qf c r q=@h)(Z:@e1)(h2:@e0):@j5=c:=by unfold qf at hm;rw[rD H,iR]at hm;exact eq_of_beq (hm no (jm.2 ⟨Z,h2⟩))
def auR{n r q}(H:@G)(J:@ap)(h0:0<n)(hc:@dM):let c:=@JB;let G:=@ph;let t0:=@uw;let e:=(di,G);let r2:=@hZ;let g:=lY @um r2;wayTo r q=cuts n t0 (e++g++[placeOf (b8 G (e++g)) (ca,0)]):=by
 intro c G t0 e r2 g;have H1:aG n G:=L5 H;have l:∀i∈e,i<n:=L8 _ _ H1.len;have H2:aG n r2:=uT _ H1 l;have Jm:=(LX J n 0 H1 @e (λm hm=>@e)).2;rw[mM]at Jm;have hw:@um=if@aU then[]else(lQ,r2):=by
  rw[a6]
  .rw[ai hn];refine auP H2 J Jm @xM;rw[Q5 hn e H1 l Z h2];by_cases hm:(F,qf 0 r q);.have ec:c=1:=ai ⟨hn,hm⟩;have m1:=Es H (auQ H h0 hn hc hm) Z h2;show bB @ph no%2=_;rw[ec,Q6 H hn Z h2];omega
   .have ec:c=0:=(cG,hm z.2);have m0:=Es H (by simpa using hm) Z h2;show bB @ph no%2=_;rw[ec,mM,DG,gk];omega
  rw[bk,hn,auO H2 J Jm]
 have CL:∀i∈g,i<n:=Q9 h0 _ _ H2.len;have ec:@vV=G:=agU H.len;unfold wayTo;dsimp only;rw[H.len];rw[ke,(di,@vV)++lY @KI @sl,@sl,lY @KI @sl];rw[ec,<-hw];rw[ke,e++g,r2,g];have hh:(bD q).headD 0=(ca,0):=by have:0<@T:=(jW,h0);cases q with|nil=>simp at this|cons x q=>rfl
 rw[hh,<-zO];have CM:t0<n:=by show@uw<n;split<;>omega
 have a:(c+t0)%n=0:=by
  by_cases C:c=1;.rw[show t0=@aw from ai C,C,(c4,1+@aw),wk]
  .have v:c=0:=by
    show@JB=0;split;.next hz=>rw[al,ai hz,C]
    .rfl
   rw[show t0=0 from af C,v];exact Nat.zero_mod n
 rw[agW _ _ _ _ CM a];intro i hi;rcases bz.1 hi with h|h;.exact l i h
 .exact CL i h
def L9{b:ax}{r:Row}(hb:@DK):(au,@dx)=done b (au,a):=by unfold done;rw[LC,bC];rw[ak];intro x hx;have hl:=hb x hx;simp only[DC,zJ];rw[dy (l:=a.map _),be,bX hl,f_ hl];simp only[Gm,aPP];unfold KE;simp only[asn]
def Et(n:Nat)(r:Row):@o->Row|[]=>r|k::l=>l.foldl (λr k=>done @cm (au,@ca)) (au,@cm)
def jK{k:Nat}(hk:@b2)(hn:0<n):bH n @cm:=by
 rw[QX hk hn];rw[ab,@v,?_];.intro i hi;rw[f_ @hd];simp only[iI,o0];exact@im
 .intro i j hi hj e;rw[f_ @hd,f_ @ro]at e;simp only[iI,o0]at e;have a:=aPQ (i+k) n;have b:=aPQ (j+k) n;have c1:(i+k)/n<2:=ae5 @e;have c2:(j+k)/n<2:=ae5 @e;have d1:(i+k)/n=0\/(i+k)/n=1:=by generalize(i+k)/n=x at c1;omega
  have d2:(j+k)/n=0\/(j+k)/n=1:=by generalize(j+k)/n=x at c2;omega
  rcases d1 with d1|d1<;>rcases d2 with d2|d2<;>rw[d1]at a<;>rw[d2]at b<;>omega
def ag0{k:Nat}(hk:@b2)(b:Bool):bH n @AG:=by
 have key:∀i,i<n->(at_ @AG i).1=if i<k then k-1-i else i:=by
  intro i hi;rw[f_ @aS,asv];split;.next h=>simp at h;simp[h]
  .next h=>simp at h;simp;rw[bX];omega
 rw[ad,@aS,@g3,λi j hi hj e=>?_];.rw[key i hi];split<;>omega
 .rw[key i hi,key j hj]at e;split at e<;>split at e<;>omega
def qr{k:Nat}(hk:@b2):bH n (gK n k):=(d,QY hk,ag0 hk @h)
def Ra{k:Nat}(hk:@b2):bH n (Dy n k):=(d,agC hk,ag0 hk @K)
def L_(n:Nat):bH n (xJ n):=by rw[agD];have key:∀i,i<n->(at_ (a2,n,@tR) i).1=i:=λi hi=>(aX,f_ @hd);exact{@v,λi hi=>(aW,key i hi),λi j hi hj e=>by rw[key i hi,key j hj]at e;exact e}
def nI{h:ax}(H:@aB):∀x∈h,x.1<n:=by intro x hx;rw[fF];rw[<-f_ hk];exact@uB
def Eu{n:Nat}(hn:0<n):∀(l:@o),@xN->@Ci->bH n (wq n l)|[],_,_=>mS n|[k],h,_=>(fw,h k @v)|k::k'::l,h,h2=>by show bH n @KD;refine jl (jl (fw,h k @v) (qr (h2 @v))) (oS,h2 @v)
def ag1{n:Nat}(hn:0<n):∀(l:@o)(r:Row),@c9->@gc->@xN->@Ci->(au,wq n l)=Et n r l|[],_,_,h,_,_=>@zs|[k],r,_,_,_,_=>rfl|k::k'::l,r,hr,_,h,h2=>by have hk:k<n:=h k @v;have ju:=h2 @v;have d:=(fw,hk);have HT:=qr (n:=n) ju;have a:=(oS,ju);show(au,@KD)=_;rw[lF];have bG:(done @ca (au,@cm)).length=n:=(j8,HT.len);rw[ag1 hn (k'::l) _ bG @v @qX (λ_=>ju)];rfl
def Ma(n:Nat):wr n=(Nat.toDigits 10 n).map aPR:=by unfold wr dI;rw[Nat.toString_eq_ofList_toDigits,aTE]
def Mb(h:d<10):wr d=[48+d]:=by rw[Ma,Nat.toDigits_of_lt_base h];have:∀d,d<10->(Nat.digitChar d).toNat=48+d:=@Z;simp[this d h]
def ag2(hn:0<n)(hd:d<10):wr (10*n+d)=wr n++[48+d]:=by rw[<-Mb hd,Ma,Ma,Ma,<-Nat.toDigits_append_toDigits @Z hn hd,bh]
def ag3(s:@o)(d:Nat):wt (s++[d])=(hY,wt s):=by unfold wt;rw[DB];rfl
def ag4:(qp,48<=x,s.getD 0 0≠48,0<wt s)
 |0,s,hk,aI,_,_=>absurd (o5.1 hk) aI
 |k+1,s,hk,aI,h,h0=>by
  rw[lL];rw[ag3];by_cases hs:s'=[]
  .subst hs;rw[dB,d];have:d≠48:=by simpa using h0
   omega
  rw[aQ,ag4 k s' @jB hs @qX (by cases s' with|nil=>rw[a2,hs]|cons a s'=>simpa using h0)]
def ag5:(qp,48<=x/\x<58,@dc=1\/s.getD 0 0≠48,wr (wt s)=s)
 |0,s,hk,aI,_,_=>absurd (o5.1 hk) aI
 |k+1,s,hk,aI,h,h0=>by
  rw[lL];let{d1,d2}:=h d @v;rw[ag3];by_cases hs:s'=[];.subst hs;show wr (hY,0)=[d];rw[Nat.mul_zero,oz,Mb @e];congr 1;omega
  .have hh:s'.getD 0 0≠48:=by
    cases s' with
    |nil=>rw[a2,hs]
    |cons a s'=>
     rcases h0 with z|z;.simp at z
     .simpa using z
   have hp:=ag4 k s' @jB hs (λx hx=>(h x (by simp[hx])).1) hh;rw[ag2 hp @e,ag5 k s' @jB hs @qX (.inr hh)];congr 2;omega
def BP:Tok->xF|.word w=>w|.num k=>wr k|.sign c=>[c]|.wrong=>[]
inductive WF(n:Nat):qg->@u|nil:WF n @ay|cut{k r}:(mN,.cut k r)|turn{k r}:(mN,.turn k r)|deal{k r}:(mN,.deal k r)|every{r}:WF n r->WF n (.every r)|back{h r}:WF n h->WF n r->WF n (.back h r)|times{m h r}:m<=P4->WF n h->WF n r->WF n (.times m h r)
def WF.isHand{n:Nat}(hn:0<n):∀{w:qg},@fU->bH n @gD|_,.nil=>mS n|_,.cut hk hr=>(hG,jK hk hn)|_,.turn hk hr=>(hG,qr hk)|_,.deal hk hr=>(hG,Ra hk)|_,.every hr=>(hG,L_ n)|_,.back hh hr=>(hG,oF (hh.isHand hn))|_,.times hm hh hr=>by have H:=hh.isHand hn;refine(hG,?_);rw[LO H hm];exact sS H _
def Md{F:Nat->qg->qg}{go:fP->Got}{w:qg}{l2:fP}(h:@Df=.ok (w,l2)):∃k p r w',l=(.num k,p)::r/\@b2/\go r=.ok (w',l2)/\w=F k w':=by
 unfold P5 at h;split at h
 .next k p r=>
   split at h
   .next hk=>
     split at h;.next x hx=>injection h with h;injection h with Z h2;exact{k,p,r,x.1,@d,hk,by rw[hx,<-h2],@pN}
     rw[aS]
   rw[aS]
 rw[aS]
def zQ(n e:Nat):∀(f d:Nat)(l:fP)(w:qg)(l2:fP),@zE=.ok (w,l2)->@fU/\∃l1,l=@gL/\oB w=l1.map λx=>BP x.1
 |0,d,l,w,l2,h=>by simp[uH]at h
 |f+1,d,l,w,l2,h=>by
  have inner:∀(t:fP)(g:qg->qg->qg)(hg:∀a b,WF n a->WF n b->WF n (g a b))(pre:List xF)(hp:∀a b,oB (g a b)=pre++[40]::(oB a++[41]::oB b)),(@IS:Got)=.ok (w,l2)->@fU/\∃l1,t=@gL/\oB w=pre++l1.map λx=>BP x.1:=by
   intro t g hg pre hp h;split at h
   .next p r=>
     split at h;rw[aS]
     .split at h;rw[aS]
      .next x hx=>
        split at h
        .next q s hs=>
          split at h;rw[aS]
          .next y hy=>
            injection h with h;injection h with Z h2;let{w1,a,a1,M}:=zQ n e f (d-1) r x.1 x.2 hx;let{w2,b,b1,b2}:=zQ n e f d s y.1 y.2 hy;rw[hs]at a1;subst Z;rw[av,hg _ _ w1 w2,(@fM,p)::(a++(@iZ,q)::b),?_];.rw[a1,b1,<-h2];simp
            .rw[hp,M,b2];simp[BP]
        rw[aS]
   rw[aS]
  unfold uH at h;dsimp only at h;split at h;rw[le]
  .next J p r=>
    split at h;.next hw=>rw[id,.cut hk w1,"cut"]
    .split at h;.next hw=>rw[id,.turn hk w1,"turn"]
     .split at h;.next hw=>rw[id,.deal hk w1,"deal"]
      .split at h;.next hw=>split at h;rw[aS];.next x hx=>injection h with h;injection h with Z h2;let{w1,a,a1,M}:=zQ n e f d r x.1 x.2 hx;subst Z;exact(p8,.every w1,a,by rw[a1,<-h2];rfl,"every",oB x.1)
       .split at h;.next hw=>rw[mm,.back,.back,dI "back",(.word J,p)::a,(ab,M,hw)]
        rw[aS]
  .next m p r=>
    split at h;.next hm=>rw[mm,.times m,.times hm,wr m,(.num m,p)::a,(O,M)]
    rw[aS]
  .cases h
  .next c p r=>split at h;rw[aS];rw[le]
inductive Rb where|hand|amount(a:Nat)|bracket(tm:@fx)deriving DecidableEq
def wH(n a k:Nat):ax:=(jv,a,@cm,a,gK n k,Dy n k)
def x4(tm:@fx)(h:ax):ax:=match tm with|none=>@jm|some m=>aeZ h m
structure Mc where
 mv:ax
 want:Rb
 outer:@dy
def gr(n:Nat)(m:Mc)(w:xF):Option Mc:=(H,w,dI "cut",(mS,0),(cv,w,dI "turn",(mS,1),w,dI "deal",(mS,2),(cv,w,dI "every",some (br,aK m.mv (xJ n),@kk),w,dI "back",some {m.mv,.bracket @r,@kk},@r)))
def Me(m:Mc):Option Mc:=match m.outer with|[]=>none|o::r=>some (br,aK o.1 (x4 o.2 m.mv),r)
def me(n:Nat)(m:Mc)(t:Tok):Option Mc:=match m.want,t with|.amount a,.num k=>(da,@b2,(br,aK m.mv @lP,@kk))|.bracket tm,.sign c=>(da,c=40/\m.outer.length<qh,(br,@ai,(m.mv,tm)::@kk))|.hand,.num k=>(da,k<=P4,{m.mv,.bracket (some k),@kk})|.hand,.word w=>gr n m w|.hand,.sign c=>(H,c,41,Me m,@r)|_,_=>none
def iJ(n:Nat):Mc->fP->Option Mc|m,[]=>some m|m,x::l=>(me n m x.1).bind λm'=>iJ n m' l
def G6{n:Nat}:∀{l1 l2:fP}{m m':Mc},(cf,m,l1,m')->iJ n m @gL=iJ n m' l2|[],_,_,_,h=>@nL|x::l1,l2,m,m',h=>by show(me n m x.1).bind _=_;cases e:me n m x.1 with|none=>rw[ey,iJ]|some m1=>rw[iJ,e]at h;exact G6 (l1:=l1) h
def BQ{m m1:Mc}{x:@n5}(h:me n m x.1=some m1):iJ n m @gd=iJ n m1 l:=(ab,iJ,h)
def nJ(n e k:Nat)(m:Mc)(l:fP)(q:Nat):@u:=(∃l1 x r m',l=l1++x::r/\(cf,m,l1,m')/\me n m' x.1=@r/\x.2=q/\(m'.want=@iI->x.1=@f9->k<m'.outer.length))\/(∃m',(cf,m,l,m')/\q=e/\(m'.want=@iI->k<m'.outer.length))
def nJ.ahead{k k':Nat}{m m1:Mc}{l1:fP}{q:Nat}(hk:k<=k')(h:(cf,m,l1,m1))(b:nJ n e k' m1 l q):nJ n e k m (l1++l) q:=by rcases b with⟨l2,x,r,m',a1,M,J,I,a5⟩|⟨m',a1,M,J⟩;rw[Q,{@gL,x,r,m',(r,a1,eM),(d,G6 h,M),J,I,λz y=>nz hk (a5 z y)}];rw[ac,{m',(d,G6 h,a1),M,λz=>nz hk (J z)}]
def BR(l2:fP):@u:=l2=[]\/∃c p r,l2=(.sign c,p)::r/\c≠40
def ag6{k:Nat}{m:Mc}(hw:@t2≠@iI)(hn:∀x r,l=x::r->me n m x.1=@r):nJ n e k m l (KI e l):=(pI,(jG,hw),{[],x,r,m,@d,@d,hn x r @d,@d,(jG,hw)})
def Rc{b c:ax}(hb:bH n b)(hc:bH n c):aK @dx c=aK a (aK b c):=(ki hb.len hc).symm
def Re{B:Nat}(hn:0<n){a:Nat}{F:Nat->qg->qg}(hF:∀k w,cA n (F k w)=aK @lP @gD){go:fP->Got}{mv:ax}{outer:@dy}(i:∀(l:fP)(o:ax),@R<B->@bY=n->(iF,go l,@fU/\BR l2/\∃l1,l=@gL/\(cf,(eW,o),l1,(eW,aK o @gD)),go l,(eW,o),l))(M:∀k,@b2->bH n @lP)(l:fP)(hl:@R<=B):(iF,@Df,BR l2/\∃l1,(lm,l,(jr,a)),@Df,(jr,a),l):=by
 constructor;.intro w l2 h;let{k,p,r,w',rfl,hk,hg,rfl}:=Md h;let{wf,he,l1,e1,e2}:=(i r (aK mv @lP) @yH @Fy).1 w' l2 hg;rw[av,he,(.num k,p)::l1,(O,e1)];rw[BQ (m1:=(eW,aK mv @lP)) @Eg,e2,hF,Rc (M k hk) (wf.isHand hn)]
 .intro q h;unfold P5 at h;split at h
  .next k p r=>
    split at h;.next hk=>split at h;rw[aS];.next q' U=>cases h;have b:=(i r (aK mv @lP) @yH @Fy).2 q U;exact nJ.ahead (l1:=[(.num k,p)]) @L (BQ (l:=[]) @Eg) b
    .next hk=>cases h;exact(ln,(fQ,(bo,@b2),hk),λz=>@cL)
  .next ck=>cases h;refine ag6 @v λx r hx=>?_;subst hx;let{t,p}:=x;cases t with|num k=>rw[a2,ck k p r]|word w=>rfl|sign c=>rfl|wrong=>rfl
def Rf{n e:Nat}(hn:0<n):∀(f d:Nat)(l:fP)(mv:ax)(outer:@dy),@R<f->d+@pP=qh->mv.length=n->(iF,@zE,@fU/\BR l2/\∃l1,(lm,l,@ls),@zE,@ls,l)
 |0,d,l,mv,outer,hf,hd,fO=>@e
 |f+1,d,l,mv,outer,hf,hd,fO=>by
  have A:=λ(d':Nat)(l':fP)(o:ax)(v:List (ax×Option Nat))(Z:l'.length<f)(h2:d'+v.length=qh)(h3:o.length=n)=>Rf (e:=e) hn f d' l' o v Z h2 h3;have P:∀w l2,@zG=.ok (w,l2)->@fU:=λw l2 h=>(zQ n e (f+1) d l w l2 h).1;have inner:∀(t:fP)(tm:@fx)(g:qg->qg->qg),@ah<f->(∀a b,cA n (g a b)=aK (x4 tm (cA n a)) (cA n b))->(∀a,WF n a->bH n (x4 tm (cA n a)))->let G:Got:=@IS;(nm,t,(gq,tm),(gq,tm),t):=by
   intro t tm g ht hg M;dsimp only;split
   .next p r=>
     have T:r.length<f:=by simp at ht;omega
     by_cases qM:d=0;.rw[ai qM];rw[cs];cases h;exact(ln,by show@Kw=_;rw[bX],λz=>@cL)
     .rw[af qM];have E:me n (gq,tm) @fM=some (br,@ai,(mv,tm)::@bf):=(fH,@Kw,(al,@e));have L:=A (d-1) r @ai ((mv,tm)::@bf) T @aS (ph n);split;.next q U=>rw[gj];cases h;exact nJ.ahead (l1:=[(@fM,p)]) @v (BQ (l:=[]) E) (L.2 q U)
      .next x hx=>
        let{u,N,l1,e1,e2}:=L.1 x.1 x.2 hx;rw[jJ]at e2;have yJ:(cf,(gq,tm),@xc,@KV):=(d,BQ E,e2);split
        .next p2 s hs=>
          have O:me n @KV @iZ=some @Jl:=rfl;have C:(cf,(gq,tm),@CD,@Jl):=(d,G6 yJ,BQ (l:=[]) O);have eI:@dc<f:=by rw[hs]at e1;rw[e1]at T;simp at T;omega
          have I2:=A d s (aK mv (x4 tm (cA n x.1))) @bf eI hd (r,l_,(M _ u).len);have et:((@fM,p)::r:fP)=@CD++s:=by rw[e1,hs];simp
          split;.next q U=>rw[gj];cases h;rw[et];exact nJ.ahead @L C (I2.2 q U)
          .next y hy=>
            rw[dV,λq' h=>@ch];injection h with h;injection h with Z h2;let{F,K,j,f1,f2}:=I2.1 y.1 y.2 hy;subst Z h2;rw[av,K,@CD++j,?_];.rw[et,f1];simp
            .rw[G6 C,f2,hg,Rc (M _ u) (F.isHand hn)]
        .next s ck=>rw[cs];cases h;have et:((@fM,p)::r:fP)=@xc++x.2:=(aX,e1);rw[et];refine nJ.ahead (k':=@pP) @L yJ ?_;rcases N with hz|⟨c,p3,D,hz,hc⟩;rw[s,hz,.inr {_,@d,@d,λ_=>@v}];.rw[hz];refine .inl {[],_,D,_,@d,@d,?_,@d,λ_ _=>@v};rw[aC,(H,c,41,_,@r)];rw[af];intro z;subst z;exact ck p3 D hz
   .next ck=>rw[cs];cases h;refine ag6 @v λx r hx=>?_;subst hx;let{tk,p}:=x;cases tk with|sign c=>rw[eG,@pP<qh];rw[af];intro z;exact ck p r (aF,z.1)|num k=>rfl|word w=>rfl|wrong=>rfl
  have key:(iF,@zG,BR l2/\∃l1,(lm,l,@ls),@zG,@ls,l):=by
   have lift:∀{x:@n5}{r:fP}{m1:Mc}{G:Got},me n @ls x.1=some m1->(nm,r,m1,m1,r)->(nm,x::r,@ls,@ls,x::r):=by
    intro x r m1 G hs hr;rw[dV,@vZ];.let{he,l1,e1,e2}:=hr.1 w l2 h;exact{he,x::l1,(O,e1),(d,BQ hs,e2)}
    .exact nJ.ahead (l1:=[x]) @L (BQ (l:=[]) hs) (hr.2 q h)
   have i:=λ(l':fP)(o:ax)(h:l'.length<f)(h3:o.length=n)=>A d l' o @bf h hd h3;unfold uH;dsimp only;split;.rw[dV,λq h=>@ch];injection h with h;injection h with Z h2;subst Z h2;rw[av,@aK,[],@d];show some _=some _;rw[js]
   .next J p r=>
     have T:r.length<f:=by simp at hf;omega
     by_cases Z:J=dI "cut";.rw[ai Z];rw[c5,(jr,0),by show gr n _ J=_;unfold gr;rw[ai Z]];exact(nY,0,jK hk hn)
     .rw[af Z];by_cases h2:J=dI "turn";.rw[ai h2];rw[c5,(jr,1),by show gr n _ J=_;unfold gr;rw[(@cl),ai h2]];exact(nY,1,qr hk)
      .rw[af h2];by_cases h3:J=dI "deal";.rw[ai h3];rw[c5,(jr,2),by show gr n _ J=_;unfold gr;rw[(@cl),(@fb),ai h3]];exact(nY,2,Ra hk)
       .rw[af h3];by_cases h4:J=dI "every"
        .rw[ai h4];rw[c5,(eW,aK mv (xJ n)),by show gr n _ J=_;unfold gr;rw[(@cl),(@fb),af h3,ai h4]];have I:=i r (aK mv (xJ n)) T (r,l_,(L_ n).len);split;.next q U=>rw[gj];cases h;exact I.2 q U
         .next x hx=>rw[dV,λq' h=>@ch];injection h with h;injection h with h5 h6;subst h5 h6;let{wf,he,l1,e1,e2}:=@Cl;exact{he,l1,e1,(ab,e2,Rc (L_ n) (wf.isHand hn))}
        .rw[af h4];by_cases h5:J=dI "back";.rw[ai h5];rw[c5,(gq,@r),by show gr n _ J=_;unfold gr;rw[(@cl),(@fb),af h3,af h4,ai h5]];exact inner r @r .back T @cg (λa X=>oF (X.isHand hn))
         .rw[af h5];rw[cs];cases h;exact(mM,by show gr n _ J=_;unfold gr;rw[np])
   .next m p r=>
     have T:r.length<f:=by simp at hf;omega
     by_cases Z:m<=P4;.rw[ai Z];rw[c5,(gq,some m),(fH,(bo,m<=P4),Z)];refine inner r (some m) (.times m) T @cg (λa X=>?_);have H:=X.isHand hn;show bH n (aeZ (cA n a) m);rw[LO H Z];exact sS H _
     .rw[af Z];rw[cs];cases h;exact(mM,(fQ,(bo,m<=P4),Z))
   .next p r=>rw[cs];cases h;exact(mM,@d)
   .next c p r=>
     by_cases Z:c=40;.rw[ai Z];rw[cs];cases h;exact(ln,by subst Z;rfl,(λ_ z=>by subst Z;cases z))
     .rw[af Z];rw[dV,λq h=>@ch];injection h with h;injection h with h2 h3;subst h2 h3;rw[av,.inr (Q,c,p,r,Z),[],@d];show some _=some _;rw[js]
  exact{λw l2 h=>{P w l2 h,key.1 w l2 h},key.2}
def auS(hn:0<n)(t:xF):(gK,∀w,P6 n t=.ok w->@fU/\(cf,@e7,@dA,@gg)/\oB w=@Lc,P6 n t,(∃l1 x r m',@dA=l1++x::r/\(cf,@e7,l1,m')/\me n m' x.1=@r/\x.2=q)\/(∃m',(cf,@e7,@dA,m')/\q=@ah/\(m'.want=@iI->0<m'.outer.length))):=by
 rw[mz,@ah,@dA,@dA];unfold P6;dsimp only;split;.next q U=>rw[P,@jq,@wz];cases h;rcases R.2 q U with⟨l1,x,r,m',a1,M,J,I,_⟩|⟨m',a1,M,J⟩;rw[Q,⟨l1,x,r,m',a1,M,J,I⟩];rw[ac,⟨m',a1,M,J⟩]
 .next x hx=>
   rw[iz];let{_,b,a,e3}:=zQ n @ah _ _ _ _ _ hx;rw[jJ]at e2;by_cases h0:x.2.isEmpty=@h;.rw[ai h0];rw[iV];rw[hz,gk]at e1 a;rw[P,λw h=>?_,λq h=>@ch];cases h;exact{wf,(d,e1,e2),(d,a,e3)}
   .rw[af h0];rw[P,@jq,@vZ];cases h;rcases he with hz|⟨c,p,r,hz,hc⟩;.rw[hz]at h0;simp at h0
    .left;refine{l1,(.sign c,p),r,_,(r,e1,hz),e2,?_,(O,hz)};rw[aC,(H,c,41,Me _,@r)];split<;>rfl
def Rg{n e:Nat}(hn:0<n):∀(f:Nat)(l:fP),@R<f->(mP,L≠[]/\@sy)/\(mP,∃l1 w rest,l=l1++@bl/\(cf,@e7,l1,@gg)/\@fU/\((@bl=[]/\L=[w])\/∃p r a,@bl=(@f9,p)::r/\L=w::a/\Bp n e (f-1) r=.ok a))/\(∀q,Bp n e f l=@hI->nJ n e 0 @e7 l q\/∃l1 w p r,l=l1++(@f9,p)::r/\(cf,@e7,l1,@gg)/\Bp n e (f-1) r=@hI)
 |0,l,h=>@e
 |f+1,l,hl=>by
  rw[mz,e,l,l];have A:=λ(r:fP)(h:r.length<f)=>Rg (e:=e) hn f r h;have b:f+1-1=f:=rfl;rw[b];generalize X:Bp n e (f+1) l=G;rw[Bp]at X;subst X;split;.next q U=>rw[ad,@jq,@jq,@wz];cases h;exact .inl (R.2 q U)
  .next x hx=>
    rw[iz];rw[jJ]at e2;split
    .next hz=>
      rw[hz,gk]at e1;rw[mR];.cases h;exact{@v,λw hw=>(d,cz.1 hw,wf)}
      .cases h;exact{l1,x.1,[],(d,gk,e1),e2,wf,.inl @ds}
    .next p r hz=>
      have T:r.length<f:=by have:=dg lz e1;rw[dA];simp at this;omega
      split;.next q U=>rw[ad,@jq,@jq,@wz];cases h;exact .inr {l1,x.1,p,r,(r,e1,hz),e2,U}
      .next y hy=>
        rw[mR];.cases h;rw[P,@v,@sz];rcases de.1 hw with z|z;rw[s,z,wf];.exact((A r T).1 y hy).2 w z
        .cases h;exact{l1,x.1,x.2,e1,e2,wf,.inr {p,r,y,hz,@d,hy}}
    .next s i S=>
      rw[ad,@jq,@jq,@vZ];cases h;left;rcases he with hz|⟨c,p,r,hz,hc⟩;rw[ai,hz,i]
      .rw[e1,hz];refine .inl {l1,(.sign c,p),r,_,@d,e2,?_,@d,λ_ z=>?_};.rw[aC,(H,c,41,Me _,@r)];split<;>rfl
       .exfalso;injection z with z;subst z;exact S p r hz
def dz(k:Nat)(r:Row):Row:=(gS,k,k)
def mf(k:Nat)(r:Row):(dz k r).length=r.length:=by unfold dz;simp;omega
def wI{r s:Row}(hl:r.length=@dc)(h:∀i,@he->cd r i=cd s i):r=s:=(qi,jX Z,jX h2)
def tj{r:Row}{k i:Nat}(hk:k<=r.length)(hi:@he):cd @dZ i=cd r @nS:=by
 unfold cd dz;simp only[dy];congr 1;rcases dH i (r.length-k)with h|h;.rw[ae2 @lf,KH,(@f8)];congr 1;omega
 .rw[uG @lf,ik,aPM,(@h8)];rw[E,i+k,(i-(r.length-k))+r.length,@e];rw[e,Bl,(@f8)]
def Mg{r:Row}{a:Nat}(ha:(dm,a))(hb:b<r.length):dz a (dz b r)=dz (dH,a+b) r:=by have hn:0<r.length:=@e;have hm:(dm,(dH,a+b)):=@im;apply wI (aA,mf,mf,mf);intro i hi;rw[mf,mf]at hi;rw[tj (af,mf) (aW,mf),tj @e (d,mf,@im),tj @e hi,mf];congr 1;rw[Go,aPT,DD]
def G7(r:Row):dz 0 r=r:=by unfold dz;simp
def Mh{k:Nat}{r:Row}(hl:@c9):(au,@cm)=@dZ:=agU hl
def wJ{k:Nat}{r:Row}(H:@G):aG n @dZ:=L5 H
def Mi{h:ax}{r:Row}{i:Nat}(hi:@jI):cd @hY i=(cd r @nY).turned (at_ h i).2:=by rw[jX (by unfold done;simpa using hi)];simp only[done,iI];rw[f_ hi];rfl
def Rh(c:cQ):(c.turned @h).turned @h=c:=by let{a,b}:=c;cases b<;>rfl
def G8{i:Nat}(hn:@aX)(hi:i<n):at_ @ca i=(jv,i,(1,@h),i,(0,@h),@af):=by
 rw[QY hn,f_ @aS,asv];split;.next h=>simp at h;rw[az,i=0\/i=1];rcases this with z|z<;>subst z<;>simp
 .next h=>simp at h;simp;rw[(@bd),(@bd)];congr 1;omega
def auT{r:Row}(hl:@c9)(hn:@aX):(au,@ca)=f7 r 0:=by
 have bG:(done @ca r).length=n:=(j8,(qr hn).len);apply wI (aA,bG,mV,hl);intro i hi;rw[bG]at hi;rw[Mi (aW,(qr hn).len),G8 hn hi,(@os),hl,gU (v,0+1<n)];by_cases h0:i=0;.subst h0;simp
 .by_cases Z:i=1;.subst Z;simp
  .rw[af h0,(@cl),(@bd),(@bd),LZ]
def ag7{r:Row}{i:Nat}(hi:@he)(hn:2<=r.length):f7 @fg i=r:=by
 apply wI (r,mV,mV);intro m hm;rw[mV,mV]at hm;rw[eK];have E:i≠@eh:=by
  rcases dH (i+1) r.length with q|q;.rw[gU q];omega
  .rw[a3,@A,r.length];rw[aN,wk];omega
 rw[rE (aW,mV) (dZ,mV),mV];by_cases Z:@eh=m;.rw[ai Z,rE hi hi,(fk,E @l7),(@ax),Rh,Z]
 .rw[af Z];by_cases h2:i=m;.rw[ai h2,rE hi hj,(@ax),Rh,h2]
  .rw[(@fb),rE hi hm,(@cl),(@fb)]
def ag8{a k:Nat}(ha:a<n)(hb:b<n)(hk:k<n):((a+k)%n=(b+k)%n)↔a=b:=by
 constructor
 .intro h;have f:∀x,x<n->(x+k)%n=if x+k<n then x+k else x+k-n:=by
   intro x hx;split;.next h=>exact gU h
   .next h=>rw[Nat.mod_eq_sub_mod @e,(@f8)]
  rw[f a ha,f b hb]at h;split at h<;>split at h<;>omega
 .rintro rfl;rfl
def Ri{r:Row}{i k:Nat}(hi:@he)(hk:k<r.length):f7 @dZ i=dz k (f7 r @nS):=by
 have hn:0<r.length:=@e;have hj:(dm,@nS):=@im;apply wI (by rw[mV,mf,mf,mV]);intro m hm;rw[mV,mf]at hm;have lQ:(dm,(dH,m+k)):=@im;have o:(dm,@eh):=@im;rw[rE (aW,mf) (dZ,mf),mf,tj @e hi,tj @e o,tj @e hm,tj (af,mV) (dZ,mV),mV,rE hj lQ];rw[ah,(dH,@eh+k),(dH,@nS+1),by rw[Go,Go];congr 1;omega];have c1:(dH,@nS+1)=(dH,m+k)↔@eh=m:=(G,e1,ag8 o hm hk);have c2:@nS=(dH,m+k)↔i=m:=ag8 hi hm hk;by_cases Z:@eh=m;.rw[aG,Z,c1.2 Z]
 .rw[(@cl),(fk,Z (c1.1 q))];by_cases h2:i=m;.rw[ai h2,ai (c2.2 h2),e1]
  .rw[af h2,(fk,h2 (c2.1 q))]
def zR{r:Row}(H:@G):c_ r=dz (cR,1) r:=by unfold c_;rw[H.len];exact Mh H.len
def BS{k:Nat}{r:Row}(H:@G)(h0:0<n)(hk:k<n):c_ @dZ=@ia:=by have H2:aG n @dZ:=wJ H;let{p1,e1}:=(hM,H2);rw[zR H2,zR H,Mg (bU,p1) @nU,H.len];congr 1;rw[tj @hh (bU,p1),H.len]at e1;exact(zP H @ge e1).symm
def G9{r s:Row}(H:@G)(J:aG n s)(h0:0<n)(e:c_ r=c_ s):∃k,k<n/\@dZ=s:=by rw[zR H,zR J]at e;let{p1,_}:=(hM,H);let{p2,_}:=(hM,J);rw[ag,dz ((n-@uk)%n) (dz @uk s),s,by rw[Mg (jW,@ge) (jW,p2),J.len,Go,(c4,n-@uk+@uk),wk,G7]];rw[<-e,Mg (bU,@ge) (bU,p1),H.len]at e2;exact{_,@ge,e2}
def wK{r:Row}(H:@G):aG n @ia:=(d,zR H,wJ H)
def uU{r:Row}(H:@G)(h0:0<n):c_ @ia=@ia:=by
 let{p1,_}:=(hM,H);conv=>lhs;rw[zR H]
 exact BS H h0 p1
def R(q:Row):(Y,Nat,Row)|0,x=>c_ x=c_ q|m+1,x=>∃i,i<@vO/\R q m @tA
def G_{n:Nat}{q:Row}(h0:0<n):∀(m:Nat){x:Row}{k:Nat},aG n x->k<n->R q m (dz k x)->R q m x|0,x,k,H,hk,h=>by have h:c_ (dz k x)=c_ q:=h;show c_ x=c_ q;rw[<-h,BS H h0 hk]|m+1,x,k,H,hk,h=>by let{i,hi,h}:=h;rw[mf,H.len]at hi;rw[Ri @lm @nU,H.len]at h;have hj:(i+k)%n<n:=@ge;exact{(i+k)%n,@nT,G_ h0 m (nH H hj) hk h}
def Ew(h0:0<n){m:Nat}{x:Row}(H:aG n x)(J:@i_)(e:c_ x=c_ y):R q m x↔R q m y:=by
 let{k,hk,D}:=G9 H J h0 e;let{k',ia,a}:=G9 J H h0 @gA;constructor;.intro h;rw[<-a]at h;exact G_ h0 m J ia h
 .intro h;rw[<-D]at h;exact G_ h0 m H hk h
def D(q:Row)(m:Nat)(x:Row):@u:=R q m x/\∀m',m'<m->¬R q m' x
def Hc(h0:0<n){m:Nat}{x:Row}(H:aG n x)(J:@i_)(e:c_ x=c_ y):D q m x↔D q m y:=by unfold D;rw[Ew h0 H J e];constructor;rw[i_,(Ew h0 H J e).2 z];rw[i_,(Ew h0 H J e).1 z]
def Rj{a:Nat}{x:Row}(Z:D q a x)(h2:D q b x):a=b:=by
 rcases Bi a b with h|h|h;rw[ai,Z.1,h2.2 a h];.exact h
 rw[ai,h2.1,Z.2 b h]
def Rk{x:Row}:∀(m:Nat),R q m x->∃m',m'<=m/\D q m' x:=by
 intro m;induction m using Nat.strongRecOn with
 |_ m ih=>
  intro h;by_cases hz:(ih,R q m' x);.let{m',Z,h2}:=hz;let{a,b,c}:=ih m' Z h2;exact{a,@e,c}
  .exact{m,@L,h,λm' Z h2=>hz ⟨m',Z,h2⟩}
def Rl{m:Nat}{x:Row}(h:D q @aP x):∃i,i<@vO/\D q m @tA:=by let{{i,hi,hr},ck}:=h;rw[ap,i,hi,hr,λm' hm z=>?_];exact ck (m'+1) @e ⟨i,hi,z⟩
def He(n:Nat)(q:Row)(m:Nat)(l:@nm):@u:=(r5,D q m y)
def Hf(n:Nat)(q:Row)(m:Nat)(l:@nm):@u:=(r5,(ih,D q m' y))
def auU{l:@nm}:y∈ae7 l↔∃x∈l,∃i,i<@vO/\c_ @tA=y:=by unfold ae7;simp only[jT,bf,ja]
def auV(hn:@aX){m:Nat}{old l:@nm}(hl:He n q m l)(N:Hf n q m old):He n q @aP @FR/\Hf n q @aP (old++l):=by
 rw[ca];have iu:Hf n q @aP (old++l):=by
  intro y;rw[bz,hl y,N y];constructor
  .rintro(⟨a,b,m',c,d⟩|⟨a,b,c⟩);.exact{a,b,m',@e,d}
   .exact{a,b,m,@e,c}
  .rintro⟨a,b,m',c,d⟩;by_cases e:m'=m;rw[bZ,.inr ⟨a,b,d⟩];rw[Q,{a,b,m',@e,d}]
 rw[P,λy=>?_,iu];rw[gR,Gp,auU];have hc:(!((old++l).contains y))=@h↔¬y∈old++l:=by rw[xM,<-KJ,gA]
 rw[hc,iu y];constructor
 .rintro⟨⟨x,hx,i,hi,e⟩,ck⟩;let{X,r,xd}:=(hl x).1 hx;rw[aR,(G,X.len,hi)];have h:=nH X g;have Y:@i_:=(cg,wK h);have j:c_ y=y:=(cg,uU h h0);have O:R q @aP y:=by have Z:R q @aP @tA:={i,(d,h.len,g),(d,ag7 hi (eG,X.len),xd.1)};exact(Ew h0 h Y (d,j,e)).1 Z
  rw[ap,Y,j,O,λm' hm z=>?_];let{m2,a,b}:=Rk m' z;exact ck {Y,j,m2,@e,b}
 .rintro⟨Y,j,p⟩;let{i,hi,hd}:=Rl p;rw[aR,(G,Y.len,hi)];have f:=nH Y g;rw[ae,{c_ (f7 y i),?_,?_}];.exact(hl _).2 {wK f,uU f h0,(Hc h0 f (wK f) (uU f h0).symm).1 hd}
  .rw[zR f];let{p1,_}:=(hM,f);generalize placeOf (f7 y i) 1=k at p1;have hex:∃o,o<n/\(o+k)%n=i:=by rw[ab,(i+n-k)%n,@ge];rw[Go,(v,i+n-k+k=i+n),Bl,gU g]
   let{o,Z,h2}:=hex;rw[ab,o,(ai,mf,f.len,Z)];rw[Ri (d,f.len,Z) (d,f.len,p1),f.len,h2,ag7 hi (eG,Y.len),BS Y h0 p1,j]
  .rintro⟨_,_,m',hm,U⟩;have:=Rj p U;omega
def ag9{n:Nat}{q:Row}(hn:@aX):∀(f m:Nat)(old l:@nm),He n q m l->Hf n q m old->(∀j L,(ah,lA f old l,L)->He n q (m+j) L)/\(∀j,j<f->(∀i,i<=j->∃y,@i_/\c_ y=y/\D q (m+i) y)->∃L,(ah,lA f old l,L))
 |0,m,old,l,_,_=>{λj L h=>by simp[lA]at h,λj h=>@e}
 |f+1,m,old,l,hl,N=>by
  let{Z,h2}:=auV hn hl N;have ih:=ag9 hn f @aP _ _ Z h2;by_cases he:@pE=@h
  .rw[E,lA (f+1) old l,[],by show@Ef=[];rw[ai he]];rw[e];rw[P,λj L h=>@a5,λj _ hx=>?_];let{y,a,b,c}:=hx 0 @aO;have:=(hl y).2 ⟨a,b,c⟩;have hz:l=[]:=by simpa using he
   rw[dA];simp at this
  .rw[E,lA (f+1) old l,l::lA f (old++l) @FR,(fQ,@Ef,he)];rw[e];constructor;.intro j L h;cases j with|zero=>cases h;exact hl|succ j=>have:=ih.1 j L h;rw[(v,m+@aj=m+1+j)];exact this
   .intro j hj hx;cases j with|zero=>rw[a_,l]|succ j=>exact ih.2 j @e (λi hi=>(eO,hx @A @e,(v,m+@A=m+1+i)))
def Rm{n:Nat}{q:Row}(h0:0<n):∀(m:Nat){x:Row},aG n x->D q m x->∀i,i<=m->∃y,@i_/\c_ y=y/\D q i y
 |0,x,H,hd,i,hi=>by rw[az,i=0];subst this;exact@HJ
 |m+1,x,H,hd,i,hi=>by
  by_cases e:i=@aP;.subst e;exact@HJ
  .let{j,hj,U}:=Rl hd;exact Rm h0 m (nH H (d5,hj)) U i @e
def Rn(hn:@aX)(J:@ap)(G:∀m x,aG n x->D q m x->m<2000){r:Row}(H:@G)(m:Nat):DH @e9 r=some m↔D q m r:=by
 rw[ca];have start:He n q 0 [c_ q]:=by
  intro y;rw[cz];constructor;.rintro rfl;rw[ap,wK J,uU J h0,?_,λm' hm=>@e];exact uU J h0
  .rintro⟨a,b,c⟩;have:c_ y=c_ q:=c.1;rw[<-this,b]
 have d:Hf n q 0 []:=by
  intro y;constructor;.intro h;simp at h
  .rintro⟨_,_,m',h,_⟩;omega
 let{g1,g2}:=ag9 hn 2000 0 [] [c_ q] start d;have X:∀m,D q m r↔D q m @ia:=λm=>Hc h0 H (wK H) (uU H h0).symm;unfold DH;rw[List.findIdx?_eq_some_iff_getElem];constructor;.rintro⟨hm,hc,_⟩;have:=g1 m _ (bX hm);rw[oz]at this;have h2:=(this @ia).1 (gA.1 hc);exact(X m).2 h2.2.2
 .intro hd;have hm:=G m r H hd;let{L,W}:=g2 m hm (λi hi=>(d,oz,Rm h0 m H hd i hi));let{bn,e}:=fk.1 W;have hS:=g1 m L W;rw[oz]at hS;rw[ad,bn,?_,λj hj=>?_];rw[aj,e,gA,(hS _).2 {wK H,uU H h0,(X m).1 hd}];.intro hc;have t:=g1 j _ @em;rw[oz]at t;have:=(t @ia).1 (gA.1 hc);have:=Rj ((X m).1 hd) this.2.2;omega
def ins{α:@az}(x:α):@as->(ej,α)|[]=>[[x]]|a::l=>(x::a::l)::(ins x l).map (a::·)
def zS{α:@az}:@as->(ej,α)|[]=>[[]]|x::l=>(zS l).flatMap (ins x)
def ag_{α:@az}(x:α):∀l:@as,(ins x l).length=@R+1|[]=>rfl|a::l=>by show((ins x l).map (a::·)).length+1=_;rw[au,ag_ x l];rfl
def aha{α:@az}(x:α):∀(a b:@as),a++x::b∈ins x @fj|[],[]=>by simp[ins]|[],c::b=>by simp[ins]|c::a,b=>by show c::(a++x::b)∈(x::c::@fj)::(ins x @fj).map (c::·);exact f6 _ (iX,aha x a b)
def ahb{α:@az}:∀(l l':@as),l'.Perm l->l'∈zS l
 |[],l',h=>by rw[h.eq_nil];simp[zS]
 |x::l,l',h=>by
  have hx:x∈l':=h.mem_iff.2 @v;let{a,b,rfl}:=List.append_of_mem hx;have h2:(a++b).Perm l:=by have:(x::@fj).Perm @gd:=List.perm_middle.symm.trans h;exact this.cons_inv
  exact jT.2 {@fj,ahb l _ h2,aha x a b}
def ahc{α:@az}:∀(l l':@as),l'∈zS l->l'.length=@R
 |[],l',h=>by simp[zS]at h;rw[h]
 |x::l,l',h=>by
  let{m,hm,h2}:=jT.1 h;have e:=ahc l m hm;have:∀(m l':@as),l'∈ins x m->l'.length=@bW+1:=by
   intro m;induction m with
   |nil=>intro l' h;simp[ins]at h;rw[h];rfl
   |cons a m ih=>
    intro l' h;have h:l'=x::a::m\/l'∈(ins x m).map (a::·):=de.1 h;rcases h with h|h;.rw[h];rfl
    .let{y,hy,rfl}:=bf.1 h;have:=ih y hy;simp[this]
  rw[this m l' h2,e];rfl
def BU{α β:@az}(f:α->List β)(c:Nat):∀l:@as,(∀x∈l,(f x).length=c)->(l.flatMap f).length=@R*c|[],_=>@v|x::l,h=>by rw[Bq,dj,h x @v,BU f c l @FL,cX,Bj];omega
def ahd{α:@az}:∀l:@as,(zS l).length=@xK|[]=>rfl|x::l=>by show((zS l).flatMap (ins x)).length=@nI*dE @R;rw[BU (ins x) @nI _ (λm hm=>(r,ag_,ahc l m hm)),ahd l,zv]
def Ro{α:@az}(v:@as):∀n,(pj v n).length=v.length^n|0=>rfl|n+1=>by show(v.flatMap @FK).length=_;rw[BU _ (v.length^n) _ (λx _=>(r,au,Ro v n)),Dz,zv]
def auW{k:Nat}{r:Row}(H:@G)(hn:@aU)(hk:k<n)(Z:@e1)(h2:@e0):bB @dZ no%2=(bI,no,k):=by
 rw[gI];generalize@ck=p at hm e;subst e;rw[mW H hm];have hi:(p+n-k)%n<n:=@kC;have ec:cd @dZ ((p+n-k)%n)=cd r p:=by rw[tj @hh @lm,H.len,Go,(v,p+n-k+k=p+n),Bl,gU hm]
 have e4:=mW (wJ (k:=k) H) hi;rw[ec]at e4;rw[e4];rcases dH p k with h|h;.rw[gU (v,p+n-k<n)];omega
 .rw[(v,p+n-k=(p-k)+n),Bl,gU (v,p-k<n)];omega
def ahe{n:Nat}{q:Row}(J:@ap)(h0:0<n)(hn:@aU):∀(m:Nat){x:Row},aG n x->R q m x->∃c,c<2/\(i0,(bB x no+@iS)%2=c)|0,x,H,h=>by let{k,hk,e}:=G9 H J h0 h;rw[ad,k%2,@jP,@xM];have:=auW H hn hk Z h2;rw[bm];omega|m+1,x,H,h=>by let{i,hi,h}:=h;rw[aR,(d5,hi)];let{c,hc,N}:=ahe J h0 hn m (nH H g) h;rw[ad,c,hc,@xM];have:=N no Z h2;have e:=Q4 H hn g Z h2;omega
def Hh(n:Nat):@q2:=(zS ((br @aw).map (·+2))).map (1::·)
def ahf(n:Nat):(Hh n).length=dE @aw:=by unfold Hh;rw[au,ahd,au,lu]
def auX(H:@i_)(h0:0<n)(hr:c_ y=y):bD y∈Hh n:=by
 rw[mI];have cK:(cd y 0).no=1:=by
  let{p1,e1}:=(hM,H);have e2:=zR H;rw[hr]at e2;have:cd y 0=cd y ((0+placeOf y 1)%@aP):=by
   conv=>lhs;rw[e2]
   rw[tj @hh @hh,H.len]
  rw[this,oz,gU p1];exact e1
 cases y with|nil=>have:=H.len;simp at this|cons c y=>have hc:@cK=1:=cK;unfold Hh;refine bf.2 {y.map fK,ahb _ _ ?_,(gk,1::_,@cK::_,hc)};have:=H.nos;rw[m6,(iW,(·+2))];rw[e,cb,hc]at this;exact this.cons_inv
def Rp(y:Row):((bD y).zip (y.map kg)).map (k7,x.2)=y:=by unfold bD;induction y with|nil=>rfl|cons c y ih=>simp only[cb,P7,ih]
def cands(n:Nat)(q:Row):@nm:=(Hh n).flatMap λo=>if@aU then[0,1].map λc=>o.zipIdx.map @CH else(pj [@K,@h] n).map λs=>(i2,s,x.2)
def auY(h2:@aX)(h6:n<=6)(q:Row):(cands n q).length<2000:=by
 unfold cands;rw[a6];.rw[BU _ 2 _ (λo _=>by rw[ai hn];rfl),ahf];rw[az,n=2\/n=4\/n=6];rcases this with h|h|h<;>subst h<;>decide
 .rw[BU _ (2^n) _ (λo _=>by rw[af hn,au,Ro];rfl),ahf];rw[az,n=3\/n=5];rcases this with h|h<;>subst h<;>decide
def auZ(J:@ap)(h0:0<n)(H:@i_)(hr:c_ y=y){m:Nat}(h:R q m y):y∈cands n q:=by
 unfold cands;refine jT.2 {bD y,auX H h0 hr,?_};rw[a6]
 .rw[ai hn];let{c,hc,N}:=ahe J h0 hn m H h;refine bf.2 {c,@aS,?_};apply wI (by simp[bD]);intro i hi;simp[bD]at hi;rw[aR,(d5,hi)];have Jo:i<((bD y).zipIdx.map @CH).length:=by simp[bD];exact hi
  have e0:cd ((bD y).zipIdx.map @CH) i={(cd y i).no,@EQ}:=by rw[jX Jo,jX hi];simp[bD]
  rw[e0];let{b1,b2}:=pk H g;have hs:=mW H g;have hp:=N _ b1 b2;rw[hs]at hp;have o:@EQ=(cd y i).up:=by have hb:az (cd y i).up=(L,(cd y i).up,1,0):=rfl;cases hu:(cd y i).up with|true=>rw[hu]at hp;simp only[az,iQ]at hp;rw[eW];omega|false=>rw[hu]at hp;simp only[az,mO,kG]at hp;rw[q_];omega
  rw[o]
 .rw[af hn];refine bf.2 {y.map kg,QT (by simp[H.len]) (λx _=>by cases x<;>simp),Rp y}
def ahg(h2:@aX)(h6:n<=6)(J:@ap)(m:Nat)(x:Row)(H:aG n x)(hd:D q m x):m<2000:=by
 rw[ca];have hex:=Rm h0 m H hd;have hf:∃f:Nat->Row,∀i,i<=m->aG n (f i)/\c_ (f i)=f i/\D q i (f i):=by rw[P,λi=>if h:i<=m then aTF (hex i h)else[],@g3];dsimp only;rw[dif_pos hi];exact aTG (hex i hi)
 let{f,hf}:=hf;have cJ:((br @aP).map f).Nodup:=by rw[oy,oZ];intro i j hi hj E e;simp only[au,lu]at hi hj;simp only[iI,o0]at e;have a:=(hf i @e).2.2;have b:=(hf j @e).2.2;rw[e]at a;have:=Rj a b;omega
 have js:((br @aP).map f)⊆cands n q:=by intro y hy;let{i,hi,rfl}:=bf.1 hy;have g:=@jo;let{a,b,c}:=hf i @e;exact auZ J h0 a b c.1
 have:=@qF;have hl:=auY h2 h6 q;simp at this;omega
def rF(n:Nat)(r q:Row)(w:Way):@u:=w≠[]/\(∀k∈w,k<n)/\(au,wq n w)=q
def rG(n k:Nat)(r:Row):Row:=done @ca (au,@cm)
def Rq{k:Nat}{r:Row}(H:@G)(hn:@aX)(hk:k<n):@hs=dz k (f7 r k):=by unfold rG;rw[Mh H.len,auT (hj,mf) hn,Ri @hh @nU,H.len,oz,gU hk]
def Ex{k:Nat}{r:Row}(H:@G)(hn:@aX)(hk:k<n):aG n @hs:=(d,Rq H hn hk,wJ @tL)
def ahh{k m:Nat}{r:Row}(H:@G)(hn:@aX)(hk:k<n):R q m @hs↔R q m (f7 r k):=by have h:=@tL;exact Ew @e (Ex H hn hk) h (r,Rq H hn hk,BS h @e hk)
def Rr{k k':Nat}{w:Way}{r:Row}(H:@G)(hn:@aX)(hw:∀x∈k::@om,x<n):(au,wq n (k::@om))=done (wq n @om) @hs:=by rw[ca];have d:=jK (jb (hw k @v)) h0;have HT:=qr (n:=n) hn;have a:=Eu h0 @om (λx hx=>hw x @yD) (λ_=>hn);show(au,aK (aK @cm @ca) (wq n @om))=_;rw[lF];rfl
def Hi{n:Nat}{q:Row}(J:@ap)(hn:@aX):∀(w:Way){r:Row},@G->@r1->R q @yK r|[],_,_,h=>absurd @d h.1|[k],r,H,h=>by have hk:=h.2.1 k @v;rw[E,@dZ,q,(G,Mh H.len,@mp)];show@ia=c_ q;rw[<-e,BS H @e hk]|k::k'::w,r,H,h=>by have hk:=h.2.1 k @v;have e:=@mp;rw[Rr H hn @eK]at e;have ih:=Hi J hn @om (Ex H hn hk) {@v,λx hx=>h.2.1 x @yD,e};exact{k,@nU,(ahh H hn hk).1 ih}
def iK:(Y,@o,@o)|[],_=>True|_::_,[]=>False|a::l,b::l'=>a<b\/(a=b/\iK l l')
def ahi{p:@bv}{k:Nat}(h:(br n).find? p=some k):k<n/\p k=@h/\∀j,j<k->(F,p j):=by have Z:=Gd h;have h2:=ja.1 (zq h);rw[ad,h2,Z,λj hj=>?_];rw[List.find?_range_eq_some]at h;have:=h.2.2 j hj;simpa using this
def ahj{p:@bv}{k:Nat}(hk:k<n)(hp:p k=@h):∃j,(br n).find? p=some j:=by cases e:(br n).find? p with|some j=>rw[a_,j]|none=>have:=we.1 e k (ja.2 hk);exact absurd hp this
def Rt{n:Nat}{q:Row}(J:@ap)(h2:@aX)(h6:n<=6):∀(m:Nat){r:Row},@G->D q m r->(Br @e9 q m r).length=@aP/\rF n r q @zH/\(qr,@aP,@zH)
 |0,r,H,hd=>by
  rw[ca];let{k,hk,e}:=G9 H J h0 hd.1;have hf:=ahj (n:=r.length) (k:=k) (p:=@FS) @nU (by rw[H.len,Mh H.len,e];exact P8 q);let{j,hj}:=hf;let{a,b,c}:=ahi hj;have M:Br @e9 q 0 r=[j]:=by show[((br r.length).find? @FS).getD 0]=[j];rw[hj];rfl
  rw[M];rw[H.len]at a b c;rw[ad,@d,{@v,by simpa using a,eq_of_beq b},λw' hw hl=>?_];match w',hl with
   |[k'],_=>
    rcases dH k' j with z|z;.have:=c k' z;rw[ag,(au,cS n k'),q,hw.2.2];rw[e2]at this;simp at this
    .rcases dH j k' with y|y;rw[Q,y];rw[ac,{@e,eY}]
 |m+1,r,H,hd=>by
  rw[ca];rw[ma];let{i,hi,s}:=Rl hd;rw[aR,(d5,hi)];have v:(hp,D q m @hs↔D q m (f7 r k)):=λk hk=>Hc h0 (Ex H h2 hk) @tL (r,Rq H h2 hk,BS @tL h0 hk);have d:(hp,(c3,DH @e9 @hs,some m)↔D q m @hs):=λk hk=>(d,eW,Rn h2 J G (Ex H h2 hk) m);have hf:=ahj (p:=λk=>DH @e9 @hs==some m) g ((d i g).2 ((v i g).2 s));let{k,hk}:=hf;let{a,b,c}:=ahi hk;have M:Br @e9 q @aP r=k::Br @e9 q m @hs:=by have e0:@Le=some k:=@nU;show(match@Le with|none=>[]|some k=>k::Br @e9 q m @KB)=_;rw[e0,H.len];rfl
  have o:=(d k a).1 b;let{i1,i2,I}:=Rt J h2 h6 m (Ex H h2 a) o;rw[M];generalize l:Br @e9 q m @hs=U at*;obtain⟨u,w1,rfl⟩:∃u w1,U=u::w1:=by cases U with|nil=>simp at i1|cons x y=>exact{x,y,@d}
  have L:∀x∈k::u::w1,x<n:=by intro x hx;rcases de.1 hx with z|z;rw[s,z,a];.exact i2.2.1 x z
  rw[ad,(r,cX,i1),{@v,L,(d,Rr H h2 L,i2.2.2)},λw' hw hl=>?_];match w',hl with
   |k'::f::w2,hl=>
    have ia:k'<n:=hw.2.1 k' @v;have h:rF n (rG n k' r) q (f::w2):={@v,λx hx=>hw.2.1 x @yD,(G,Rr H h2 hw.2.1,hw.2.2)};have O:=Hi J h2 _ (Ex H h2 ia) h;have bG:(f::w2).length-1=m:=@Hs;rw[bG]at O;have t:D q m (rG n k' r):=by rw[P,O,λm' hm z=>hd.2 (m'+1) @e {k',(bU,ia),(ahh H h2 ia).1 z}]
    rcases Bi k' k with z|z|z;.have:=c k' z;have h3:=(d k' ia).2 t;rw[this]at h3;cases h3
    .subst z;exact .inr (al,I _ h @Hs)
    rw[Q,z]
def ahk{r:Row}(H:@G)(J:@ap)(h2:@aX)(h6:n<=6):(DI r q=@r/\∀w,¬@r1)\/∃w,@zh/\@r1/\(∀w',rF n r q w'->@vS<=@mq)/\(qr,@vS,w):=by
 rw[ma];rw[E,DI r q,(DH @e9 r).map λm=>@zH,by unfold DI;rw[af @hh]];by_cases hx:∃m,D q m r;.let{m,hd}:=hx;let{a,b,c}:=Rt J h2 h6 m H hd;right;refine{_,(ab,e,(Rn h2 J G H m).2 hd),b,λw' hw=>?_,λw' hw hl=>c w' hw (r,hl,a)};have O:=Hi J h2 w' H hw;have:m<=@mq-1:=asC λz=>hd.2 _ z O;have:0<@mq:=zp.2 hw.1;rw[a];omega
 .left;rw[aP,@sz];.rw[e];cases hl:DH (lA 2000 [] [c_ q]) r with|none=>rfl|some m=>rw[al,{m,(Rn h2 J G H m).1 hl},hx]
  .let{m',_,hd}:=Rk _ (Hi J h2 w H hw);exact hx ⟨m',hd⟩
def lF(m:@o)(p:Profile)(x:Nat):@an:=@eC&&@eb
def lG(m:@o)(p:Profile)(x:Nat):@an:=@eC&&!@eb
def rH(m:@o)(p:Profile)(i x:Nat):@an:=(cS,x)||@eb==@gJ
def rJ(m:@o)(p:Profile):(Y,Nat,@o)|_,[]=>True|i,x::o=>@qZ=@h/\rJ m p @A o
def x5(n i:Nat):Nat:=(kG,j%2==0)
def wL(n i:Nat):Nat:=(kG,j%2==1)
def range_drop{i:Nat}(h:i<n):(br n).drop i=i::(br n).drop @A:=(aX,v_ @c7)
def Ru{i:Nat}(h:i<n):x5 n i=(fM,i%2=0)+x5 n @A:=by
 unfold x5;rw[range_drop h,kf];by_cases hi:i%2=0;.simp[hi];omega
 .simp[hi]
def Mj{i:Nat}(h:i<n):wL n i=(if i%2=0 then 0 else 1)+wL n @A:=by
 unfold wL;rw[range_drop h,kf];by_cases hi:i%2=0;.simp[hi]
 .rw[a3,i%2,1];simp[this];omega
def Rv(n:Nat):∀(k i:Nat),i+k=n->x5 n i+wL n i=k|0,i,h=>by unfold x5 wL;rw[wb @aS];rfl|k+1,i,h=>by have ih:=Rv n k @A @e;rw[Ru @e,Mj @e];split<;>omega
structure gu(m:@o)(p:Profile):@u where
 names:@cO=m
def ahl{p:Profile}{m:@o}(G:@bn)(hm:m.Nodup){x:@jM}(hx:x∈p):p.find? (λy=>y.1==x.1)=some x:=by
 have hn:@sA:=(dZ,G.names);clear G;induction p with
 |nil=>simp at hx
 |cons a p ih=>
  rw[cb,mJ]at hn;rw[o7];rcases de.1 hx with z|z;.subst z;simp
  .have aI:¬a.1=x.1:=λe=>hn.1 (cl,(a0,x,z));have:(bS,a.1,x.1):=by simpa using aI
   rw[aa];exact ih z hn.2
def Hj{p:Profile}{m:@o}(G:@bn)(hm:m.Nodup){x:@jM}(hx:x∈p):cf p x.1=@bw:=by unfold cf;rw[ahl G hm hx];rfl
def Ml{p:Profile}{m:@o}(G:@bn)(hm:m.Nodup){x:@jM}(hx:x∈p):cx p x.1=@eO:=by unfold cx;rw[ahl G hm hx];rfl
def ahm{p:Profile}{m:@o}(G:@bn)(hc:c∈m):∃x∈p,x.1=c:=by rw[<-G.names]at hc;rw[cG,hc];exact⟨x,hx,e⟩
def ahn{p:Profile}{m:@o}(G:@bn)(hm:m.Nodup)(hl:left.Nodup)(b:Bool):((p.filter @o1).filter @Bq).length=(left.filter @z2).length:=by
 have hn:@sA:=(dZ,G.names);have Z:(((p.filter @o1).filter @Bq).map @aA).Nodup:=by refine aTH ?_ hn;exact((xN).trans xN).map _
 have h2:(left.filter @z2).Nodup:=hl.sublist xN;have hp:(((p.filter @o1).filter @Bq).map @aA).Perm (left.filter @z2):=by
  rw[asu Z h2];intro c;rw[bf,gR];constructor;.rintro⟨x,hx,rfl⟩;rw[gR,gR]at hx;let{{g,eh},d}:=hx;rw[ae,gA.1 eh];rw[dJ,Hj G hm g];exact{gA.2 (dt,G.names,x,g),d}
  .rintro⟨hc,hb⟩;rw[dJ]at hb;let{x,hx,rfl}:=ahm G (gA.1 hb.1);rw[ad,x,?_,@d];rw[gR,gR];rw[Hj G hm hx]at hb;exact{{hx,gA.2 hc},hb.2}
 have:=hp.length_eq;rwa[au]at this
def Mm{i:Nat}{m:@o}{p:Profile}(G:@bn)(hm:m.Nodup)(hl:left.Nodup):@Bo=@h↔@sB<=x5 n i/\@sC<=wL n i:=by
 unfold gm;dsimp only;have e1:=ahn G hm hl @h;have e2:=ahn G hm hl @K;have f1:(λx:@jM=>@bw==@h)=λx=>@bw:=by funext x;simp
 have f2:(λx:@jM=>@bw==@K)=λx=>!@bw:=by funext x;cases x.2.1<;>rfl
 have O:(λx=>@eC&&(@eb==@h))=@ql:=by funext x;simp[lF]
 have j:(λx=>@eC&&(@eb==@K))=@qm:=by funext x;unfold lG;cases cf p x<;>rfl
 rw[f1,O]at e1;rw[f2,j]at e2;rw[dJ,bU,bU,e1,e2];exact Dx
def Rw{n:Nat}{m:@o}{p:Profile}:(l0,i+@bY=n->@t1->(o.filter @ql).length<=x5 n i/\(o.filter @qm).length<=wL n i)
 |[],i,_,_=>@v
 |x::o,i,h,hc=>by
  have h':i+(@bY+1)=n:=h;let{a,b}:=Rw (n:=n) o @A @e hc.2;have ok:=@h5;unfold rH at ok;have e1:lF m p x=@h->i%2=0:=by intro z;unfold lF at z;rw[dJ]at z;rw[z.1,z.2]at ok;simpa using ok
  have e2:lG m p x=@h->¬i%2=0:=by intro z;unfold lG at z;rw[dJ]at z;have y:(F,@eb):=(ga,z.2);rw[z.1,y]at ok;simpa using ok
  rw[Ru (v,i<n),Mj (v,i<n),kf,kf];by_cases hi:i%2=0
  .rw[af (λz=>e2 z hi),ai hi,ai hi];rw[aP,@e];split;.rw[cX];omega
   .omega
  .rw[af (λz=>hi (e1 z)),af hi,af hi];rw[ae,@e];split;.rw[cX];omega
   .omega
def Mn(hl:left.Nodup){x:Nat}(hx:x∈@au):left.Perm (x::(dL,x)):=(gj,aPJ hx,hl.erase_eq_filter)
def aho(hl:left.Nodup){x:Nat}(hx:x∈@au)(f:@bv):(left.filter f).length=(L,f x,1,0)+((left.filter λy=>y !=x).filter f).length:=by have:=((Mn hl hx).filter f).length_eq;rw[aN,kf];split<;>simp<;>omega
def ahp(f g:@bv):(d4,(tc,g x)+(tc,! g x)+(l.filter λx=>! f x).length=@R)|[]=>rfl|x::l=>by have ih:=ahp f g l;cases hf:f x<;>cases hg:g x<;>simp[kf,hf,hg]<;>omega
def ahq{i:Nat}{m:@o}{p:Profile}(G:@bn)(hm:m.Nodup)(hl:left.Nodup)(hn:@zv)(hi:i<n)(hf:gm n i @au p=@h):@D2:=by
 have cJ:∀x,(left.filter λy=>y !=x).Nodup:=λx=>hl.sublist xN;rw[Mm G hm hl]at hf;have U:=Rv n @p6 i hn;have he:=Ru hi;have N:=Mj hi;rw[E,@sB+@sC+@xP,@p6,ahp (λx=>@eC) (λx=>@eb) @au];have jY:∀x∈left,@qZ=@h->(L,lF m p x,1,0)+x5 n @A>=@sB->(L,lG m p x,1,0)+wL n @A>=@sC->@D2:=by intro x hx hok Z h2;rw[av,x,hx,hok];rw[Mm G hm (cJ x)];have a:=aho hl hx @ql;have b:=aho hl hx @qm;constructor<;>omega
 by_cases f:i%2=0
 .rw[ai f]at he N;by_cases v:0<@sB
  .let{x,hx}:=ae8 v;rw[d3];have d:(F,lG m p x):=by unfold lF at eh;unfold lG;rw[dJ]at eh;rw[eh.2];simp
   refine jY x g ?_ @DZ @xo;unfold rH;unfold lF at eh;rw[dJ]at eh;rw[eh.2];simp[f]
  .have hU:0<@xP:=@e;let{x,hx}:=ae8 hU;rw[d3];rw[m9];rw[jz];rw[na];unfold rH;rw[eh];rfl
 .rw[af f]at he N;by_cases t:0<@sC
  .let{x,hx}:=ae8 t;rw[d3];have d:(F,lF m p x):=by unfold lG at eh;unfold lF;rw[dJ]at eh;rw[iS];rw[aa];simp
   refine jY x g ?_ @xo @DZ;unfold rH;unfold lG at eh;rw[dJ]at eh;rw[iS];rw[aa];simp[f]
  .have hU:0<@xP:=@e;let{x,hx}:=ae8 hU;rw[d3];rw[m9];rw[jz];rw[na];unfold rH;rw[eh];rfl
def au0{f:@bv}{x:Nat}(hs:@sD)(h:left.find? f=some x):x∈@au/\f x=@h/\∀y∈left,f y=@h->x<=y:=by
 rw[ab,zq h,Gd h];induction left with
 |nil=>simp at h
 |cons a left ih=>
  intro y hy b;rw[asH]at hs;rw[o7]at h;cases Jp:f a with
  |true=>
   rw[Jp]at h;cases h;rcases de.1 hy with z|z;.omega
   .exact jb (hs.1 y z)
  |false=>
   rw[Jp]at h;rcases de.1 hy with z|z;.subst z;rw[Jp]at b;cases b
   .exact ih hs.2 h y z b
def Mo{n:Nat}{m:@o}(hm:m.Nodup):∀(f i:Nat)(left:@o)(l:@g2),@p6=f->i+f=n->@sD->@EX->@gc->(jz n m f i @au l).1.Perm @au/\(∀p,p∈@Fh↔p∈l/\rJ m p i @G4)/\@Fh≠[]/\∀(o:@o)(p:Profile),o.Perm @au->p∈l->@t1->iK @G4 o
 |0,i,left,l,hf,cM,_,hl,aI=>(mo,@au,hf,{@ay,λp=>(jx,⟨h,eY⟩,h.1),aI,λo p N _ _=>eY})
 |f+1,i,left,l,hf,cM,hs,hl,aI=>by
  rw[jA];have c:∀x p,p∈@qY↔p∈l/\@qZ=@h/\@mo=@h:=by intro x p;rw[gR,dJ];exact Dx
  have v:∀x,(!@CP)=@h↔∃p∈l,@qZ=@h/\@mo=@h:=by
   intro x;rw[xM,<-KJ,DJ];constructor;.intro h;rw[d5,h];exact{p,(c x p).1 hp}
   .rintro⟨p,Z,h2⟩h;have:=(c x p).2 ⟨Z,h2⟩;rw[h]at this;simp at this
  let{L,u}:=KL _ aI;let{G0,F0}:=hl L u;let{M,r,d,q}:=ahq G0 hm cJ @e @e F0;have g:∃x,(lK,@CP)=some x:=by cases e:left.find? (λx=>!(l.filter (λp=>(!m.contains x||cf p x==(i%2==0))&&gm n (i+1) (left.filter λy=>y !=x) p)).isEmpty)with|some x=>rw[a_,x]|none=>rw[al,(v M).2 ⟨L,u,d,q⟩,we.1 e M r]
  let{x,hx}:=g;let{j,O,s}:=au0 hs hx;have w:(rn,x::@Fu,(dL,x),@qY):=(fs,(pj,@CP),hx);have bG:(left.filter λy=>y !=x).length=f:=(sf,(Mn cJ j).length_eq);have k:@qY≠[]:=by intro h;rw[h]at O;simp at O
  let{i1,i2,I,t}:=Mo hm f @A (dL,x) @qY bG @e (hs.sublist xN) (λp hp=>⟨(hl p ((c x p).1 hp).1).1,((c x p).1 hp).2.2⟩) k;rw[w];have Jr:(x::@Fu).Perm @au:=(i1.cons x).trans (Mn cJ j).symm;have jB:∀(o:@o)(p:Profile)(z:Nat),(z::o).Perm @au->p∈l->rJ m p i (z::o)->p∈l.filter (λp=>((cS,z)||cf p z==@gJ)&&gm n @A (dL,z) p)/\o.Perm (dL,z)/\z∈@au:=by
   intro o p z N hp hc;have hz:z∈@au:=N.mem_iff.1 @v;have iu:o.Perm (dL,z):=(N.trans (Mn cJ hz)).cons_inv;rw[ad,(c z p).2 {hp,@h5,?_},iu,hz];rw[Mm (hl p hp).1 hm (cJ.sublist xN)];have W:@bY=f:=by have:=N.length_eq;simp at this;omega
   have:=Rw (n:=n) o @A @e hc.2;rw[(iu.filter @ql).length_eq,(iu.filter @qm).length_eq]at this;exact this
  rw[ap,Jr,λp=>?_,I,λo p N hp hc=>?_]
  .rw[i2 p];constructor;.rintro⟨a,b⟩;exact⟨((c x p).1 a).1,((c x p).1 a).2.1,b⟩
   .rintro⟨a,b⟩;exact⟨(jB _ p x Jr a b).1,b.2⟩
  .cases o with|nil=>have:=N.length_eq;simp at this;omega|cons z o=>let{n1,n2,n3}:=jB o p z N hp hc;have fG:x<=z:=s z n3 ((v z).2 {p,(c z p).1 n1});rcases dH x z with h|h;rw[Q,h];.rw[a3,x,z];subst this;exact .inr (al,t o p n2 n1 hc.2)
def x6{s s' e F:@bv}:∀(x:zy),(∀c∈dk x,s c=s' c/\e c=F c)->fL s e x=fL s' F x|.up c,h=>@Iv|.even c,h=>(h c (by simp[dk])).2|.like c d,h=>by show(s c==s d)=(s' c==s' d);rw[(@Iv),(h d (by simp[dk])).1]|.no a,h=>(gk,! fL s e a,! fL s' F a,x6 a h)|.both a b,h=>by show(fL s e a&&fL s e b)=(fL s' F a&&fL s' F b);rw[(kH,a),(kH,b)]|.either a b,h=>by show(fL s e a||fL s e b)=(fL s' F a||fL s' F b);rw[(kH,a),(kH,b)]
def Rx{g:Nat->@rD}{h:Nat->@jM}:∀(m:@o),(∀a∈m,h a∈g a)->m.map h∈xO (m.map g)|[],_=>by simp[xO]|a::m,hh=>by show h a::m.map h∈(nw,a);exact jT.2 {h a,hh a @v,(a0,m.map h,Rx m (λb hb=>hh b (by simp[hb])))}
def Hk{g:Nat->@rD}(hg:∀a,∀u∈g a,u.1=a):∀(m:@o)(y:Profile),y∈xO (m.map g)->y.map @aA=m/\@FU
 |[],y,h=>by
  have:y=[]:=by simpa[xO]using h
  subst this;exact(al,λu hu=>by simp at hu)
 |a::m,y,h=>by
  have h:y∈(nw,a):=h;let{u,hu,h}:=jT.1 h;let{v,hv,rfl}:=bf.1 h;let{i1,i2}:=Hk hg m v hv;rw[P,(aA,cb,i1,hg a u hu),@cY];rcases de.1 hz with e|e;.subst e;rw[hg a z hu];exact hu
  .exact i2 z e
def jZ(q:Row)(m:@o):@p_:=m.map @xJ
def Mp(q:Row)(m:@o):gu m @ek:={by unfold jZ;rw[bC];exact qX m}
def ahr{m:@o}(hc:c∈m):(c,placeOf q c%2==0,dt q c)∈@ek:=(a0,c,hc)
def ahs{m:@o}(hm:m.Nodup)(hc:c∈m):cf @ek c=(placeOf q c%2==0):=Hj (Mp q m) hm (ahr hc)
def Mq{m:@o}(hm:m.Nodup)(hc:c∈m):cx @ek c=dt q c:=Ml (Mp q m) hm (ahr hc)
def Ry{m:@o}(hm:m.Nodup){x:zy}(hx:∀c∈dk x,c∈m):fL (cx @ek) (cf @ek) x=lB q x:=x6 x λc hc=>{Mq hm (hx c hc),ahs hm (hx c hc)}
def aht{m:@o}{p:Profile}:(l0,@Ia->@t1)
 |[],_,_=>eY
 |x::o,i,h=>by
  rw[aP,aht o @A λj y hy hm=>?_];.unfold rH;rw[jL,h 0 x @d (gA.1 hx)]
  .have:=h @aj y hy hm;rw[aN,(v,i+@aj=@A+j)]
def Mr{m:@o}{p:Profile}:(l0,@t1->@Ia)|[],_,_,j,x,h,_=>@a5|y::o,i,hc,j,x,h,hm=>by cases j with|zero=>cases h;have:=@h5;unfold rH at this;rw[gA.2 hm]at this;simpa using this|succ j=>have:=Mr o @A hc.2 j x h hm;rw[aN,(v,i+@aj=@A+j)]
def Rz(J:@ap){j x:Nat}(h:(ah,@cZ,x)):j<n/\(ca,j)=x/\placeOf q x=j:=by
 unfold bD at h;rw[be]at h;rcases dH j q.length with hj|hj;.rw[oG hj]at h;rw[E,(ca,j),x,bZ h];have g:j<n:=(G,J.len,hj);exact{g,e,zP J g e}
 rw[bM,ny hj]
def BV(J:@ap){m:@o}(hm:m.Nodup):rJ m @ek 0 @cZ:=aht _ _ λj x hx C=>(aA,ahs hm C,(Rz J hx).2.2,oz)
def BW(J:@ap):(bD q).Perm @aD:=J.nos
def RA(J:@ap){m:@o}(hm:m.Nodup):gm n 0 @aD @ek=@h:=by rw[Mm (Mp q m) hm (zN n)];have:=Rw (n:=n) @cZ 0 @s6 @oI;rw[(@Lg),(@Lg)]at this;exact this
def Hl(n:Nat):(bt n).Pairwise @kH:=by unfold bt;rw[oZ];intro i j hi hj E;simp;omega
def fA(q:Row):@o:=q.map @gB
def RB(q q':Row):@u:=iK @cZ (bD q')/\(@cZ=bD q'->iK (fA q) (fA q'))
def Ey:(d4,iK l l)|[]=>eY|a::l=>.inr (al,Ey l)
def au1{q':Row}(Z:@cZ=bD q')(h2:q.map kg=@sE):q=q':=by rw[<-Rp q,<-Rp q',Z,h2]
def gC(r:Row)(o:@o)(c:Nat):Row:=o.zipIdx.map (k7,(jq,x.1,x.2))
def Ms(r:Row)(o:@o)(c:Nat):(gC r o c).length=@bY:=by simp[gC]
def RC(r:Row)(o:@o)(c:Nat):bD @dq=o:=by unfold bD gC;rw[bC];have:(fK∘λx:Nat×Nat=>({x.1,(jq,x.1,x.2)}:cQ))=asz:=rfl;rw[aa];exact List.zipIdx_map_fst 0 o
def BX{r:Row}{i:Nat}(hi:i<@bY):cd @dq i={o[i],(jq,o[i],i)}:=by rw[jX (aW,Ms)];simp[gC]
def Ez{r:Row}(N:@eJ)(c:Nat):aG n @dq:={(aA,Ms,N.length_eq,gq),(m8,@dq,RC,N)}
def ahu(a:Nat):az (a%2==1)=a%2:=by rcases Gi a with h|h<;>rw[h]<;>rfl
def au2{r:Row}(N:@eJ)(c:Nat)(Z:@e1)(h2:@e0):(bI,no,bB @dq no)=c%2:=by rw[gK];let{p1,p2}:=place_lt J Z h2;generalize@tx=p at p1 p2;have hp:p<@bY:=@Fp;have hs:=mW J p1;rw[p2,BX hp]at hs;rw[BX hp]at p2;have p3:o[p]=no:=p2;rw[hs];dsimp only;rw[p3,ahu];omega
def ahv{r:Row}(H:@G)(hn:@aU)(N:@eJ)(hc:c<2):(cT,@dq):=by
 unfold dR;rw[eN];have hm:qf c r @dq=@h:=by unfold qf;rw[rD H,iR];intro no ck;let{Z,h2}:=jm.1 ck;rw[au2 N c Z h2,gU hc];exact P8 c
 rw[mN];rw[az,c=0\/c=1];rcases this with z|z;.left;rw[<-z];exact hm
 .right;rw[<-z];exact hm
def RD{r:Row}(H:@G)(J:@ap)(hn:@aU)(h:@dM):∃c,c<2/\qf c r q=@h/\q=gC r @cZ c:=by
 unfold dR at h;rw[H.len,ai hn,mN]at h;have hc:∃c,c<2/\qf c r q=@h:=by
  rcases h with h|h;.exact{0,@Z,h}
  .exact{1,@Z,h}
 let{c,hc,hm}:=hc;rw[av,c,hc,hm];have W:@nM:=@s6;apply wI (aA,Ms,W,J.len);intro i hi;rw[J.len]at hi;rw[BX @e];rw[ah,(@cZ)[i]'@e,@jR,by rw[jX (aW,J.len)];simp[bD]];rw[e1];rw[cI,hi];have:=Es H hm b1 b2;rw[mW J hi]at this;have hb:=LY @rX;have o:(jq,@jR,i)=@rX:=by cases hu:(cd q i).up with|true=>rw[hu]at this;simp only[az,iQ]at this;rw[eW];omega|false=>rw[hu]at this;simp only[az,mO,kG]at this;rw[q_];omega
 rw[o]
def ahw{r:Row}(H:@G)(J:@ap)(hn:@aU){m:@o}(d:@eH)(h:@dM):@ek∈lC r m:=by
 let{c,hc,hm,_}:=RD H J hn h;unfold lC;rw[eN];refine jT.2 {c,@aS,?_};refine Rx (h:=@xJ) m λno ck=>?_;rw[g3];have hs:=Es H hm b1 b2;rw[eL];have e:=mW J p1;have e2:=wG J p1;rw[p2]at e e2;rw[e]at hs;have o:@mt=((@fG+c+(L,@qy,0,1))%2==1):=by
  rw[e2];have hb:(@qy=@h)↔(cb,q)%2=0:=eW;cases hu:(cd q (placeOf q no)).up with
  |true=>
   rw[hu]at hs;simp only[az,iQ]at hs;symm;rw[eW];split;.rw[eQ]
   .rw[eQ]
  |false=>
   rw[hu]at hs;simp only[az,mO,kG]at hs;symm;rw[q_];split;.rw[eQ]
   .rw[eQ]
 show(no,@qy,@mt)∈_;rw[o];refine(a0,@qy,by cases(placeOf q no%2==0)<;>simp)
def ahx{r:Row}(H:@G)(hn:@aU){m:@o}(hm:m.Nodup)(d:@eH){p:Profile}(hp:@iX)(N:@eJ)(hc:@r7):@bn/\∃c,c<2/\(hP,@dq,@dq):=by
 unfold lC at hp;rw[H.len,ai hn]at hp;let{c,W,hp}:=jT.1 hp;let{g1,g2}:=Hk @Bj m p hp;have G:@bn:=⟨g1⟩;rw[gK];rw[ap,G,c,by simp at W;omega,λno ck=>?_];rw[g3];rw[eL];have dF:@tx<@bY:=@Fp;have e2:=wG J p1;rw[p2,BX dF]at e2;rw[BX dF]at p2;have p3:o[@tx]=no:=p2;have T:=Mr o 0 hc @tx no (r,bX dF,p3) ck;rw[oz]at T;rw[aP,T];let{u,hu,rfl}:=ahm G ck;have li:=g2 u hu;let{e,_,f}:=bf.1 li;rw[Ml G hm hu,e2];rw[Hj G hm hu]at T;have g:u.2.1=e:=by rw[<-f]
 have b:u.2.2=(jq,u.1,(L,e,0,1)):=by conv=>lhs;rw[<-f]
 rw[b,<-g,T];dsimp only;rw[p3];generalize placeOf @dq u.1=pl;rcases Gi pl with z|z;.rw[z];simp;congr 1;omega
 .rw[z];simp;congr 1;omega
def Mt:∀(k:Nat)(l:@o),@R<=k->l.eraseDups.Nodup|0,l,h=>by have:l=[]:=o5.1 @e;subst this;simp|k+1,[],_=>@v|k+1,a::l,h=>by rw[List.eraseDups_cons,mJ];have hl:(l.filter λb=>! b==a).length<=k:=(cH,@c7);rw[P,@np,Mt k _ hl];rw[Gp,gR]at z;simp at z
def au3:∀(l:@o)(h:0<@R),l[0]=l.headD 0|[],h=>@tI|a::l,_=>rfl
def ahy{r:Row}(H:@G)(hn:@aU)(o:@o)(i:Nat):rb r o i=gC r o (bI,o.headD 0,i):=by unfold rb gC;dsimp only;rw[eN];rw[ak];intro x _;rw[DD]
def au4{r:Row}{x:zy}(H:@G)(h0:0<n)(hn:@aU)(hx:@rY):@Dq:=by
 rw[jH];have fY:(eA,@ra):=λc=>Gp;unfold sM;dsimp only;rw[H.len];generalize@ra=m at hm fY;rw[i3];rw[rD H];rw[lG];generalize@xA=l at g;rw[md,ahw H J hn d hc];have E:∀p,p∈l->∀o:@o,@eJ->@r7->∃c,c<2/\(e3,@dq):=by intro p hp o N hc;let{a,b,_}:=(g p).1 hp;let{_,c,cN,A}:=ahx H hn hm d a N hc;rw[ab,c,cN];rw[<-b];exact(x6 x λk hk=>A k ((fY k).2 hk)).symm
 by_cases hl:@pE=@h;.rw[ai hl];left;rw[P,@d,λq J hc=>?_];cases hh:lB q x with|true=>rfl|false=>have:=t q J hc hh;have hz:l=[]:=@jA;rw[dA];simp at this
 .rw[af hl,ai hn];have aI:@gc:=λz=>hl (O,z);have w:∀p∈l,(iQ,0,@aD):=by intro p hp;let{a,_,c}:=(g p).1 hp;rw[aP,c];unfold lC at a;rw[H.len,ai hn]at a;let{c',_,a}:=jT.1 a;exact⟨(Hk @Bj m p a).1⟩
  rw[io,w,aI];rw[iH];rw[d5,o3];let{dF,G}:=(o2 p).1 hp;let{c,hc,yL}:=E p dF y.1 o1 G;have B:=ahy H hn y.1;generalize C:bB r (y.1.headD 0)=j at B;have cP:0<y.1.length:=(ai,o1.length_eq,gq,h0);have top:∀i,i<2->(jK,@r0)=i:=by intro i hi;rw[B i];have bG:0<(gC r y.1 ((j+i)%2)).length:=(d,Ms,cP);rw[E,(jK,@Ku),az (cd @Ku 0).up,(by unfold fA;cases U:gC r y.1 ((j+i)%2)with|nil=>rw[U]at bG;simp at bG|cons a b=>rfl)];rw[e,BX cP];have e3:y.1[0]=y.1.headD 0:=au3 y.1 cP;dsimp only;rw[ahu,e3,C];omega
  have s:∀q',aG n q'->(cT,q')->bD q'=y.1->∃i,i<2/\q'=@r0:=by intro q' J h N;let{c',oS,_,e}:=RD H J hn h;rw[N]at e;rw[ab,(c'+j)%2,@jP];rw[B];rw[e];congr 1;omega
  have f:∀i,aG n @r0/\(cT,@r0)/\bD @r0=y.1:=by intro i;rw[B i];exact{Ez o1 _,ahv H hn o1 @jP,RC _ _ _}
  have F:∀(a b:Row),@eU=n->@bX=n->(jK,a)=0->(jK,b)=1->iK (fA a) (fA b):=by intro a b ha hb Z h2;unfold fA at*;cases a with|nil=>simp at ha;omega|cons u a=>cases b with|nil=>simp at hb;omega|cons v b=>exact .inl (by simp at Z h2;show az u.up<az v.up;omega)
  right;show∃q,([rb r y.1 0,rb r y.1 1].find? λq=>! lB q x)=some q/\_;cases CU:lB (rb r y.1 0) x with
  |false=>
   refine{rb r y.1 0,by simp[o7,CU],(f 0).1,(f 0).2.1,CU,λq' J h hh=>?_};rw[aP,@c8];rw[s,(f 0).2.2,D _ _ (BW J) (t q' J h hh) @oI]
   .rw[(f 0).2.2]at e;rw[kZ];rw[az,i=0\/i=1];rcases this with z|z;.subst z;rw[eq];exact Ey _
    .subst z;exact F _ _ (f 0).1.len J.len (top 0 @Z) (d,eq,top 1 @Z)
  |true=>
   have qO:(e3,rb r y.1 1):=by
    rw[cg,(c+j)%2=0\/(c+j)%2=1];have W:gC r y.1 c=rb r y.1 ((c+j)%2):=by rw[B];congr 1;omega
    rw[W]at yL;rcases hi with z|z;.rw[z,CU]at yL;cases yL
    .rw[z]at yL;exact yL
   refine{rb r y.1 1,by simp[o7,CU,qO],(f 1).1,(f 1).2.1,qO,λq' J h hh=>?_};rw[aP,@c8];rw[s,(f 1).2.2,D _ _ (BW J) (t q' J h hh) @oI]
   .rw[(f 1).2.2]at e;rw[kZ];rw[az,i=0\/i=1];rcases this with z|z;.subst z;rw[eq,CU]at hh;cases hh
    .subst z;rw[eq];exact Ey _
def Sd(m:@o)(p:Profile):(Y,@o,@cs)|[],[]=>True|x::o,b::s=>@Bp=@h/\@oM|_,_=>False
def lH(s:@cs):@o:=s.map az
def Hm(m:@o)(want:Nat)(o:@o)(t:Nat)(p:Profile):@u:=@vW=@h\/(kE,@mm)
def ahz{m:@o}{p:Profile}:(h2,@oM->(F,@vW)->@sF=@mm)
 |[],[],_,_=>rfl
 |[],_::_,h,_=>h.elim
 |_::_,[],h,_=>h.elim
 |x::o,b::s,h,ha=>by
  rw[wu,xP]at ha;have ih:=ahz o s h.2 ha.2;have hx:@eC=@h:=(ga,ha.1);have hb:@hM=b:=by have:=h.1;rw[hx]at this;simpa using this
  show@b1+@sF=_;rw[kf,hb,ih];cases b<;>simp[az];omega
def ahA{m:@o}{want:Nat}:∀(o:@o)(t:Nat)(l:@g2),@gc->(∀p∈l,Hm m @dm o t p)->(∃p∈l,Sd m p o @B_/\(kE,(lH @B_).sum))/\∀p∈l,∀s',Sd m p o s'->(kE,(lH s').sum)->iK (lH @B_) (lH s')
 |[],t,l,aI,hc=>by
  rw[d5,aI];rw[P,{p,hp,eY,?_},λ_ _ _ _ _=>eY];rcases hc p hp with h|h;.simp at h
  .exact h
 |x::o,t,l,aI,hc=>by
  have hw:∀b p,p∈@vm↔p∈l/\@Bp=@h/\@KM:=by intro b p;rw[gR,dJ,mN (o.any _)];unfold Hm;rw[eW]
  have a:∀p∈l,∃b,@Bp=@h/\@KM:=by
   intro p hp;cases hx:m.contains x with
   |true=>
    rw[ab,@hM,@v];cases N:o.any λy=>!m.contains y with
    |true=>exact .inl N
    |false=>
     right;rcases hc p hp with h|h;.rw[wu,N,hx]at h;simp at h
     .rw[kf]at h;cases hu:cx p x with|true=>rw[hu]at h;simp only[iQ,cX]at h;show(t+1+_+@dm)%2=0;omega|false=>rw[hu]at h;simp only[mO,kG]at h;show(t+0+_+@dm)%2=0;omega
   |false=>
    cases N:o.any λy=>!m.contains y with
    |true=>exact(aD,@K,.inl N)
    |false=>
     rcases Gi (t+(o.filter λy=>cx p y).length+want)with z|z;.exact(aD,@K,.inr (by show(t+0+_+@dm)%2=0;omega))
     .exact(aD,@h,.inr (by show(t+1+_+@dm)%2=0;omega))
  have c:∀p∈l,∃b,p∈@vm:=by intro p hp;let{b,Z,h2}:=a p hp;exact{b,(hw b p).2 ⟨hp,Z,h2⟩}
  have jB:∀p∈l,∀b s',Sd m p (x::o) (b::s')->(kE,(lH (b::s')).sum)->p∈@vm:=by intro p hp b s' hs ht;refine(hw b p).2 {hp,hs.1,?_};cases N:o.any λy=>!m.contains y with|true=>exact .inl N|false=>right;have:=ahz o s' hs.2 N;have e:(lH (b::s')).sum=@b1+(lH s').sum:=rfl;rw[e,this]at ht;omega
  have f:KO m @dm (x::o) t l=@pv::KO m @dm o (t+az @pv) (oh,@pv,az @pv):=rfl;rw[f];generalize hb:@pv=b;have k:@vm≠[]:=by cases b with|false=>intro z;rw[z]at hb;simp at hb|true=>intro z;rw[d5,aI];let{b',G}:=c p hp;cases b' with|true=>rw[z]at G;simp at G|false=>have hz:=DJ.1 hb;rw[hz]at G;simp at G
  let{{p,hp,i1,i2},I}:=ahA (m:=m) (want:=@dm) o (t+@b1) _ k (λp hp=>((hw b p).1 hp).2.2);rw[P,{p,((hw b p).1 hp).1,⟨((hw b p).1 hp).2.1,i1⟩,?_},λp hp s' hs ht=>?_];.have e:∀s,(lH (b::s)).sum=@b1+@sF:=λs=>@d;rw[e];have d:=i2;omega
  .cases s' with
   |nil=>exact hs.elim
   |cons b' s'=>
    have cM:=jB p hp b' s' hs ht;show@b1<az b'\/(@b1=az b'/\iK _ (lH s'));cases b with
    |false=>cases b' with|true=>exact .inl @Z|false=>rw[mu,@K,az @K]
    |true=>cases b' with|false=>have hz:=DJ.1 hb;rw[hz]at cM;simp at cM|true=>rw[mu,@h,az @h]
def gO(no:Nat):@rD:=[(no,@h,@h),(no,@h,@K),(no,@K,@h),(no,@K,@K)]
def au5(a:Nat):∀u∈gO a,u.1=a:=by intro u hu;simp only[gO,de,rg,or_false]at hu;rcases hu with h|h|h|h<;>rw[h]
def ahB(a:Nat)(e u:Bool):(a,e,u)∈gO a:=by cases e<;>cases u<;>simp[gO]
def EA:∀q:Row,(q.filter kg).length=@ns|[]=>rfl|c::q=>by rw[dl,EA q];cases c.up<;>simp[az];omega
def Hn{r:Row}(H:@G)(hn:¬@aU){m:@o}{p:Profile}:@iX↔p∈xO (m.map gO)/\(@bW<n\/(@xQ+@cR)%2=0):=by unfold lC;rw[H.len,af hn,gR,mN,bU,eW,EA];exact Dx
def ahC{m:@o}(hm:m.Nodup)(d:@eH)(hl:n<=@bW):m.Perm @aD:=LQ hm (λc hc=>jm.2 (d c hc)) (d,gq,hl)
def ahD{r:Row}(H:@G)(J:@ap)(hn:¬@aU){m:@o}(hm:m.Nodup)(d:@eH)(h:@dM):@ek∈lC r m:=by rw[Hn H hn];rw[ae,Rx (h:=@xJ) m (λno _=>ahB _ _ _)];rcases dH m.length n with z|z;rw[Q,z];.right;have hp:=ahC hm d z;rw[E,((jZ q m).filter λx=>@eO).length,@ns,by unfold jZ;rw[Gq,au,G3];have e2:=(hp.map λno=>az @mt).sum_nat;have e3:=(Q1 J az).sum_nat;rw[<-e3,<-e2];rfl];rw[e];rw[qp H J @e,bU]at h;omega
def RE{m:@o}{p:Profile}(h:p∈xO (m.map gO)):@bn:=⟨(Hk au5 m p h).1⟩
def ahE{m:@o}(hm:m.Nodup)(d:@eH)(hl:n<=@bW){p:Profile}(G:@bn)(N:@eJ):@mm=@xQ:=by
 have hp:=ahC hm d hl;rw[((N.trans hp.symm).filter _).length_eq];conv=>lhs;rw[<-G.names]
 rw[Gq,au];congr 1;apply P9;intro x hx;exact Ml G hm hx
def au6{r:Row}(H:@G)(hn:¬@aU){m:@o}(hm:m.Nodup)(d:@eH){p:Profile}(hp:@iX)(N:@eJ):Hm m @sG o 0 p:=by rw[Hn H hn]at hp;rcases hp.2 with z|z;rw[mA];.rcases dH m.length n with y|y;rw[mA];.right;rw[ahE hm d y (RE hp.1) N,EA,oz];exact z
def ahF{m:@o}{p:Profile}:(h2,@oM->@bY=@dc)|[],[],_=>rfl|[],_::_,h=>h.elim|_::_,[],h=>h.elim|_::o,_::s,h=>by simp[ahF o s h.2]
def ahG{m:@o}{p:Profile}:(h2,@oM->@Hp)|[],[],_,j,x,b,h,_,_=>@a5|[],_::_,h,_,_,_,_,_,_=>h.elim|_::_,[],h,_,_,_,_,_,_=>h.elim|y::o,c::s,h,j,x,b,Z,h2,hm=>by cases j with|zero=>cases Z;cases h2;have:=h.1;rw[gA.2 hm]at this;simpa using this|succ j=>exact ahG o s h.2 j x b Z h2 hm
def ahH{m:@o}{p:Profile}:(h2,@uz->@Hp->@oM)|[],[],_,_=>eY|[],_::_,h,_=>@a5|_::_,[],h,_=>@a5|x::o,b::s,hl,h=>by rw[aP,ahH o s @jA λj y c Z h2 hm=>h @aj y c Z h2 hm];rw[jL,h 0 x b @d @d (gA.1 hx)]
def tp(o:@o)(s:@cs):Row:=(i2,s,x.2)
def ahI:(h2,@bY=@dc->bD (tp o s)=o/\(tp o s).map kg=s)|[],[],_=>@ds|[],_::_,h=>@a5|_::_,[],h=>@a5|x::o,b::s,h=>by let{a,c}:=ahI o s @c7;exact{(fs,x::bD (tp o s),a),(fs,b::(tp o s).map kg,c)}
def ahJ{Z:Row}{s:@cs}{k:Nat}(J:aG n Z)(B:bD Z=o)(es:Z.map kg=s)(b1:1<=k)(b2:@b2):(K,o,@uU,k)/\(K,s,@uU,dt Z k):=by
 rw[eL];have u:=wG J p1;rw[p2]at u;subst B es;have hl:@uU<Z.length:=(jW,p1);constructor;.unfold bD;rw[be,oG hl];show some (cd Z @uU).no=_;rw[p2]
 rw[aL,be,oG hl,u]
def Mu(q:Row):lH (q.map kg)=fA q:=by unfold lH fA;rw[bC];rfl
def au7{r:Row}{x:zy}(H:@G)(hn:¬@aU)(hx:@rY):@Dq:=by
 rw[jH];have fY:(eA,@ra):=λc=>Gp;unfold sM;dsimp only;rw[H.len];generalize@ra=m at hm fY;rw[i3];rw[rD H];rw[lG];generalize@xA=l at g;rw[md,ahD H J hn hm d hc];by_cases hl:@pE=@h;.rw[ai hl];left;rw[P,@d,λq J hc=>?_];cases hh:lB q x with|true=>rfl|false=>have:=t q J hc hh;have hz:l=[]:=@jA;rw[dA];simp at this
 .rw[af hl,af hn];have aI:@gc:=λz=>hl (O,z);have w:∀p∈l,(iQ,0,@aD):=by intro p hp;let{a,_,c}:=(g p).1 hp;exact{RE ((Hn H hn).1 a).1,c}
  rw[io,w,aI];rw[iH];let{{p,hp,Y,s2},s3}:=ahA (m:=m) (want:=@sG) y.1 0 y.2 o3 (λp hp=>au6 H hn hm d ((g p).1 ((o2 p).1 hp).1).1 o1);generalize KO m @sG y.1 0 y.2=s at Y s2 s3;let{dF,G}:=(o2 p).1 hp;let{pa,C,_}:=(g p).1 dF;have eI:=ahF _ _ Y;let{B,es}:=ahI y.1 s eI;have J:aG n @lH:={by have:=dg lz B;rw[o1.length_eq,gq]at this;simpa[bD]using this,(m8,@lH,B,o1)};have jv:(cT,@lH):=by rw[qp H J @e,bU];rw[E,((tp y.1 s).map @gB).sum,@sF,by have:=Mu @lH;rw[es]at this;unfold fA at this;rw[bj]];rw[e,<-EA];omega
  have yL:(e3,@lH):=by
   rw[<-C];refine(x6 x λk hk=>?_).symm;have i:=(fY k).2 hk;let{b1,b2}:=d k i;let{N,hs}:=ahJ J B es b1 b2;rw[ae,?_];.exact ahG _ _ Y _ _ _ N hs i
   .have:=Mr y.1 0 G _ _ N i;rw[aN,oz]
  right;refine{@lH,@d,J,jv,yL,λq' h oS v=>{?_,@c8}};rw[s,B,D _ _ (BW h) (t q' h oS v) (BV h hm)]
  .rw[B]at e;have cM:jZ q' m∈y.2:=(o2 _).2 {t q' h oS v,(cl,BV h hm)};have u:Sd m (jZ q' m) y.1 @sE:=by rw[e];refine ahH _ _ (by simp[bD]) λj z b Z h2 hz=>?_;let{o,L,A}:=Rz h Z;rw[Mq hm hz];have a:=wG h o;rw[L]at a;rw[a];rw[be,oG (d,h.len,o)]at h2;exact bZ h2
   have f:(0+(lH @sE).sum+@sG)%2=0:=by rw[qp H h @e,bU]at oS;rw[Mu,EA];unfold fA;omega
   have:=s3 _ cM _ u f;rw[Mu]at this;rw[<-Mu @lH,es];exact this
def RF{r:Row}{x:zy}(H:@G)(h0:0<n)(hx:@rY):@Dq:=by
 rw[a6];.exact au4 H h0 hn hx
 .exact au7 H hn hx
def jY:@o->@o->@o|[],_=>[]|c::cs,l=>(ch,c)::jY cs @nv
def fB(i:Nat)(m:Nat):@o:=(iW,λj=>(i/dE j)%@aj)
def RG:∀(m:Nat)(l:@o)(i:Nat),@R=m->asJ m l (i%dE m)=jY (fB i m).reverse l|0,l,i,_=>rfl|m+1,l,i,h=>by have hc:@HL:=@EO;have hf:dE @aP=dE m*@aP:=(fs,@aP*dE m,zv);have hk:i%dE @aP/dE m=@qW:=(r,hf,Nat.mod_mul_right_div_self);have hr:i%dE @aP%dE m=i%dE m:=Nat.mod_mod_of_dvd _ {@aP,hf};have bn:(cD,@qW):=(d,h,@kC);rw[hc,aPU];show asJ @aP l (i%dE @aP)=(ch,@qW)::jY (fB i m).reverse (l.eraseIdx @qW);unfold asJ;rw[(v,@jF=m),hk];dsimp only;rw[bX bn];dsimp only;rw[hr,RG m _ i (by rw[ae9,ai bn];omega),dy,bX bn];rfl
def ahK:∀(l:@o)(c:Nat)(h:(cD,c)),l.Perm (l[c]::@nv)|[],c,h=>@tI|a::l,0,_=>.refl _|a::l,c+1,h=>by have hc:(cD,c):=@c7;have ih:=ahK l c hc;show(a::l).Perm (l[c]::a::@nv);exact(ih.cons a).trans (.swap _ _ _)
def ahL:∀(cs l:@o),@cT=@R->(∀j c,(ah,cs,c)->(cD,c+j))->(jY cs l).Perm l|[],l,h,_=>(mo,l,by simpa using h.symm,@ay)|c::cs,l,h,hc=>by have h0:=hc 0 c @d;have bn:(cD,c):=@e;have hl:(l.eraseIdx c).length=@jF:=(r,ae9,ai bn);have ih:=ahL cs @nv (by rw[hl];simp at h;omega) (λj d hd=>(b_,hc @aj d hd));show((ch,c)::jY cs @nv).Perm l;refine(ih.cons _).trans ?_;rw[dy,bX bn];exact(ahK l c bn).symm
def RH(i n:Nat):(jY (gM,i) @aD).Perm @aD:=by
 refine ahL _ _ (by simp[fB,gq]) ?_;intro j c h;rw[gq];have hj:j<n:=by have:=(fk.1 h).1;simpa[fB]using this
 rw[nr];simp only[fB,au,lu,be]at h;rw[xK @e]at h;simp at h;rw[iU];omega
def fM(o s:@o):Row:=(i2,s,x.2==1)
def x8(r:Row)(o:@o)(p s:Nat):@o:=let l:=@D0;l.map λz=>(z+((ch,p)+s)%2)%2
def kL(r:Row)(l:@o)(p:Nat):@o:=l.set p ((@cR+(l.take p).sum+(l.drop (p+1)).sum)%2)
def nO(m i:Nat):@o:=((br m).map @Ao).reverse
def ahM{β:@az}(f:Nat->Nat->β):∀(o:@o)(k:Nat),o.zip ((o.zipIdx k).map λx=>f x.1 x.2)=(o.zipIdx k).map λx=>(x.1,f x.1 x.2)|[],_=>rfl|a::o,k=>by rw[asF,cb,cb,P7,ahM f o @aV]
def ahN{r:Row}{p s:Nat}(hp:p<@bY):fM o (x8 r o p s)=gC r o @G1:=by unfold fM x8 gC;dsimp only;rw[E,@FV,(bI,o.getD p 0,p),by rw[dy,be,aPV,bX hp,dy,bX hp];simp];rw[e,bC];have e2:((λz=>(km,z))∘λx:Nat×Nat=>@mM)=λx:Nat×Nat=>(λa b=>(km,(bI,a,b))) x.1 x.2:=rfl;rw[e2,ahM (λa b=>(km,(bI,a,b))) o 0,bC];rw[ak];intro x _;simp only[DC];congr 1;rw[a3,(km,@mM),(bB r x.1+@G1+x.2)%2];rw[aa]
def au8{m i:Nat}:nO m i=(iW,λj=>(i/2^(m-1-j))%2):=by
 unfold nO;apply P0;intro j;by_cases hj:j<m;.rw[DE @ro,be,be,xK hj,xK @aS];simp
 .rw[ny @aS,ny @aS]
def au9(m i:Nat):sidesAt m i=(nO m i).map λz=>z==1:=(ab,au8,bC)
def ahO:(d4,(∀z∈l,z<2)->((l.map λz=>z==1).filter λb=>b).length=l.sum)
 |[],_=>rfl
 |z::l,h=>by
  have ih:=ahO l @Cj;have hz:=h z @v;rw[cb,kf,ij,<-ih];rw[az,z=0\/z=1];rcases this with e|e;.subst e;simp
  .subst e;simp;omega
def au_(r:Row)(l:@o):kL r (l++[0]) @R=l++[(@cR+l.sum)%2]:=by unfold kL;rw[List.take_left,wb @v];simp
def ava{r:Row}(H:@G)(h0:0<n)(hn:@aU){i:Nat}(hi:i<uI n):nth r i=fM (hH,i/2) (x8 r (hH,i/2) 0 (i%2)):=by have hp:=RH (i/2) n;have bG:(jY (gM,i/2) @aD).length=n:=@JJ;unfold nth;have hs:@br=2:=G4 hn;have hd:i/2%dE n=i/2:=gU (by unfold uI at hi;rw[hs]at hi;omega);have N:=RG n @aD (i/2) (gq n);rw[hd]at N;rw[H.len,hs,rD H,N,ahy H hn,ahN @e];congr 1;rw[KP];cases e:jY (fB (i/2) n).reverse (bt n)with|nil=>rw[e]at bG;simp at bG;omega|cons a l=>rfl
def avb{r:Row}(H:@G)(hn:¬@aU){i:Nat}(hi:i<uI n):nth r i=fM (hH,@h4) (kL r (@on++[0]) @aw):=by
 have hp:=RH @h4 n;rw[ni,@JJ];have D:0<@br:=(d,LU hn,asK @Z);unfold nth;have hd:@h4%dE n=@h4:=gU (by unfold uI at hi;exact ae5 hi);have N:=RG n @aD @h4 (gq n);rw[hd]at N;rw[H.len,rD H,N];unfold rb;rw[H.len,af hn];dsimp only;have hl:@Li=@aw:=by simp[nO]
 have dM:=au_ r @on;rw[hl]at dM;rw[dM,au9,ahO _ (by intro z hz;unfold nO at hz;rw[Bn]at hz;let{j,_,rfl}:=bf.1 hz;exact@jP),EA];unfold fM;have key:∀(o l:@o)(b:Bool)(c:Nat),b=(c==1)->(i2,@Gu,x.2)=(i2,l++[c],x.2==1):=by intro o l b c hb;have:@Gu=(l++[c]).map λz=>z==1:=(ab,bh,hb);rw[this,List.zip_map_right,bC];rfl
 exact key _ _ _ _ @d
def ahP:∀(l:@o)(a:Nat),a*@y7<=l.foldl (λn d=>(hY,n)) a|[],a=>@v|d::l,a=>by have ih:=ahP l (hY,a);rw[zo,cX,Dz];refine cU ?_ ih;rw[zv @y7 10,<-KA,zv a 10];exact DL _ @e
def avc(hd:t.all Bs=@h)(h0:t.head?≠some 48)(hl:100<@ah):10^100<=wt t:=by
 cases t with
 |nil=>simp at hl
 |cons d l=>
  have Z:d≠48:=λe=>h0 @jG;have h2:Bs d=@h:=by rw[P_,dJ]at hd;exact hd.1
  have h3:48<=d:=by unfold Bs at h2;have:=bT h2;omega
  unfold wt;rw[zo];refine cU ?_ (ahP l _);have h4:1<=(hY,0):=@e;have h5:10^100<=@y7:=ae_ @Z @yH;exact cU h5 (aPW _ h4)
def RI:∀n,@aQ->uI n<10^100:=by have:∀n,n<53->uI n<10^100:=@aG;exact λn h=>this n @e
def x9(t:xF):@an:=! t.isEmpty&&t.all Bs&&@B8
def avd(hn:@aQ)(t:xF):aPX (uI n) t=(da,x9 t=@h/\wt t<uI n,wt t):=by
 unfold aPX x9;cases t with
 |nil=>simp
 |cons d l=>
  have e1:(F,(d::l).isEmpty):=rfl;have e2:(d::l).head?=some d:=rfl;have e3:(d::l).getD 0 0=d:=rfl;by_cases hd:@Cn=@h
  .by_cases Z:d=48/\1<@uE
   .rw[ai (az,(a_,(r,e2,Z.1),Z.2)),af];rintro⟨h,_⟩;rw[hd,e1,e3,Z.1]at h;have:¬(48::l).length=1:=by have:=Z.2;intro z;rw[cX]at z this;omega
    simp at h this;exact this h
   .by_cases h2:100<@uE;.rw[ai (az,.inl h2),af];rintro⟨_,h⟩;have:=avc hd (by rw[e2];intro z;injection z with z;exact Z {z,@e}) h2;have:=RI n hn;omega
    .rw[af (by
      rintro(h|h|h|h);rw[aS];rw[bM,hd];.exact h2 h
      .exact Z {by rw[e2]at h;injection h.1,h.2})];have h3:(bv,!(d::l).isEmpty&&@Cn,(B,@uE,1)||decide ((d::l).getD 0 0≠48)):=by
      rw[hd,e1,e3];by_cases h4:@uE=1;.rw[bq h4];rfl
      .have:d≠48:=λz=>Z {z,by rw[cX]at h4⊢;omega};rw[bq this];simp
     by_cases h5:wt (d::l)<uI n;.rw[aG,h5,⟨h3,h5⟩]
     .rw[af h5,(cG,h5 z.2)]
  .have U:(F,@Cn):=ig.2 hd;rw[ai (jJ,U),af];rintro⟨h,_⟩;rw[U]at h;simp at h
inductive Wt where|par|orW|andW|notW deriving DecidableEq
def eE:Wt->Nat|.par=>0|.orW=>1|.andW=>2|.notW=>3
inductive Cs where|claim(k:Nat)(cs:@o)|op(w:Wt)deriving DecidableEq
inductive CW where|claim|card(k:Nat)(cs:@o)|joint deriving DecidableEq
structure Cm where
 steps:@bo
 want:CW
 wait:@bM
def settle(b:Nat):@bo->@bM->@bo×@bM|S,[]=>(S,[])|S,w::W=>if b<=eE w then settle b (S++[.op w]) W else(S,w::W)
def zT(w:Wt):@an:=decide (w=@fH\/w=@bE)
def jn(W:@bM):Nat:=(W.filter zT).length
def jB(k:Nat):Nat:=(H,k,2,2,1)
def oH(n k:Nat)(cs:@o)(m:Cm)(c:Nat):@sx:=if@hH then(H,@nJ,jB k,some {@ko++[(fG,cs++[c])],@gK,@fI},(kF,k,cs++[c]))else@r
def kj(m:Cm)(w:xF):@sx:=(cv,w,dI "not",(H,jn @fI,qh,@r,some (a3,@ko,@fH::@fI)),w,dI "up",(kF,0,[]),(cv,w,dI "even",(kF,1,[]),w,dI "like",(kF,2,[]),@r))
def tq(m:Cm)(w:xF):@sx:=(cv,w,dI "and",some (a3,(gu,2),.andW::(kn,2)),w,dI "or",some (a3,(gu,1),.orW::(kn,1)),@r)
def iV(n:Nat)(m:Cm)(t:Tok):@sx:=match m.want,t with|.card k cs,.num c=>oH n k cs m c|.claim,.word w=>kj m w|.claim,.sign c=>(da,c=40/\jn @fI≠qh,(a3,@ko,@bE::@fI))|.joint,.word w=>tq m w|.joint,.sign c=>(da,c=41/\@iR∈@fI,{(gu,1),@gK,(settle 1 @ko @fI).2.tail})|_,_=>none
def lI(n:Nat):Cm->fP->Option Cm|m,[]=>some m|m,x::l=>(iV n m x.1).bind λm'=>lI n m' l
def EB{n:Nat}:∀{l1 l2:fP}{m m':Cm},(fd,m,l1,m')->lI n m @gL=lI n m' l2|[],_,_,_,h=>@nL|x::l1,l2,m,m',h=>by show(iV n m x.1).bind _=_;cases e:iV n m x.1 with|none=>rw[ey,lI]|some m1=>rw[lI,e]at h;exact EB (l1:=l1) h
def wM{m m1:Cm}{x:@n5}(h:(c8,m,x.1,m1)):lI n m @gd=lI n m1 l:=(ab,lI,h)
def Ho(m:Cm):@u:=@t2=@gK/\@iR∉@fI
def kl(n e:Nat)(m:Cm)(l:fP)(q:Nat):@u:=(∃l1 x r m',l=l1++x::r/\(fd,m,l1,m')/\iV n m' x.1=@r/\x.2=q)\/(∃m',(fd,m,l,m')/\q=e/\¬Ho m')
def kl.ahead{m m1:Cm}{l1:fP}{q:Nat}(h:(fd,m,l1,m1))(b:kl n e m1 l q):kl n e m (l1++l) q:=by rcases b with⟨l2,x,r,m',a1,M,J,I⟩|⟨m',a1,M,J⟩;rw[Q,{@gL,x,r,m',(r,a1,eM),(d,EB h,M),J,I}];rw[ac,{m',(d,EB h,a1),M,J}]
def kl.cons{m m1:Cm}{x:@n5}{q:Nat}(h:(c8,m,x.1,m1))(b:kl n e m1 l q):kl n e m @gd q:=kl.ahead (l1:=[x]) (i3,h) b
def RJ{m:Cm}(he:¬Ho m)(hn:∀x r,l=x::r->iV n m x.1=@r):kl n e m l (KI e l):=(pI,he,{[],x,r,m,@d,@d,hn x r @d,@d})
def BY(i even:@bv)(k:Nat)(cs:@o):@an:=(jv,k,i @fh,k,even @fh,i @fh==i @jU)
def rK(i even:@bv)(s:Cs)(st:@cs):Option @cs:=match s,st with|.claim k cs,st=>some (BY i @bV k cs::st)|.op .notW,b::st=>some ((! b)::st)|.op .andW,b::a::st=>some ((a&&b)::st)|.op .orW,b::a::st=>some ((a||b)::st)|_,_=>none
def ip(i even:@bv):@bo->@cs->Option @cs|[],st=>some st|s::r,st=>(q0,r)
def EC(i even:@bv):∀(a b:@bo)(st:@cs),ip i @bV @fj st=(ip i @bV a st).bind (ip i @bV b)|[],b,st=>rfl|s::a,b,st=>by show(q0,@fj)=((rK i @bV s st).bind (ip i @bV a)).bind _;cases rK i even s st with|none=>rfl|some st'=>exact EC i @bV a b st'
def fo:@bo->@o|[]=>[]|.claim _ cs::r=>cs++fo r|.op _::r=>fo r
def zV:∀a b:@bo,fo @fj=fo a++fo b|[],b=>rfl|.claim k cs::a,b=>by show cs++fo @fj=_;rw[zV a b];simp[fo]|.op w::a,b=>zV a b
def Mw:∀P:@bM,fo @iW=[]|[]=>rfl|_::P=>Mw P
def ave:∀(S:@bo)(W:@bM),(nv,b)->settle b S W=(S,W)|S,[],_=>rfl|S,w::W,h=>by unfold settle;have hw:=h w @d;rw[bX]
def ahQ{b:Nat}:∀(P:@bM)(S:@bo)(W:@bM),(i4,b)->settle b S (P++W)=settle b (S++@iW) W|[],S,W,_=>@v|p::P,S,W,h=>by rw[dB,p];show(if b<=eE p then settle b (S++[.op p]) (P++W)else _)=_;rw[ai Z,ahQ P _ W @Cm,eM];rfl
def RK{P:@bM}{S:@bo}{W:@bM}(h:(i4,b))(X:(nv,b)):settle b S (P++W)=(S++@iW,W):=(r,ahQ P S W h,ave _ W X)
def iW(u:Nat)(F:Bool):@bM:=(L,F,[if u=0 then .orW else .andW],[])
def zW(u:Nat)(F a v:Bool):@an:=(L,F,if u=0 then a||v else a&&v,v)
def Hq(u:Nat)(l:fP):@u:=∀w p r,l=@tP->(u<=1->w≠dI "and")/\(u=0->w≠dI "or")
def BZ(n:Nat)(x:zy):@u:=@rY
def avf(u:Nat)(F:Bool)(W:@bM):jn @qi=jn W:=by
 unfold iW jn;cases F;.rfl
 .by_cases h:u=0;.simp[h,zT]
  .simp[h,zT]
def RL{S:@bo}{k:Nat}{cs:@o}{W:@bM}(l:fP):(gK,∀c r,afa n e l=.ok (c,r)->1<=c/\c<=n/\∃p,l=(.num c,p)::r,afa n e l,kl n e {S,.card k cs,W} l q):=by
 unfold afa;split
 .next c p r=>
   by_cases h:@hH;.rw[ai h];rw[P,λc' r' z=>?_,λq z=>@cL];injection z with z;injection z with z1 z2;subst z1 z2;exact{h.1,h.2,p,@d}
   .rw[af h];rw[mS];cases z;rw[fc];rw[aC,oH n k cs _ c];unfold oH;rw[af h]
 .next ck=>rw[mS];cases z;refine RJ (λz=>by cases z.1) λx r hx=>?_;subst hx;let{t,p}:=x;cases t with|num c=>rw[a2,ck c p r]|word w=>rfl|sign c=>rfl|wrong=>rfl
def ahR{n e:Nat}:∀(f u d:Nat)(l:fP)(S:@bo)(W:@bM)(F:Bool),u<=2->4*@R+(2-u)<f->d+jn W=qh->(u=2->(F,F))->(u<=1->(nv,u+1))->(ro,afb n e f u d l,Hq u l2,l,(ng,@tO),(i4,u+1),(pk,@xe),afb n e f u d l,kl n e @tO l q)
 |0,u,d,l,S,W,F,_,hf,_,_,_=>@e
 |f+1,u,d,l,S,W,F,Jt,hf,hd,hF,X=>by
  have A:=λ(N d':Nat)(l':fP)(S':List Cs)(b:List Wt)(F':Bool)Z h2 h3 h4 h5=>ahR (n:=n) (e:=e) f N d' l' S' b F' Z h2 h3 h4 h5;generalize hG:afb n e (f+1) u d l=G;unfold afb at hG;subst hG;by_cases Z:u<=1
  .rw[ai Z];have L:=A (u+1) d l S @qi @K @e @e (d,avf,hd) @bm (λh2 w hw=>by have h0:u=0:=@e;subst h0;unfold iW at hw;cases F with|true=>simp at hw;subst hw;decide|false=>simp at hw;have:=X @e w hw;omega);have ep:iW (u+1) @K=[]:=rfl;rw[ep,Bt]at L;split;.next q U=>rw[ct];cases z;exact L.2 q U
   .next x hx=>
     let{O,dM,l1,E,P,e1,D,e2,e3,e4,e5}:=L.1 x.1 x.2 hx;have xh:∀i even st,(lP,st,@zM):=λi even st=>(kI,st);have Fo:∀w∈iW u F,u+1<=eE w:=by
      intro w hw;unfold iW at hw;cases F with
      |true=>
       simp at hw;subst hw;rw[cj];.rw[ai h0,h0];decide
       .rw[af h0];show u+1<=2;omega
      |false=>simp at hw
     have m:∀i even st a v,ip i @bV ((iW u F).map .op) (v::@xw)=some (zW u F a v::st):=by
      intro i even st a v;unfold iW zW;cases F with
      |true=>
       rw[cj];.simp[h0,ip,rK]
       .simp[h0,ip,rK]
      |false=>simp[ip]
     have K:∀i even st a,ip i @bV @w7 @xw=some (zW u F a @zM::st):=by intro i even st a;rw[bh,<-eM,EC,xh];exact m i @bV st a _
     have plain:∀(sf:Hq u x.2),(∀y l2,(aTI x:GotCond)=.ok (y,l2)->BZ n y/\Hq u l2/\∃l1 E P,l=@gL/\l1≠[]/\(ng,@tO)/\(i4,u+1)/\(pk,fL i @bV y)/\(gH,fo E,dk y)):=by intro sf y l2 z;injection z with z;have z1:x.1=y:=dg asz z;have z2:x.2=l2:=dg Prod.snd z;subst z1 z2;refine{O,sf,l1,E,P++iW u F,e1,D,(d,eM,e2),@sz,K,e5};rcases bz.1 hw with h|h;rw[aQ,e3 w h];.exact Fo w h
     split
     .next w p r eh=>
       by_cases hw:w=(if u=0 then dI "or"else dI "and")
       .rw[ai hw];have T:(cD,r.length):=by have:=dg lz e1;rw[eh]at this;have vF:0<l1.length:=zp.2 D;simp at this;omega
        have o:settle (u+1) (S++E) (P++@qi)=(S++E++(P++iW u F).map .op,W):=(G,eM,RK (λw hw=>by rcases bz.1 hw with h|h;rw[aQ,e3 w h];.exact Fo w h) (X Z));have R:(c8,{S++E,@gK,P++@qi},@hQ,@D_):=by
         show tq _ w=_;unfold tq;rw[cj];.subst h0;rw[(@ax)]at hw;rw[af (le,hw),ai hw];dsimp only;rw[o,<-eM];rfl
         .have yO:u=1:=@e;subst yO;rw[(@dT)]at hw;rw[ai hw];dsimp only;rw[o,<-eM];rfl
        have I2:=A u d r (S++@w7) W @h Jt @e hd @q4 X;have yJ:(fd,@tO,@B3,@D_):=(d,EB e2,(i3,R));have M:l=@B3++r:=by rw[e1,eh];simp
        split;.next q U=>rw[ct];cases z;rw[M];exact kl.ahead yJ (I2.2 q U)
        .next y hy=>
          rw[P,λz l2 h=>?_,λq' z=>@cL];let{H,Q,j,E2,P2,g1,ng1,g2,g3,g4,g5}:=I2.1 y.1 y.2 hy;injection h with h;injection h with ha hb;subst ha hb;refine{?_,Q,@B3++j,@w7++E2,P2,?_,@v,?_,g3,?_,?_};.intro c hc;rw[cj];rw[lr,ai h0];rw[lr,af h0]
          .rw[M,g1];simp
          .rw[EB yJ,g2];congr 2;simp[eM]
          .intro i even st a;rw[eM,eM,<-eM E,EC,K];show ip i @bV (E2++P2.map .op) _=_;have:=g4 i @bV st (zW u F a @zM);rw[(@ax)]at this;rw[aa];unfold zW;rw[cj];.rw[ai h0,ai h0,ai h0];cases F<;>simp[fL,h0,Bool.or_assoc]
           .rw[af h0,af h0,af h0];cases F<;>simp[fL,h0,Bool.and_assoc]
          .intro c;rw[zV,zV,Mw,gk,bz,e5 c,g5 c];rw[cj];rw[aT,h0,bz.symm];rw[bk,h0,bz.symm]
       .rw[af hw];rw[P,plain ?_,λq z=>@cL];intro w' p' r' hz;rw[eh]at hz;injection hz with hz _;injection hz with hz _;injection hz with hz;subst hz;have hs:=dM w p r eh;rw[cj];.rw[ai h0]at hw;exact{λ_=>hs.1 @e,λ_=>hw}
        .rw[af h0]at hw;exact{λ_=>hw,(jG,h0)}
     .next ck=>rw[P,plain ?_,λq z=>@cL];intro w' p' r' hz;exact absurd hz (ck w' p' r')
  .rw[af Z];have h2:u=2:=@e;have hF0:=hF h2;subst h2 hF0;have ep:iW 2 @K=[]:=rfl;rw[ep,Bt];have J:∀l2,Hq 2 l2:=λl2 w p r _=>{@q4,@q4};split
   .next w p r=>
     have T:r.length+1=(@tP:fP).length:=rfl;by_cases w1:w=dI "not"
     .rw[ai w1];by_cases d0:d=0;.rw[ai d0];rw[eH];cases z;rw[fc];rw[aC,kj _ w];unfold kj;rw[aG,w1,by show jn W=qh;omega]
      .rw[af d0];have B:jn (@fH::W)=jn W+1:=by simp[jn,zT]
       have I:=A 2 (d-1) r S (@fH::W) @K @e @Ht (af,B) @bm @q4;have R:(c8,(a3,S,W),@hQ,(a3,S,iW 2 @K++@fH::W)):=by show kj _ w=_;unfold kj;rw[ai w1,af (ly,¬jn W=qh)];rfl
       split;.next q U=>rw[ct];cases z;exact(hf,I.2 q U)
       .next x hx=>
         rw[gs];let{O,_,l1,E,P,e1,D,e2,e3,e4,e5}:=@Cl;injection z with z;injection z with za zb;subst za zb;refine{O,J _,(@hQ,p)::l1,E,P++[@fH],(O,e1),@v,?_,?_,?_,e5};rw[aL,wM R,e2,eM]
         .intro v hv;rcases bz.1 hv with h|h;.exact e3 v h
          .rw[cz.1 h];decide
         .intro i even st a;rw[bh,<-eM,EC];have:=(kI,st);rw[(@dT)]at this;rw[af @Z,this];rfl
     .rw[af w1];have one:∀(k:Nat)(g:Nat->zy),jB k=1->(∀i even c,BY i @bV k [c]=fL i @bV (g c))->(∀c,dk (g c)=[c])->(c8,(a3,S,W),@hQ,{S,.card k [],W})->let G:GotCond:=(qT,afa n e r,.ok (g x.1,x.2));(ro,G,Hq 2 l2,@tP,(ng,(a3,S,W)),(i4,2+1),∀i even st(a:Bool),(lP,(L,@K,a::st,st),zW 2 @K a @xe),G,kl n e (a3,S,W) @tP q):=by
       intro k g hk hv j_ R;dsimp only;have C:=(nN,k,[],r);split;.next q U=>rw[ct];cases z;exact(hf,C.2 q U)
       .next x hx=>
         rw[gs];rw[jO];injection z with z;injection z with za zb;subst za zb;have eJ:(c8,{S,.card k [],W},.num x.1,(ho,S++[(fG,[x.1])])):=by show oH n k [] _ x.1=_;unfold oH;rw[aG,⟨c1,c2⟩,(O,hk)];rfl
         rw[jr,[(@hQ,p),(.num x.1,p')],(fG,[x.1]),(O,hr)];.rw[j_]at hc;rw[cz.1 hc];exact⟨c1,c2⟩
         rw[ay,wM R,(i3,eJ)];.intro i even st a;show some (BY i @bV k [x.1]::st)=some (fL i @bV (g x.1)::st);rw[hv]
         .intro c;rw[j_];simp[fo]
      by_cases w2:w=dI "up";rw[aT,w2,one 0 .up @d (λ_ _ _=>@d) @bm (by show kj _ w=_;unfold kj;rw[af w1,ai w2])]
      .rw[af w2];by_cases w3:w=dI "even";rw[aT,w3,one 1 .even @d (λ_ _ _=>@d) @bm (by show kj _ w=_;unfold kj;rw[af w1,af w2,ai w3])]
       .rw[af w3];by_cases w4:w=dI "like"
        .rw[ai w4];have R:(c8,(a3,S,W),@hQ,{S,.card 2 [],W}):=by show kj _ w=_;unfold kj;rw[af w1,af w2,af w3,ai w4]
         have C:=(nN,2,[],r);split;.next q U=>rw[ct];cases z;exact(hf,C.2 q U)
         .next x hx=>
           rw[jO];have eJ:(c8,{S,.card 2 [],W},.num x.1,@J8):=by show oH n 2 [] _ x.1=_;unfold oH;rw[ai ⟨c1,c2⟩,af (eY,¬([]:@o).length+1=jB 2)];rfl
           have C2:=(nN,2,[x.1],x.2);split;.next q U=>rw[ct];cases z;rw[hr];exact(hf,kl.cons eJ (C2.2 q U))
           .next y hy=>
             rw[P,λz' l2 z=>?_,λq' z=>@cL];let{b1,b2,p2,AK}:=C2.1 y.1 y.2 hy;injection z with z;injection z with za zb;subst za zb;have sg:(c8,@J8,.num y.1,(ho,S++[.claim 2 [x.1,y.1]])):=by show oH n 2 [x.1] _ y.1=_;unfold oH;rw[aG,⟨b1,b2⟩,show[x.1].length+1=jB 2 from rfl];rfl
             rw[jr,[(@hQ,p),(.num x.1,p'),(.num y.1,p2)],.claim 2 [x.1,y.1],(ab,hr,AK)]
             .have oS:c=x.1\/c=y.1:=by simpa[dk]using hc
              rcases oS with h|h;rw[s,h,⟨c1,c2⟩];rw[s,h,⟨b1,b2⟩]
             rw[aL,wM R,wM eJ,(i3,sg)];.intro i even st a;rfl
             .intro c;simp[fo,dk]
        .rw[af w4];rw[eH];cases z;rw[fc];rw[aC,kj _ w];unfold kj;rw[af w1,af w2,af w3,af w4]
   .next p r=>
     by_cases d0:d=0;.rw[ai d0];rw[eH];cases z;rw[fc];rw[aC,(bo,40=40/\jn W≠qh)];rw[af];rintro⟨_,z⟩;exact z @e
     .rw[af d0];have B:jn (@bE::W)=jn W+1:=by simp[jn,zT]
      have I:=A 0 (d-1) r S (@bE::W) @K @e @Ht (af,B) @bm (λ_ w hw=>@Gs);have R:(c8,(a3,S,W),@fM,(a3,S,iW 0 @K++@bE::W)):=by show(bo,40=40/\jn W≠qh)=_;rw[ai (al,@e)];rfl
      split;.next q U=>rw[ct];cases z;exact(hf,I.2 q U)
      .next x hx=>
        let{O,dM,l1,E,P,e1,D,e2,e3,e4,e5}:=@Cl;have o:settle 1 (S++E) (P++@bE::W)=(S++E++@iW,@bE::W):=RK e3 (λw hw=>@Gs);split
        .next p2 s eh=>
          rw[gs];injection z with z;injection z with za zb;subst za zb;have eJ:(c8,{S++E,@gK,P++@bE::W},@iZ,(ho,S++(E++@iW))):=by show(bo,41=41/\@iR∈P++@bE::W)=_;rw[ai (al,@v)];dsimp only;rw[o,eM];rfl
          refine{O,J _,(@fM,p)::(l1++[(@iZ,p2)]),E++@iW,[],by rw[e1,eh];simp,@v,?_,@v,?_,?_};rw[aL,wM R,EB e2,(i3,eJ)];.intro i even st a;have:=(kI,st);rw[(@dT)]at this;rw[(@dT),xG,gk,this];rfl
          .intro c;rw[zV,Mw,gk,e5 c]
        .next s ck=>rw[P,λy l2 z=>@cL,λq' z=>?_];cases z;rw[e1];refine(hf,kl.ahead e2 (RJ (λz=>z.2 @v) λy r2 hy=>?_));let{t,p3}:=y;cases t with|word w=>rw[lV,p3,r2,hy]|sign c=>rw[gw,_];rw[af];rintro⟨z,_⟩;subst z;exact ck p3 r2 hy|num k=>rfl|wrong=>rfl
   .next Y V=>rw[eH];cases z;refine RJ (λz=>by cases z.1) λy r2 hy=>?_;subst hy;let{t,p3}:=y;cases t with|word w=>rw[a2,Y w p3 r2]|sign c=>rw[eG,_];rw[af];rintro⟨z,_⟩;subst z;exact V p3 r2 @d|num k=>rfl|wrong=>rfl
def avg(t:xF):(gK,(qq,(fd,@ov,@dA,m)/\Ho m/\(kn,1)=[]/\(nO,(gu,1))/\(eA,fo (gu,1))),Qa n t,kl n @ah @ov @dA q):=by
 have R:=ahR (n:=n) (e:=@ah) (4*(lw t).length+4) 0 qh @dA [] [] @K @e @e (by simp[jn]) @q4 (λ_ w hw=>by simp at hw);have ep:iW 0 @K++([]:@bM)=[]:=rfl;rw[ep]at R;unfold Qa;dsimp only;split;.next q U=>rw[P,λx z=>@cL,λq' z=>?_];cases z;exact R.2 q U
 .next x hx=>
   let{O,dM,l1,E,P,e1,D,e2,e3,e4,e5}:=R.1 x.1 x.2 hx;rw[Bt,gk]at e2;have f:@iR∉P:=λz=>by have:=e3 _ z;exact absurd this @Z
   by_cases h0:x.2.isEmpty=@h
   .rw[ai h0];rw[iV];rw[hz,gk]at e1;rw[P,λy z=>?_,λq z=>@cL];cases z;have o:settle 1 E P=(E++@iW,[]):=(gj,RK (b:=1) (P:=P) (S:=E) (W:=[]) e3 (λw hw=>by simp at hw),gk);have j_:∀y:zy,dk y≠[]:=by intro y;induction y with|up c=>simp[dk]|even c=>simp[dk]|like c d=>simp[dk]|no a ih=>exact ih|both a b ih _=>simp[dk,ih]|either a b ih _=>simp[dk,ih]
    refine{O,j_ _,_,(d,e1,e2),(al,f),(aF,o),?_,?_};.intro i even;have:=(kI,[]);rw[(@dT)]at this;dsimp only;rw[o,this];rfl
    .intro c;dsimp only;rw[o,zV,Mw,gk,e5 c]
   .rw[af h0];rw[P,λy z=>@cL,λq z=>?_];cases z;cases eh:x.2 with|nil=>rw[eh]at h0;simp at h0|cons y r=>rw[e1,eh];refine kl.ahead e2 (.inl {[],y,r,_,@d,@d,?_,@d});let{tk,p}:=y;cases tk with|word w=>rw[lV,p,r,eh]|sign c=>rw[gw,@iR∈P];rw[af (λz=>f z.2)]|num k=>rfl|wrong=>rfl
def gP(no:Nat):@rD:=[(no,@h,@K),(no,@h,@h),(no,@K,@K),(no,@K,@h)]
def avh(a:Nat)(e u:Bool):(a,e,u)∈gP a:=by cases e<;>cases u<;>simp[gP]
def ahS(a:Nat):∀u∈gP a,u.1=a:=by intro u hu;simp[gP]at hu;rcases hu with z|z|z|z<;>rw[z]
def pw(cs:@g2)(c:Nat):@g2:=cs.flatMap λp=>(gP c).map λu=>p++[u]
def lJ(m:@o):@g2:=m.foldl pw [[]]
def ahT:∀(m:@o)(cs:@g2)(p:Profile),p∈m.foldl pw cs↔∃a∈cs,∃b:Profile,p=@fj/\b.map @aA=m
 |[],cs,p=>by
  constructor;.intro h;exact{p,h,[],@v,@d}
  .rintro⟨a,ha,b,rfl,hb⟩;have:b=[]:=by simpa using hb
   subst this;simpa using ha
 |c::m,cs,p=>by
  rw[zo,ahT m];constructor;.rintro⟨a,ha,b,rfl,hb⟩;let{J,I,h2}:=jT.1 ha;let{u,hu,rfl}:=bf.1 h2;exact{J,I,u::b,@v,(aA,cb,ahS c u hu,hb)}
  .rintro⟨a,ha,b,rfl,hb⟩;cases b with|nil=>simp at hb|cons u b=>rw[cb]at hb;injection hb with Z h2;refine{a++[u],jT.2 {a,ha,(a0,u,?_)},b,@v,h2};let{x,e,v}:=u;have:x=c:=Z;subst this;exact avh _ _ _
def avi{m:@o}{p:Profile}:p∈lJ m↔@bn:=by
 unfold lJ;rw[ahT];constructor;.rintro⟨a,ha,b,rfl,hb⟩;rw[cz.1 ha,Bt];exact⟨hb⟩
 .intro h;exact(Q,[],@v,p,h.names)
def mh(r:Row)(x:@jM):Nat:=(bI,x.1,az (!@bw)+az @eO)
def tu(r:Row)(p:Profile):@an:=if r.length%2=0 then@Lj else(ap,@d2,r.length)||(B,@sa%2,@cR%2)
def RM{g:Nat->@rD}:∀(m:@o)(y:Profile),y.map @aA=m->@FU->y∈xO (m.map g)
 |[],y,h,_=>by
  have:y=[]:=by simpa using h
  subst this;simp[xO]
 |a::m,[],h,_=>@a5
 |a::m,u::y,h,hg=>by rw[cb]at h;injection h with Z h2;subst Z;show u::y∈(nw,u.1);exact jT.2 {u,hg u @v,(a0,y,RM m y h2 λv hv=>hg v (f6 _ hv))}
def ahU(b:Bool):@b1<2:=@s7
def ahV(s c:Nat)(e u:Bool)(hc:c<2):(u=((s+c+(L,e,0,1))%2==1))↔(s+(az (! e)+az u))%2=c:=by cases e<;>cases u<;>simp[az]<;>omega
def avj{r:Row}(H:@G)(hn:@aU){m:@o}{p:Profile}(G:@bn)(aI:@jJ):@Bz:=by
 unfold tu lC;rw[H.len,ai hn,ai hn,iR];have bn:∀x,mh r x<2:=λx=>@jP;constructor
 .intro h;refine jT.2 {@kW,?_,RM m p G.names @nu}
  .have:@kW<2:=by cases p with|nil=>exact Nat.zero_lt_two|cons x p=>exact bn x
   have h2:@kW=0\/@kW=1:=@e;rcases h2 with z|z<;>rw[z]<;>simp
  .have:=bT (h _ (a0,u,hu));let{no,e,v}:=u;refine bf.2 {e,by cases e<;>simp,?_};have h2:=(ahV @fG _ e v (G,this,bn _)).2 this;exact(eC,(no,e,z),@mn)
 .intro h d hd;let{c,hc,h}:=jT.1 h;have cN:c<2:=by simp at hc;omega
  let{_,g2}:=Hk @Bj m p h;have all:∀x∈p,mh r x=c:=by intro x hx;let{e,_,he}:=bf.1 (g2 x hx);let{no,F,v}:=x;injection he with Z h2;injection h2 with h3 h4;subst h3;exact(ahV @fG c e v cN).1 h4.symm
  rw[aZ,hd];have:@kW=c:=by cases p with|nil=>rw[a2,aI]|cons y p=>exact all y @v
  exact bq (r,this,all x hx)
def ahW:∀p:@p_,@xQ=@sa|[]=>rfl|x::p=>by rw[dl,ahW p];cases x.2.2<;>simp[az];omega
def avk{r:Row}(H:@G)(hn:¬@aU){m:@o}{p:Profile}(G:@bn):@Bz:=by
 rw[Hn H hn];unfold tu;rw[kG];rw[H.len,af hn,mN,bU,bU,dF,ahW];constructor
 .intro h;rw[ae,RM m p G.names λu _=>?_];.let{a,e,v}:=u;exact ahB _ _ _
  .rcases h with h|h;rw[Q,h];.right;omega
 .rintro⟨_,h⟩;rcases h with h|h;rw[Q,h];.right;omega
def RN{r:Row}(H:@G){m:@o}{p:Profile}(G:@bn)(aI:@jJ):@Bz:=by
 rw[a6];.exact avj H hn G aI
 .exact avk H hn G
def RO(n:Nat):∀(k i:Nat),i+k=n->wL n i=@gI|0,i,h=>by rw[az,i=n];subst this;unfold wL;rw[wb @v];simp|k+1,i,h=>by rw[Mj @e,RO n k @A @e];split<;>omega
def x_(n i:Nat)(q:Profile):@an:=(lH,@DE,@T,@DE)
def ahX:∀p:@p_,(p.filter λx=>!@bw).length=@zl|[]=>rfl|x::p=>by rw[dl,ahX p];cases x.2.1<;>simp[az];omega
def ahY:∀p:@p_,(p.filter λx=>@bw).length=@d2-@zl/\@zl<=@d2
 |[]=>(al,@L)
 |x::p=>by
  let{Z,h2}:=ahY p;rw[kf,cb,ij,cX];have hb:az (!@K)=1:=rfl;have hc:az (!@h)=0:=rfl;cases x.2.1;.rw[af @Z,Z,hb];omega
  .rw[(@ax),cX,Z,hc];omega
def ahZ{i:Nat}(hi:i<=n){p:Profile}:@Bo=x_ n i (p.filter @o1):=by
 unfold gm x_;dsimp only;have e1:((br n).drop i).filter (λi=>@gJ)=((br n).drop i).filter (λj=>j%2==0):=rfl;have Z:(kG,j%2==1)=@gI:=RO n (n-i) i @e;have h2:(kG,j%2==0)=n-i-@gI:=by have:=Rv n (n-i) i @e;rw[RO n (n-i) i @e]at this;show x5 n i=_;omega
 rw[Z,h2,ahX,(ahY _).1,Bool.and_comm]
def kM(m o:@o):@o:=(o.zipIdx.filter λx=>(cS,x.1)).map @bA
def j0(m:@o)(p:Profile)(o:@o):@o:=o.map λno=>(L,m.contains no,az (cx p no),0)
def iL(r:Row)(m o:@o)(p:Profile):Row:=if r.length%2=0 then fM o (x8 r o (o.findIdx λc=>c==@fJ) (az @sI))else match@AS with|some j=>fM o @BM|none=>fM o @i6
def RQ:∀(o s:@o),@uz->@xR->bD @b4=o/\fA @b4=s|[],[],_,_=>@ds|[],_::_,h,_=>@a5|_::_,[],h,_=>@a5|x::o,b::s,h,hb=>by let{a,c}:=RQ o s @c7 λz hz=>hb z (f6 _ hz);have Z:=hb b @v;rw[ae,(fs,x::bD @b4,a)];show az (b==1)::fA @b4=_;rw[c];rw[az,b=0\/b=1];rcases this with z|z<;>subst z<;>rfl
def avl{q':Row}(h:fA q=fA q'):q.map kg=@sE:=by
 have key:∀l l':@cs,l.map az=l'.map az->l=l':=by
  intro l;induction l with
  |nil=>intro l' h;cases l' with|nil=>rfl|cons b l'=>simp at h
  |cons a l ih=>intro l' h;cases l' with|nil=>simp at h|cons b l'=>rw[cb,cb]at h;injection h with Z h2;rw[ih l' h2];congr 1;cases a<;>cases b<;>first|rfl|(rw[al,Z,@Z])
 refine key _ _ ?_;rw[bC,bC];exact h
def Hr:∀{a b:@o},@ol->iK a b->iK b a->a=b
 |[],[],_,_,_=>rfl
 |[],_::_,h,_,_=>@a5
 |_::_,[],h,_,_=>@a5
 |x::a,y::b,h,Z,h2=>by
  have h':@ol:=@c7;rcases Z with Z|⟨e1,Z⟩
  .rcases h2 with h2|⟨e2,h2⟩;.omega
   .omega
  .rcases h2 with h2|⟨e2,h2⟩;.omega
   .rw[e1,Hr h' Z h2]
def Mx:∀{a b c:@o},iK a b->iK b c->@ol->@bX=@cJ->iK a c
 |[],[],[],_,_,_,_=>eY
 |[],_::_,_,_,_,h,_=>@a5
 |_::_,[],_,_,_,h,_=>@a5
 |[],[],_::_,_,_,_,h=>@a5
 |_::_,_::_,[],_,_,_,h=>@a5
 |x::a,y::b,z::c,Z,h2,l1,l2=>by
  rcases Z with Z|⟨e1,Z⟩;.rcases h2 with h2|⟨e2,h2⟩;rw[Q,@e];rw[Q,@e]
  .rcases h2 with h2|⟨e2,h2⟩;rw[Q,@e];rw[ac,{@e,Mx Z h2 (by simpa using l1) (by simpa using l2)}]
def RR:∀(s t:@o)(p:Nat),@dc=@ah->(∀j a b,(ah,s,a)->(ah,t,b)->b<2/\a<2/\(j<p->a=b\/a=0)/\(p<j->a=b))->s.sum%2=t.sum%2->iK s t
 |[],[],_,_,_,_=>eY
 |[],_::_,_,h,_,_=>@a5
 |_::_,[],_,h,_,_=>@a5
 |a::s,b::t,0,h,hh,hs=>by rw[mT];rw[E,s,t,by apply P0;intro j;rcases dH j s.length with hj|hj;rw[aj,bX hj,(@em),dg some ((hh @aj _ _ (r,afc,bX hj) (r,afc,bX (v,j<@ah))).2.2.2 @e)];.rw[ny hj,ny @e]];subst e;have h0:=hh 0 a b @d @d;rw[ij,ij]at hs;exact(a_,@e,Ey s)
 |a::s,b::t,p+1,h,hh,hs=>by
  rw[mT];have h0:=hh 0 a b @d @d;rcases dH a b with z|z;rw[Q,z]
  .rw[E,a,b,by
    rcases h0.2.2.1 (by omega)with q|q;.exact q
    .omega];refine(a_,e,RR s t p hl (λj x y hx hy=>?_) (by rw[ij,ij]at hs;omega));have:=hh @aj x y hx hy;exact{@l8,this.2.1,λz=>this.2.2.1 @e,λz=>this.2.2.2 @e}
def RS{m:@o}{j:Nat}:j∈kM m o↔@EI:=by
 unfold kM;rw[bf];constructor;.rintro⟨⟨x,i⟩,h,rfl⟩;let{Z,h2}:=gR.1 h;exact{x,aPY.1 Z,@rn}
 .rintro⟨x,Z,h2⟩;exact{(x,j),gR.2 {aPY.2 Z,by show(cS,x)=@h;rw[h2];rfl},@d}
def ah0{m:@o}{j:Nat}(h:@AS=some j):@EI/\∀i x,j<i->(C,o,x)->@eC=@h:=by
 have hm:j∈kM m o:=afd h;rw[P,RS.1 hm,λi x hi hx=>?_];cases e:m.contains x with
 |true=>rfl
 |false=>
  exfalso;have g:i∈kM m o:=RS.2 ⟨x,hx,e⟩;have hs:(kM m o).Pairwise @kH:=by have Z:(o.zipIdx.map @bA).Pairwise @kH:=(d,List.zipIdx_map_snd,List.pairwise_lt_range');unfold kM;exact Z.sublist ((xN (l:=o.zipIdx) (p:=λx=>(cS,x.1))).map _)
  obtain⟨l,hl⟩:∃l,kM m o=l++[j]:=by let{l,hl}:=Bu.1 h;exact⟨l,hl⟩
  rw[hl]at hs g;rcases bz.1 g with z|z;rw[aQ,(aPZ.1 hs).2.2 i z j @v];rw[aQ,cz.1 z]
def avm{m:@o}(h:@AS=@r):∀(i x:Nat),(C,o,x)->@eC=@h:=by have g:kM m o=[]:=DM.1 h;intro i x hx;cases e:m.contains x with|true=>rfl|false=>have:i∈kM m o:=RS.2 ⟨x,hx,e⟩;rw[g]at this;simp at this
def avn{Z:Row}(J:aG n Z){m:@o}(hm:m.Nodup)(d:@eH){p:Profile}(G:@bn)(h:(hP,Z,Z)){x:zy}(hx:∀c∈dk x,c∈m):@hP=lB Z x:=x6 x λc hc=>h c (hx c hc)
def ah1(N:o.Nodup)(hc:c∈o):@zj<@bY/\o.getD @zj 0=c:=by have h:@zj<@bY:=List.findIdx_lt_length_of_exists {c,hc,@v};rw[ae,h];rw[dy,bX h];have:=aP0 (w:=h);simpa using this
def ah2{m:@o}{p:Profile}(G:@bn)(hm:m.Nodup)(aI:@jJ):@fJ∈m/\cx p @fJ=@sI:=by
 have fY:p.headD @vN∈p:=by cases p with|nil=>rw[a2,aI]|cons x p=>simp
 exact{(G,G.names,(iX,fY)),Ml G hm fY}
def avo{r:Row}(H:@G)(hn:@aU){m:@o}(hm:m.Nodup)(d:@eH){p:Profile}(hp:@iX)(aI:@jJ)(N:@eJ)(hc:@r7):∃c,c<2/\@iv=@dq/\(hP,@dq,@dq)/\(nV,q=@dq):=by
 let{G,c,cN,L}:=ahx H hn hm d hp N hc;let{Z,h2}:=ah2 G hm aI;have ib:o.Nodup:=@xi;let{b1,b2}:=d _ Z;have a:@fJ∈o:=N.mem_iff.2 (jm.2 ⟨b1,b2⟩);let{f1,f2}:=ah1 ib a;rw[gK];have i:∀c',dt (gC r o c') @fJ=((bB r @fJ+c'+@og)%2==1):=by
  intro c';have h:=Ez (r:=r) N c';have hk:@og<n:=by rw[N.length_eq,gq]at f1;exact f1
  have e:=wG h hk;rw[BX f1]at e;have O:o[@og]=@fJ:=by rw[dy,bX f1]at f2;exact f2
  rw[O]at e;exact e
 have W:(bB r (o.getD @og 0)+@og+az @sI)%2=c:=by rw[f2];have e:=(L _ Z).1;rw[h2,i c]at e;generalize@sI=b at e;cases b with|true=>have:=eW.1 @gA;simp only[az,iQ];omega|false=>have:=q_.1 @gA;simp only[az,mO,kG];omega
 refine{c,cN,?_,L,@xS};.unfold iL;rw[H.len,ai hn,ahN f1,W]
 .let{c',j,_,U}:=RD H f hn jv;rw[g]at U;rw[ah,cx p @fJ,dt q @fJ,(eO,Mq (q:=q) hm Z,v)];rw[(L _ Z).1,U,i c,i c']at e1;have:c=c':=by
   by_cases z:(bB r @fJ+c+@og)%2=1;.have z2:=eW.1 (e1.symm.trans (eW.2 z));omega
   .have z2:=q_.1 (e1.symm.trans (q_.2 z));omega
  rw[U,this]
def Hs{m:@o}{p:Profile}{j a:Nat}(h:(ah,@i6,a)):∃x,@mL/\a=(L,@eC,az @hM,0):=by unfold j0 at h;rw[be]at h;cases e:o[j]? with|none=>rw[gg]|some x=>rw[e]at h;exact(aD,x,(bZ h).symm)
def sum_set:∀(l:@o)(j v:Nat),j<@R->(l.set j v).sum=(l.take j).sum+v+(l.drop @aj).sum|[],j,v,h=>@a5|a::l,0,v,_=>@v|a::l,j+1,v,h=>by have ih:=sum_set l j v @c7;rw[aP1,ij,ih,List.take_succ_cons,ij,List.drop_succ_cons];omega
def avp{r:Row}(H:@G)(hn:¬@aU){m:@o}(hm:m.Nodup)(d:@eH){p:Profile}(hp:@iX)(N:@eJ)(hc:@r7):∃s:@o,@dc=n/\@xR/\@iv=@b4/\aG n @b4/\(cT,@b4)/\(hP,@b4,@b4)/\(nV,iK s (fA q)):=by
 have yP:=(Hn H hn).1 hp;have G:=RE yP.1;rw[m2];rw[kG];rw[i4,m];have eJ:∀z∈@i6,z<2:=by
  intro z hz;let{x,_,rfl}:=bf.1 hz;split;.exact ahU _
  .decide
 have K:n%2=1:=@e;have I:∀s:@o,@dc=n->@xR->(∀(j x a:Nat),@mL->(ah,s,a)->x∈m->a=az @hM)->s.sum%2=@cR%2->aG n @b4/\(cT,@b4)/\(hP,@b4,@b4):=by
  intro s hl h2 A U;let{w1,w2}:=RQ o s @e h2;have J:aG n @b4:={by unfold fM;rw[au,afe];omega,(m8,@b4,w1,N)};rw[ad,J,?_,λno ck=>?_];.rw[qp H J K,bU];have:((fM o s).map @gB)=s:=w2;rw[aa];exact U.symm
  .rw[g3];let{a1,M}:=ahJ J w1 @d b1 b2;have T:=Mr o 0 hc _ no a1 ck;rw[oz]at T;rw[aP,T];have e3:(K,s,(cb,@b4),az (dt @b4 no)):=by rw[be]at M;have w3:=dg (λl:@o=>l[(cb,@b4)]?) w2;dsimp only[fA]at w3;rw[be]at w3;cases e:(fM o s)[placeOf (fM o s) no]? with|none=>rw[e]at M;cases M|some c=>rw[e]at M w3;have:@ce=dt @b4 no:=bZ M;rw[<-w3,<-this];rfl
   have e4:=A _ no _ a1 e3 ck;generalize dt @b4 no=b at e4;generalize cx p no=c at e4;cases b<;>cases c<;>first|rfl|(rw[al,e4,@Z])
 have t:∀q,@ap->@cZ=o->@ek=p->∀(j x b:Nat),@mL->(ah,fA q,b)->x∈m->b=az @hM:=by intro q f g v j x b hx hb C;have w:=Rz f (d,g,hx);rw[<-v,Mq hm C];have e2:=wG f w.1;rw[w.2.1]at e2;rw[e2];unfold fA at hb;rw[be,oG (d,f.len,w.1)]at hb;exact(bZ hb).symm
 have D:∀q,@ap->@dM->(fA q).sum%2=@cR%2:=by intro q f jv;rw[qp H f K,bU]at jv;exact jv.symm
 have u:∀(q:Row)(j b:Nat),(ah,fA q,b)->b<2:=by intro q j b hb;let{c,_,rfl}:=bf.1 (cZ hb);exact ahU _
 have F:∀q,@ap->(fA q).length=n:=by intro q f;unfold fA;rw[au,f.len]
 unfold iL;rw[H.len,af hn];cases hj:(kM m o).getLast? with
 |some j=>
  let{{x,hx,C},ug}:=ah0 hj;have CV:j<n:=(b_,(fk.1 hx).1);refine(Q,@BM,?_,?_,?_);.unfold kL;rw[zw,eI]
  .intro z hz;unfold kL at hz;rcases asL hz with h|h;.exact eJ z h
   rw[s,h,@jP]
  .have ky:∀i,i≠j->(@BM)[i]?=(@i6)[i]?:=by intro i hi;unfold kL;rw[Qb (λz=>hi @pW)]
   have U:(kL r @i6 j).sum%2=@cR%2:=by unfold kL;rw[sum_set _ _ _ (d,eI,CV)];omega
   let{m1,m2,m3}:=I _ (by unfold kL;rw[zw,eI]) (by
    intro z hz;unfold kL at hz;rcases asL hz with h|h;.exact eJ z h
    rw[s,h,@jP]) (by
    intro i y a hy ha k;have E:i≠j:=by intro e;subst e;rw[hx]at hy;cases hy;rw[gA.2 k]at C;cases C
    rw[ky i E]at ha;let{B,O,e}:=Hs ha;rw[hy]at O;cases O;rw[e,ai (gA.2 k)]) U;rw[ap,m1,m2,m3,@xS];refine(qt,j,by rw[F q f];unfold kL;rw[zw,eI]);rw[ap,u q i b hb,?_,λbn=>?_,λbn=>?_]
   .have:=cZ ha;unfold kL at this;rcases asL this with h|h;.exact eJ a h
    rw[s,h,@jP]
   .rw[ky i @e]at ha;let{y,hy,e}:=Hs ha;cases k:m.contains y with|true=>left;rw[k,(@ax)]at e;rw[e,(n5,k)]|false=>right;rw[k]at e;simpa using e
   .rw[ky i @e]at ha;let{y,hy,e}:=Hs ha;have k:=ug i y bn hy;rw[k,(@ax)]at e;rw[e,(n5,k)]
 |none=>
  have L:=avm hj;have P:∀(i y a:Nat),(C,o,y)->(C,@i6,a)->a=az (cx p y):=by intro i y a hy ha;let{B,O,e}:=Hs ha;rw[hy]at O;cases O;rw[e,L i y hy,(@ax)]
  have j_:n<=@bW:=(fr,@bY<=@bW,by
   have js:o⊆m:=by intro y hy;let{i,hi,rfl}:=lX hy;exact gA.1 (L i _ @ej)
   have cJ:o.Nodup:=@xi;exact@qF);have U:(j0 m p o).sum%2=@cR%2:=by
   have Z:(j0 m p o).sum=@mm:=by rw[G3];unfold j0;congr 1;rw[ak];intro y hy;let{i,hi,rfl}:=lX hy;rw[L i _ @ej,(@ax)]
   rw[Z,ahE hm d j_ G N];rcases yP.2 with z|z;.omega
   .omega
  let{m1,m2,m3}:=I _ eI eJ (λi y a hy ha _=>P i y a hy ha) U;refine{@i6,eI,eJ,@d,m1,m2,m3,@xS};refine(qt,0,(r,F q f,eI));let{y,hy,_}:=Hs ha;rw[E,a,b,(r,P i y a hy ha,(n5,L i y hy))];exact{u q i b hb,(cl,u q i b hb),λ_=>@g4,λ_=>e}
def ah3{r:Row}(H:@G){m:@o}(hm:m.Nodup)(d:@eH){p:Profile}(hp:@iX)(G:@bn)(aI:@jJ)(N:@eJ)(hc:@r7):aG n @iv/\bD @iv=o/\(cT,@iv)/\(hP,@iv,@iv)/\(nV,iK (fA @iv) (fA q)):=by
 rw[a6];.let{c,h2,e,h3,h4}:=avo H hn hm d hp aI N hc;rw[e];exact{Ez N c,RC r o c,ahv H hn N h2,h3,λq a1 M J I=>(d,h4 q a1 M J I,Ey _)}
 .let{s,Y,s2,e,Z,h2,h3,h4}:=avp H hn hm d hp N hc;rw[m2];let{w1,w2}:=RQ o s @e s2;rw[e];exact{Z,w1,h2,h3,λq a1 M J I=>(d,w2,h4 q a1 M J I)}
def avq{r:Row}{x:zy}(H:@G)(h0:0<n){m:@o}(hm:m.Nodup)(j_:(eA,m))(aI:m≠[])(d:@eH){l:@g2}(hl:(qV,l)):(l=[]->sM r x=@r)/\(@gc->(jz n m n 0 @aD l).1.Perm @aD/\(jz n m n 0 @aD l).2≠[]/\∀q,q∈@IT->(∀q'∈@IT,iK (fA q) (fA q'))->sM r x=some q/\@ap):=by
 have b:∀p,@bn->@jJ:=by intro p G e;subst e;exact aI G.names.symm
 have S:∀p,@bn->gm n 0 @aD p=x_ n 0 p:=by intro p G;rw[ahZ (b9 n)];congr 1;refine l4.2 @nu;have:u.1∈m:=(dt,G.names,u,hu);exact gA.2 (jm.2 (d _ this))
 have t:∀q,@ap->@dM->(e3,q)->@ek∈l:=by
  intro q J jv hh;have G:=Mp q m;refine(hl _).2 {G,(RN H G (b _ G)).2 ?_,?_,?_}
  .rw[a6];.exact ahw H J hn d jv
   .exact ahD H J hn hm d jv
  .rw[<-S _ G];exact RA J hm
  rw[s,Ry hm (λc hc=>@AT),hh]
 have hx:@rY:=λc hc=>d c @AT;rw[P,@c8,λg=>?_]
 .rcases RF H h0 hx with h|⟨q,_,J,jv,hh,_⟩;.exact h.1
  .have:=t q J jv hh;rw[bm];simp at this
 .rw[io,λp hp=>{((hl p).1 hp).1,(d,S p ((hl p).1 hp).1,((hl p).1 hp).2.2.1)},g];rw[ad,o1,o3,λq U uh=>?_];generalize jz n m n 0 @aD l=y at*;let{p,hp,rfl}:=bf.1 U;let{dF,j}:=(o2 p).1 hp;let{G,hr,_,ht}:=(hl p).1 dF;let{a,k,s,A,_}:=ah3 H hm d ((RN H G (b p G)).1 hr) G (b p G) o1 j;have hZ:(e3,iL r m y.1 p):=(G,avn a hm d G A (λc hc=>@AT),ht);rcases RF H h0 hx with⟨_,h⟩|⟨q,U,J,jv,hh,fG⟩;.rw[h _ a s]at hZ;cases hZ
  .rw[U];have o:=fG _ a s hZ;have v:=t q J jv hh;have f:=D @cZ _ (BW J) v @oI;have B:@cZ=y.1:=by have z:=o.1;rw[k]at z;exact Hr ((BW J).length_eq.trans o1.length_eq.symm) z f
   have M:@ek∈y.2:=(o2 _).2 {v,(G,B,@oI)};let{i,N,_,_}:=(hl _).1 v;let{w,I,F,E,C}:=ah3 H hm d ((RN H i (b _ i)).1 N) i (b _ i) o1 ((o2 _).1 M).2;have m1:=uh _ (iX,M);have m2:=C q J jv B @d;have X:∀Z,aG n Z->(fA Z).length=n:=λZ J=>by unfold fA;rw[au,J.len]
   have m3:=Mx m1 m2 (r,X _ a,X _ w) (r,X _ w,X _ J);have m4:=o.2 (r,B,k);have es:=Hr (r,X _ a,X _ J) m3 m4;rw[P,dg some (au1 (r,B,k) (avl es.symm)),a]
def nQ(n:Nat)(m:@o)(i:Nat)(left:@o)(l:@g2)(x:Nat):@g2:=l.filter (ij,@eb,@gJ,@mo)
def ah4{m:@o}(hm:m.Nodup){p:Profile}(G:@bn)(g h:@bv)(hg:∀c∈m,g c=h c):((m.filter g).map @vU)=(tf,(cZ,!@bw)):=by rw[E,m.filter g,(tf,@aA),by rw[<-G.names,Gq];congr 1;apply P9;intro x hx;exact hg x.1 (dt,G.names,x,hx)];rw[e,bC];rw[ak];intro x hx;show az (! cf p x.1)=az (!@bw);rw[Hj G hm (gR.1 hx).1]
def ah5{i:Nat}(hi:i<=n){m:@o}(hm:m.Nodup){p:Profile}(G:@bn)(g:@bv)(hg:∀c∈m,g c=left.contains c):(lH,@Lk,(m.filter g).length,@Lk)=@Bo:=by
 rw[ahZ hi];unfold x_;have e:=ah4 hm G g (λc=>left.contains c) hg;have M:(m.filter g).length=(p.filter @o1).length:=by have:=dg lz e;rwa[au,au]at this
 rw[e,M]
def RT{i:Nat}{m:@o}(hm:m.Nodup){p:Profile}(G:@bn):@CV=x_ n i p:=by unfold x_;have e:=ah4 hm G @eX @eX @cg;rw[(@fC),(@fC)]at e;have M:@bW=@d2:=(cw,G.names,au);rw[e,M]
def ah6:∀(l:@o)(k:Nat)(hk:k<@R),l.Nodup->l.eraseIdx k=l.filter λy=>y !=l[k]|[],k,hk,_=>absurd hk (Qc _)|a::l,0,_,h=>by have Z:=mJ.1 h;show l=(a::l).filter λy=>y !=a;rw[aff @v];refine(l4.2 @nn).symm;rw[P1];intro e;exact Z.1 (cg,hy)|a::l,k+1,hk,h=>by have Z:=mJ.1 h;have ia:k<@R:=@jB;show a::l.eraseIdx k=(a::l).filter λy=>y !=l[k];rw[afg (by rw[P1];intro e;exact Z.1 (cl,@h9)),ah6 l k ia Z.2]
def avr{i:Nat}{m:@o}(hm:m.Nodup){l:@g2}(cM:@zv)(hi:i<n)(hs:@sD)(hl:@EX)(aI:@gc):∃(k:Nat)(hk:@yV),@ug≠[]/\(td,(li,(@au)[j]'@e))/\(∀f,(rn,@gU::(jz n m f @A @rb @ug).1,@rb,@ug))/\@rb=(dL,@gU)/\(left.eraseIdx k).Pairwise @kH/\∀p∈@ug,@bn/\gm n @A @rb p=@h:=by
 rw[jA];let{L,u}:=KL _ aI;let{G0,F0}:=hl L u;let{M,r,d,q}:=ahq G0 hm cJ cM hi F0;have g:∃x,(lK,@IL)=some x:=by cases e:left.find? (λx=>!(nQ n m i left l x).isEmpty)with|some x=>rw[a_,x]|none=>have Z:=we.1 e M r;have h2:L∈(li,M):=gR.2 {u,(d,dJ,⟨d,q⟩)};exfalso;apply Z;rw[xM,<-KJ,DJ];intro h;rw[h]at h2;simp at h2
 let{x,hx}:=g;let{Z,k,hk,rfl,h2}:=List.find?_eq_some_iff_getElem.1 hx;have c:=ah6 @au k hk cJ;refine{k,hk,?_,?_,?_,c,?_,?_};.intro h;rw[h]at Z;simp at Z
 .intro j hj;have:=h2 j hj;simpa using this
 .intro f;rw[c];show(pj,@IL)=_;rw[hx];rfl
 rw[s,c,hs.sublist xN];.intro p hp;let{a,b}:=gR.1 hp;rw[dJ]at b;rw[c];exact⟨(hl p a).1,b.2⟩
def ah7:∀(o s:@o),@bY=@dc->(fM o s).map fK=o|[],[],_=>rfl|[],_::_,h=>@a5|_::_,[],h=>@a5|x::o,b::s,h=>(fs,x::(fM o s).map fK,ah7 o s @c7)
def RU{s:@o}(N:@eJ)(h:@uz):aG n @b4:=by have e:=ah7 o s h;rw[aP,(cl,N)];have:=dg lz e;rw[au]at this;rw[this,N.length_eq,gq]
def ah8{r:Row}{m:@o}{p:Profile}(N:@eJ):aG n @iv:=by
 unfold iL;have Z:(j0 m p o).length=@bY:=by unfold j0;rw[au]
 split;.exact RU N (by simp[x8])
 .split;.exact RU N (by unfold kL;rw[zw,Z])
  .exact RU N @pN
def iq(g:cV):cV:=(a2,@qo,@k0)
def kN(k:Nat)(s:cV):cV:=(br (max (min k @dc) (@dc-k))).map λp=>@IC
structure dZ(h w:Nat)(g:cV):@u where
 len:@eV=h
 wid:@Ll
def kO(g:cV)(i j:Nat):@kt:=(g.getD i []).getD j []
def gD{l:@as}{i:Nat}{d:α}(h:i<@R):@ul=l[i]:=(d8,bX h)
def rL{l:@as}{i:Nat}{d:α}(h:@R<=i):@ul=d:=(d8,ny h)
def dZ.row{h:Nat}{g:cV}(R:@bU){i:Nat}(hi:i<h):(g.getD i []).length=w:=(d,gD (aW,R.len),(eD,@h9))
def dZ.ext{h:Nat}{a b:cV}(A:dZ h w a)(B:dZ h w b)(e:∀i j,i<h->j<w->kO a i j=kO b i j):a=b:=by apply uC (r,A.len,B.len);intro i Z h2;have hi:i<h:=(G,A.len,Z);apply uC (r,A.wid _ (uF Z),B.wid _ (uF h2));intro j h3 h4;have hj:j<w:=(G,A.wid _ (uF Z),h3);have:=e i j hi hj;unfold kO at this;rw[gD Z,gD h2,gD h3,gD h4]at this;exact this
def dZ.head{h:Nat}{g:cV}(R:@bU)(h0:0<h):@qo=w:=by have:=R.row h0;cases g with|nil=>have:=R.len;simp at this;omega|cons r g=>exact this
def tw{h:Nat}{g:cV}(R:@bU)(h0:0<h):dZ w h @en:=by unfold iq;rw[(@kG)];rw[P,@v,@sJ];let{i,_,rfl}:=bf.1 hr;rw[au,R.len]
def B0{h:Nat}{g:cV}(R:@bU)(h0:0<h){i j:Nat}(hi:i<w)(hj:j<h):kO @en i j=kO g j i:=by unfold iq kO;rw[(@kG),gD (l:=(a2,w,@k0)) @hd,iI,o0,gD (l:=@k0) (bO,R.len,hj),iI,gD (l:=g) (d,R.len,hj)]
def RV{h:Nat}{g:cV}(R:@bU)(h0:0<h)(U:0<w):iq @en=g:=by rw[dh];refine dZ.ext (tw C U) R λi j hi hj=>?_;rw[B0 C U hi hj,B0 R h0 hj hi]
def ED{g:cV}(h:g≠[]):aP2 g=@en:=by cases g with|nil=>rw[a2,h]|cons r g=>rfl
def RW:∀a b:@cC,(sN a b).length=max @eU @bX|[],b=>@G3|p::r,[]=>by rw[sN,cX,RW r []];simp|p::r,q::l=>by rw[sN,cX,RW r l,cX,cX];omega
def RX:iS []=[]:=@d
def RY:∀(a b:@cC)(p:Nat),(sN a b).getD p []=iS (a.getD p [])++b.getD p []|[],b,p=>by cases b<;>simp[sN,RX]|x::r,[],0=>by simp[sN]|x::r,[],p+1=>by have:=RY r [] p;rw[sN,KQ,this,KQ];simp|x::r,y::l,0=>by simp[sN]|x::r,y::l,p+1=>by have:=RY r l p;rw[sN,KQ,this,KQ,KQ]
def avs(k:Nat)(l:@cC):(DN k l).length=max (min k @R) (@R-k):=by unfold DN;rw[RW,jU,eD,ik]
def ah9(d:α)(l:@as){k p:Nat}(hk:k<=@R):(l.take k).reverse.getD p d=if p<k then l.getD (k-1-p) d else d:=by
 by_cases h:p<k;.rw[ai h,gD @aS,gD (v,(cD,k-1-p)),asM,asx];congr 1;simp;omega
 .rw[af h,rL @aS]
def avt(d:α)(l:@as)(k p:Nat):(l.drop k).getD p d=l.getD (k+p) d:=(aA,dy,KH,dy)
def avu{k:Nat}{l:@cC}(hk:k<=@R)(p:Nat):(DN k l).getD p []=iS (if p<k then l.getD (k-1-p) []else[])++l.getD (k+p) []:=by unfold DN;rw[RY,ah9 [] l hk,avt]
def EE{h k:Nat}{g:cV}(R:@bU)(hk:k<=w):dZ h @d1 (g.map (DN k)):=by rw[P,(r,au,R.len),@sJ];rw[aZ,hr];rw[avs,R.wid x hx,wv hk]
def ah_{f:@cC->@cC}{h:Nat}{g:cV}(R:@bU){i j:Nat}(hi:i<h):kO @fO i j=(f (g.getD i [])).getD j []:=by unfold kO;rw[gD (l:=@fO) (bO,R.len,hi),iI,gD (l:=g) (aW,R.len)]
def wN{h k:Nat}{s:cV}(R:dZ w h s)(U:0<w)(hk:k<=w):dZ @d1 h (kN k s):=by
 unfold kN;rw[R.len,wv hk];rw[P,@v,@sJ];let{p,hp,rfl}:=bf.1 hr;have Fq:((s.headD []).map @u8).length=h:=(r,au,R.head U);rw[aP3];have Z:(((s.take k).reverse.map @ky).getD p @wL).length=h:=by
  rcases dH p ((s.take k).reverse.map λl=>l.map iS).length with z|z;.rw[gD z,iI,au];exact(eD,Bm (Bn.1 @h9))
  .rw[rL z,Fq]
 have h2:((s.drop k).getD p @wL).length=h:=by rcases dH p (s.drop k).length with z|z;rw[s,gD z,(eD,afh @h9)];.rw[rL z,Fq]
 rw[Z,h2,Nat.min_self]
def aia(l:@cC)(i:Nat):(l.map @u8).getD i []=[]:=by
 rcases dH i l.length with z|z;.rw[gD @rp,iI]
 .rw[rL @rp]
def avv(l:@cC)(i:Nat):(l.map iS).getD i []=iS (l.getD i []):=by
 rcases dH i l.length with z|z;.rw[gD @rp,iI,gD z]
 .rw[rL @rp,rL z,RX]
def avw{h k:Nat}{s:cV}(R:dZ w h s)(U:0<w)(hk:k<=w){p i:Nat}(hp:p<@d1)(hi:i<h):kO (kN k s) p i=iS (if p<k then kO s (k-1-p) i else[])++kO s (k+p) i:=by
 have hr:=(wN R U hk).row hp;unfold kO;rw[gD (l:=(kN k s).getD p []) (aW,hr)];rw[E,(kN k s).getD p [],@IC,by unfold kN;rw[gD @yI,iI,o0]];simp only[e,List.getElem_zipWith];rw[<-gD (d:=[]),<-gD (d:=[])];congr 1
 .rcases dH p k with z|z;.rw[ai z,gD (l:=@Lm) @yI,iI,avv,<-gD (l:=(s.take k).reverse) (d:=[]),ah9 [] s (d,R.len,hk),ai z]
  .rw[(@bd),rL (l:=@Lm) @yI,aia,RX]
 .rcases dH p (s.drop k).length with z|z;.rw[gD (l:=s.drop k) z,asw,<-gD (l:=s) (d:=[])]
  rw[aL,rL (l:=s.drop k) z,aia,rL (l:=s) (by rw[ik]at z;omega)]
def RZ{h k:Nat}{g:cV}(R:@bU)(h0:0<h)(U:0<w)(hk:k<=w):kN k @en=iq (g.map (DN k)):=by
 rw[dh];have M:=EE R hk;refine dZ.ext (wN C U hk) (tw M h0) λp i hp hi=>?_;rw[avw C U hk hp hi,B0 M h0 hp hi,ah_ R hi,avu (d,R.row hi,hk)];congr 1;.rcases dH p k with z|z;rw[aL,ai z,ai z,B0 R h0 @e hi];.rw[(@bd),(@bd)]
 .rcases dH (k+p) w with z|z;.rw[B0 R h0 z hi];rfl
  .unfold kO;rw[rL (l:=@en) (d,C.len,z),rL (l:=g.getD i []) (d,R.row hi,z)];rfl
def uV{h:Nat}{g:cV}(R:@bU):dZ h w @p0:={(r,jU,R.len),λr hr=>R.wid r (Bn.1 hr)}
def avx{h:Nat}{g:cV}(R:@bU){i j:Nat}(hi:i<h):kO @p0 i j=kO g (h-1-i) j:=by unfold kO;congr 1;rw[gD (ai,jU,R.len,hi),gD (hs,h-1-i<@eV,R.len),asM];congr 1;rw[R.len]
def Mz{h:Nat}{g:cV}(R:@bU):dZ h w (g.map asN):=by rw[P,(r,au,R.len),@sJ];rw[aZ,hr];rw[jU,R.wid x hx]
def aib{h:Nat}{g:cV}(R:@bU)(h0:0<h):@Dt=iq (g.map asN):=by rw[dh];have M:=Mz R;refine dZ.ext (uV C) (tw M h0) λi j hi hj=>?_;rw[avx C hi,B0 R h0 @e hj,B0 M h0 hi hj,ah_ R hj];unfold kO;have hl:=R.row hj;rw[gD (v,w-1-i<(g.getD j []).length),gD (hs,i<(g.getD j []).reverse.length,jU),asM];congr 1;omega
def aic{h k:Nat}{g:cV}(R:@bU)(h0:0<h)(U:0<w)(hk:k<=w):@Ad=iq (g.map (afi k)):=by have M:=Mz R;rw[aib R h0,RZ M h0 U hk,aib (EE M hk) h0,bC,bC];rfl
def R_{h k:Nat}{g:cV}(R:@bU)(hk:k<=w):dZ h @d1 (g.map (afi k)):=by have:=Mz (EE (Mz R) hk);rw[bC,bC]at this;exact this
def rM(g:cV)(d k:Nat):cV:=if d<=1 then iq (if d%2=0 then kN k @en else@Ad)else if d%2=0 then kN k g else(kN k @p0).reverse
def aid{h k:Nat}{g:cV}(R:@bU)(h0:0<h)(U:0<w)(hd:d<=3)(l:1<=k)(hk:@tn):Bw g d k=some @pi/\∃h' w',0<h'/\0<w'/\dZ h' w' @pi:=by
 rw[hF];rw[ns];unfold Bw rM;dsimp only;rw[i,R.len];rw[af @DT];rw[dh];by_cases Z:d<=1
 .rw[ai Z]at hk;have M:=EE R (v,k<=w);have L:=R_ R (v,k<=w);have hm:0<@d1:=@e;rw[ai Z];by_cases h2:d=0;.rw[ai h2,(@h8),RZ R h0 U @e,RV M h0 hm];exact{@d,h,_,h0,hm,M}
  .have h3:d=1:=@e;rw[(@fb),ai h3,(@bd),aic R h0 U @e,RV L h0 hm];exact{@d,h,_,h0,hm,L}
 .rw[(@cl)]at hk;have hm:0<max k (h-k):=@e;have tg:aP2 g=@en:=ED a;rw[jN];have M:=EE C @u3;have L:=R_ C @u3;have cc:=RV R h0 U;rw[af (v,¬d=0),af (v,¬d=1),(@cl)];by_cases h2:d=2;.rw[ai h2,(@h8),tg,(@uX),<-RZ C U h0 @e,cc];exact{@d,_,w,hm,U,wN R h0 @e}
  .rw[(@fb),(@bd),tg,(@uX),<-aic C U h0 @e,cc];exact{@d,_,w,hm,U,uV (wN (uV R) h0 @e)}
def rN(g:cV):@o:=g.flatten.flatten.map fK
def aie(p:@kt):((iS p).map fK).Perm (p.map fK):=by unfold iS;rw[bC];have:(fK∘λc=>KE c @h)=fK:=rfl;rw[aN,KR];exact afk _
def Sa:∀a b:@cC,((sN a b).flatten.map fK).Perm (a.flatten.map fK++b.flatten.map fK)|[],b=>@G3|p::r,[]=>by have ih:=Sa r [];rw[sN,sO,bh,sO,bh,eM];exact(aie p).append ih|p::r,q::l=>by have ih:=Sa r l;rw[sN,sO,bh,bh,sO,bh,sO,bh];have Z:=((aie p).append_right (q.map fK)).append ih;refine Z.trans ?_;rw[eM,eM];refine aTJ _ ?_;rw[<-eM,<-eM];exact aP4 _ asD
def Sb(k:Nat)(l:@cC):((DN k l).flatten.map fK).Perm @xT:=by unfold DN;refine(Sa _ _).trans ?_;have Z:((l.take k).reverse.flatten.map fK).Perm ((l.take k).flatten.map fK):=@Ln;refine(Z.append_right _).trans ?_;rw[<-bh,<-afl,DF]
def aif(k:Nat)(l:@cC):((afi k l).flatten.map fK).Perm @xT:=by unfold afi;refine(((afk _).flatten).map _).trans ((Sb k _).trans ?_);exact@Ln
def Ht{f:@cC->@cC}(hf:∀l,((f l).flatten.map fK).Perm @xT):∀g:cV,(l4,@fO)|[]=>.refl _|r::g=>by have ih:=Ht hf g;unfold rN at ih⊢;rw[cb,sO,afl,bh,sO,afl,bh];exact(hf r).append ih
def aig{α:@az}(f:Nat->α)(t:Nat->@as):(d4,(l.flatMap λi=>f i::t i).Perm (@q8++l.flatMap t))|[]=>.refl _|a::l=>by have ih:=aig f t l;rw[Bq,cb,Bq,KS,KS];refine aTK _ ?_;refine(ih.append_left _).trans ?_;rw[<-eM,<-eM];exact aP4 _ asD
def aih{w:Nat}:∀g:cV,@Ll->((br w).flatMap λi=>@k0).Perm g.flatten
 |[],_=>by
  have:(jE,w,([]:cV).map λr=>@v1)=[]:=by induction br w with|nil=>rfl|cons a l ih=>rw[Bq,ih];rfl
  rw[aa];exact .refl _
 |r::g,h=>by have ih:=aih g @K4;have hr:=h r @v;rw[E,(a2,w,@v1),r,by apply uC (by simp[hr]);intro i Z h2;rw[iI,o0,gD h2]];have:=aig (λi=>@v1) (λi=>@k0) (br w);rw[bm];rw[sO];exact this.trans (ih.append_left r)
def MA{h:Nat}{g:cV}(R:@bU)(h0:0<h):(l4,@en):=by unfold rN iq;rw[(@kG)];have:=aih g R.wid;rw[List.flatMap_def]at this;exact(this.flatten).map _
def avy{h k:Nat}{g:cV}(R:@bU)(h0:0<h)(U:0<w)(hd:d<=3)(l:1<=k)(hk:@tn):(l4,@pi):=by
 have o:=(aid R h0 U hd l hk).1;rw[hF];rw[ns];unfold Bw at o;dsimp only at o;rw[i,R.len,af @DT,ED a]at o;rw[dh];rw[jN];by_cases Z:d=0;.rw[ai Z]at o;rw[<-bZ o];exact Ht (Sb k) g
 .rw[(@cl)]at o;by_cases h2:d=1;.rw[ai h2]at o;rw[<-bZ o];exact Ht (aif k) g
  .rw[(@fb)]at o;rw[(@bd)]at hk;by_cases h3:d=2;.rw[ai h3,(@uX)]at o;rw[<-bZ o];exact(tg,EE C @u3,Sb k)
   .rw[af h3,(@uX)]at o;rw[<-bZ o];exact(tg,R_ C @u3,aif k)
def oI:@J->@Be|a::b::r=>(a,b)::oI r|_=>[]
def tD(g:cV)(a b:Int):@an:=decide @Al&&decide (1<=b/\b<@CI)
def qt:cV->@Be->Option cV|g,[]=>some g|g,x::l=>(L,tD g x.1 x.2,qt (rM g x.1.toNat x.2.toNat) l,@r)
structure GoodG(n:Nat)(g:cV):@u where
 rect:∃h w,0<h/\0<w/\@bU
 nos:(rN g).Perm @aD
def Hu{h:Nat}{g:cV}(R:@bU)(h0:0<h){a b:Int}:@oA=@h↔0<=a/\0<=b/\@hV<=3/\1<=@kA/\@kA<if@hV<=1 then w else h:=by
 unfold tD;rw[dJ,bU,bU,(@kG),R.len];by_cases Z:a<=1;.rw[aG,Z,@e];omega
 .rw[af Z];by_cases h2:@hV<=1;.omega
  .rw[af h2];omega
def avz{h:Nat}{g:cV}(R:@bU)(h0:0<h){k:Nat}(hn:¬(d<=3/\1<=k/\@tn)):Bw g d k=@r:=by
 unfold Bw;dsimp only;rw[hF];rw[i,R.len,ai];by_cases Z:3<d;rw[Q,Z]
 .by_cases h2:k=0;rw[ac,.inl h2]
  .right;right;by_cases h3:d<=1;.rw[ai h3]at hn⊢;omega
   .rw[af h3]at hn⊢;omega
def Sc{g:cV}(G:@ob){a b:Int}(h:@oA=@h):GoodG n @BF/\Bw g @hV @kA=some @BF:=by let{{h',w,h0,U,R},P}:=G;let{_,_,C,c4,c5}:=(Hu R h0).1 h;let{o1,o2}:=aid R h0 U C c4 c5;exact{{o2,(avy R h0 U C c4 c5).trans P},o1}
def aii{n:Nat}:∀(l:@Be){g g':cV},@ob->qt g l=some g'->GoodG n g'
 |[],g,g',G,h=>by cases h;exact G
 |x::l,g,g',G,h=>by
  rw[qt]at h;by_cases hx:tD g x.1 x.2=@h;.rw[a0,hx];exact aii l (Sc G hx).1 h
  rw[ew,hx]
def aij{n:Nat}:∀(l:@J){g:cV},@ob->(mX,KU l)=(H,@R%2,1,@r,qt g (oI l))
 |[],g,G=>rfl
 |[a],g,G=>rfl
 |a::b::r,g,G=>by
  have hl:@uW%2=r.length%2:=(c9,cX,cX);rw[hl];show(mX,KU (a::b::r))=(H,r.length%2,1,@r,(L,@oA,qt @BF (oI r),@r));unfold KU;let{h',w,h0,U,R}:=G.rect;by_cases d:0<=a/\0<=b
  .rw[ai d];by_cases hx:@oA=@h;.let{i,hf}:=Sc G hx;have ih:=aij r i;rw[ai hx,<-ih];cases e:KU r with|none=>rfl|some f=>rw[l4]
   .rw[af hx];have hf:Bw g @hV @kA=@r:=avz R h0 (λz=>hx ((Hu R h0).2 ⟨d.1,d.2,z⟩));have:(mX,(KU r).map (λl=>(@hV,@kA)::l))=@r:=by cases KU r with|none=>rfl|some f=>rw[l4]
    rw[aa];split<;>rfl
  .rw[af d];have hx:¬@oA=@h:=λz=>d ⟨((Hu R h0).1 z).1,((Hu R h0).1 z).2.1⟩;rw[af hx];show(@r:Option cV)=_;split<;>rfl
def MB(w:Nat):∀(h:Nat)(r:Row),(qi w h r).length=h|0,_=>rfl|h+1,r=>(aA,qi,cX,MB w h)
def aik(w:Nat):∀(h:Nat)(r:Row)(i:Nat),i<h->(qi w h r).getD i []=@z6|0,_,i,hi=>@e|h+1,r,0,_=>by simp[qi]|h+1,r,i+1,hi=>by rw[qi,KQ,aik w h _ i @e,Gr];congr 3;rw[KW];omega
def Se(w h:Nat)(r:Row):@t4=(a2,h,@z6):=by apply uC (aX,MB);intro i Z h2;have hi:i<h:=@rn;rw[<-gD (d:=[]),aik w h r i hi,iI,o0]
def ail(w:Nat):∀(h:Nat)(r:Row),r.length=h*w->((qi w h r).flatten.flatten)=r
 |0,r,hr=>by have:r=[]:=o5.1 (by simpa using hr);subst this;rfl
 |h+1,r,hr=>by
  rw[qi,sO,afl,ail w h _ (by rw[ik,hr,KW];omega)];have:((r.take w).map λc=>[c]).flatten=r.take w:=by induction r.take w with|nil=>rfl|cons a l ih=>rw[cb,sO,ih];rfl
  rw[aN,DF]
def avA{h:Nat}{r:Row}(H:@G)(h0:0<h)(U:0<w)(hn:h*w=n):GoodG n @t4:=by
 rw[ae,{h,w,h0,U,MB w h r,@gW}];.rw[Se]at hx;rw[fG];have g:=@jo;rw[au,eD,ik,H.len,<-hn];have:@A*w<=h*w:=DL w g;rw[KW]at this;omega
 .unfold rN;rw[ail w h r (r,H.len,hn)];exact@pJ
def avB(G:GoodG n [[q]]):@ap:=by have:=G.nos;unfold rN at this;simp at this;exact{by rw[<-au (f:=fK),this.length_eq,gq],this}
def avC{g:cV}(G:@ob):∀r∈g,∀p∈r,@d2<=n:=by
 intro r hr p hp;have Z:(rN g).length=n:=(r,G.nos.length_eq,gq);unfold rN at Z;rw[au]at Z;have h2:@d2<=g.flatten.flatten.length:=by have b7:p∈g.flatten:=List.mem_flatten.2 ⟨r,hr,hp⟩;exact(List.sublist_flatten_of_mem b7).length_le
 omega
def B1(w:Nat)(r:Row):@o:=(ov,@sq)
def avD{r:Row}(H:@G)(w:Nat):(B1 w r).Perm (Qg w r)/\@HG:=by
 have key:(qu,r,j):=by intro j c hc;let{hj,e}:=fk.1 hc;subst e;exact{LR H hj,Er H hj}
 have hs:@HG:=by unfold Qg;rw[rD H];exact(Hl n).sublist xN
 rw[aP,hs];have par:∀a b c:Nat,∀u v:@an,((a+b+az u+az v)%2==0)=((az u+a+b)%2==az v):=by intro a b c u v;rw[aD];rw[eW,eW];have:=g v;omega
 rw[ah,B1 w r,(r.map fK).filter λno=>@Db,by
  unfold B1;rw[Gq];have Z:∀(l:@kt)(k:Nat),(qu,l,k+j)->((l.zipIdx k).filter λx=>@so).map @sq=(l.filter ((λno=>@Db)∘fK)).map fK:=by
   intro l;induction l with
   |nil=>intro k _;rfl
   |cons c l ih=>
    intro k hk;have f:=ih @aV λj d hd=>by have:=hk @aj d hd;exact{@e,@tk}
    have h0:=hk 0 c @d;rw[asF,kf,kf];have:((k/w+k%w+az @ce+@p1)%2==0)=((λno=>@Db)∘fK) c:=by simp only[DC];rw[h0.1,h0.2,KP];exact par _ _ 0 _ _
    dsimp only;rw[aa];split;.rw[cb,cb,f]
    .exact f
  exact Z r 0 λj c hc=>(d,oz,key j c hc)];rw[e1];unfold Qg;rw[rD H];exact H.nos.filter _ where g(b:Bool):@b1<2:=@s7
def restOf:@aZ->Nat->ax->ax|[],_,h=>h|l::r,i,h=>match l.find? (fO,@bK)with|none=>h|some x=>restOf r @A @i3
structure g8(n:Nat)(S:@Q)(U:@aZ):@u where
 len:@mw=n
 hand:(iT,bH n x.2)
 fix:(iT,(dN,x.2))
 img:∀i x,i<n->@iU->bY x.2 x.1=@af
 lt:(iT,x.1.1<n)
 gen:(iT,(a8,x.2))
 one:∀i,i<n->(@af,@ai)∈@gF
 nodup:∀i,i<n->((U.getD i []).map @aA).Nodup
def aim(T:@bC){i:Nat}(hi:i<n):U.drop i=@gF::U.drop @A:=by have h:i<@mw:=(aW,T.len);rw[v_ h,dy,bX h];rfl
def MC(T:@bC):U.drop n=[]:=wb (d,T.len,@L)
def EF(T:@bC){i:Nat}(hi:i<n)(h:ax):@fm=match(U.getD i []).find? (fO,@bK)with|none=>h|some x=>restOf (U.drop @A) @A @i3:=(r,aim T hi,restOf)
def ain{l:dw}(hd:(l.map @aA).Nodup){x}(hx:x∈l):l.find? (λz=>z.1==x.1)=some x:=by
 induction l with
 |nil=>simp at hx
 |cons a l ih=>
  rw[cb,mJ]at hd;rw[o7];rcases de.1 hx with e|e;.subst e;simp
  .have:(bS,a.1,x.1):=by rw[q_];intro z;exact hd.1 (d,z,(a0,x,e))
   rw[aa];exact ih hd.2 e
def aio(T:@bC){i:Nat}(hi:i<n){h:ax}(hf:@bK=@af):(U.getD i []).find? (fO,@bK)=some (@af,@ai):=(d,hf,ain @ot @sg)
def B2(T:@bC){i:Nat}(hi:i<n){h:ax}(H:@aB)(hf:@eq){x}(hx:@iU)(e:x.1=@bK):bH n @i3/\fR @i3 @A=@h/\h=aK @hF @i3:=by
 rw[d6];rw[ab,jl X H,?_]
 .rw[kK];intro j hj;rw[nF @hh];by_cases t:j=i;.subst t;rw[<-e];exact T.img j x hi hx
  rw[aj,kK.1 hf j @e,nG,kK.1 (T.fix i x hi hx) j @e]
 .rw[ki X.len H,uS X,jJ]
def Sg(n:Nat)(U:@aZ)(i:Nat)(h:ax):@u:=@aB/\@eq/\@fm=@ai
def qu(T:@bC){i:Nat}(hi:i<n){h:ax}:@jW↔@aB/\@eq/\∃x∈@gF,x.1=@bK/\Sg n U @A @i3:=by
 constructor;.rintro⟨H,hf,hr⟩;rw[ab,H,hf];rw[EF T hi]at hr;cases e:(U.getD i []).find? λx=>x.1==at_ h i with|none=>rw[e]at hr;have N:h=@ai:=hr;have:=aio T hi (h:=h) (r,N,rC);rw[this]at e;cases e|some x=>rw[e]at hr;have hx:=zq e;rw[gJ];rw[fI];exact⟨x,hx,L,a,b,hr⟩
 .rintro⟨H,hf,x,hx,L,_,_,hr⟩;rw[ab,H,hf];rw[EF T hi,<-L,ain @ot hx];exact hr
def zX(T:@bC){h:ax}:Sg n U n h↔h=@ai:=by
 constructor;.rintro⟨H,hf,_⟩;exact@oN
 .rintro rfl;exact{mS n,En n n,(O,MC T)}
def MD{n:Nat}{S:@Q}{U:@aZ}(T:@bC):∀k i,i+k=n->(eZ,@ai)|0,i,h=>(nb,T,@d)|k+1,i,h=>by rw[bO];refine(f3,T,{mS n,En n i,_,@sg,(rC n i).symm,?_});rw[jJ];exact MD T k @A @e
def Sf{n:Nat}{S:@Q}{U:@aZ}(T:@bC){h:ax}:∀(i:Nat),i<=n->@eq->@ip=@fm|0,_,_=>(aF,mM)|i+1,hi,hf=>by have Jw:=Em (Gs i) hf;rw[Sf T i @e Jw,EF T @e,aio T @e (hB,hf)];show restOf (U.drop @A) @A (aK @ai h)=_;rw[jJ]
def aip(T:@bC){i:Nat}(hi:i<=n){h:ax}(s:Sg n U 0 h)(hf:@eq):@jW:=by rw[ab,s.1,hf];rw[<-Sf T i hi hf];have:=s.2.2;rwa[mM]at this
def ME(h:ax):fR h 0=@h:=@yB
def avE(T:@bC){i:Nat}(hi:i<=n){h:ax}(s:@jW):Sg n U 0 h:=by rw[ab,s.1,ME h];rw[mM,Sf T i hi s.2.1];exact s.2.2
def MF(T:@bC){i:Nat}(hi:i<n){x}(hx:@iU):(eZ,@hF):=by
 rw[d6];have hf:=@EV;refine(f3,T,{oF X,hf,x,hx,?_,?_});.have e:=T.img i x hi hx;rw[lX];rw[e,nG]at Z;exact@pN
 rw[s,QS X,MD T (n-@A) @A @e]
structure MG(n:Nat)(U:@aZ)(F:@Q):@u where
 found:@EF
 two:∀a b,a∈F->b∈F->Sg n U 0 @dx
def aiq{n:Nat}{S:@Q}{U:@aZ}{F:@Q}(T:@bC)(C:MG n U F):∀k i,i+k=n->∀g h,(eZ,g)->@jW->(eZ,aK g h)
 |0,i,hk,g,h,hg,hh=>by rw[az,i=n];subst this;rw[(zX T).1 hg,jJ];exact hh
 |k+1,i,hk,g,h,hg,hh=>by
  rw[bO];have A:=λa b ha hb=>aiq T C k @A @e a b ha hb;have two:∀j x y,i<=j->j<n->x∈(eT,j)->y∈@gF->(eZ,@uA):=by intro j x y E hj hx hy;have c:=MF T hj hx;have d:=MF T hi hy;have D:=Em E c.2.1;have q:(dN,@uA):=LD d.1.len @e D d.2.1;rcases C.found j x hj hx with e|e;rw[aj,e,jJ,d];.rcases C.found i y hi hy with e2|e2;rw[aj,e2,uR c.1.len,aip T @e (avE T @e c) D];.exact aip T @e (C.two _ _ e e2) q
  have one:∀j x,i<=j->j<n->x∈(eT,j)->∀h,@jW->(eZ,@e_):=by
   intro j x E hj hx h hh;let{H,hf,y,hy,m,st}:=(ll,hh);let{_,_,l}:=B2 T hi H hf hy m;have c:=MF T hj hx;have D:=Em E c.2.1;have Y:=T.hand i y hi hy;have pZ:=two j x y E hj hx hy;let{W,wf,z,hz,f,o}:=(ll,pZ);rw[ah,@e_,aK @uA (aK y.2 h),by
    conv=>lhs;rw[l]
    exact ki (oF Y).len st.1];rw[ag,at_ @e_ i,at_ @uA i,by rw[e1,nF (aW,st.1.len),(hB,st.2.1),nG]];refine(f3,T,{jl c.1 H,LD H.len @e D hf,z,hz,(r,f,e2),?_});rw[e1,ki W.len st.1];exact A _ _ o st
  have all:∀k' j,j+k'=n->i<=j->∀g,Sg n U j g->∀h,@jW->(eZ,aK g h):=by intro k';induction k' with|zero=>intro j hj E g hg h hh;rw[az,j=n];subst this;rw[(zX T).1 hg,jJ];exact hh|succ k' ih=>intro j hj E g hg h hh;let{G,p,x,hx,L,st}:=(qu T (v,j<n)).1 hg;let{_,_,l}:=B2 T (v,j<n) G p hx L;have:=one j x E @e hx _ (ih @aj @e @e _ st h hh);rw[ki st.1.len hh.1]at this;rw[l];exact this
  exact all (n-i) i @e @L g hg h hh
def air{n:Nat}{S:@Q}{U:@aZ}(v:@aI)(T:@bC):(jL,@jW->@cw)|0,i,hk,h,s=>by rw[az,i=n];subst this;rw[(zX T).1 s];exact@gw|k+1,i,hk,h,s=>by rw[bO];rw[gM];rw[iO];rw[l];exact(hb,Gen.back v (T.gen i x hi hx),air v T k @A @e _ st)
def ais(v:@aI)(T:@bC)(C:MG n U F)(hS:∀g∈S,Sg n U 0 g)(h:ax):Sg n U 0 h↔@cw:=by
 constructor;.exact air v T n 0 @e h
 .intro hg;rw[fh,MD T n 0 @e,aiq T C n 0 @e _ _ (hS _ hm) ih]
def ya(n:Nat)(U:@aZ):Nat->@Q|0=>[@ai]|k+1=>(U.getD @cE []).flatMap @De
def ait{n:Nat}{S:@Q}{U:@aZ}(T:@bC):∀k,@b2->(ya n U k).Nodup/\∀h,h∈ya n U k↔Sg n U (n-k) h
 |0,_=>by rw[P,by simp[ya],@b_];rw[Gf,zX T];simp[ya]
 |k+1,hk=>by
  let{e,c}:=ait T k @e;rw[cg,@cE<n];rw[ah,n-k,@cE+1,@e];rw[e1]at c;show((U.getD @cE []).flatMap @De).Nodup/\∀h,h∈(U.getD @cE []).flatMap @De↔Sg n U @cE h;generalize@cE=i at hi c⊢
  .have img:∀{x h},@iU->Sg n U @A h->at_ @e_ i=x.1:=by intro x h hx hh;rw[nF (aW,hh.1.len),(hB,hh.2.1),nG];let{_,_,y,hy,m,_}:=(ll,MF T hi hx);rw[d6];rw[lX];rw[T.img i x hi hx,nG]at Z;exact Z
   constructor
   .rw[oy,asq];constructor;.intro x hx;rw[xI];refine aeW ?_ e;intro a b ha hb d he;exact d (agx (oF (T.hand i x hi hx)) ((c a).1 ha).1 ((c b).1 hb).1 he)
    .have hn:=@ot;rw[oy,xI]at hn;refine aeW ?_ hn;intro x y hx hy f a ha b hb he;let{J,I,rfl}:=bf.1 ha;let{b',G,rfl}:=bf.1 hb;apply f;rw[lJ]
   .intro h;rw[jT];constructor;.rintro⟨x,hx,hm⟩;rw[d0,hm];have sa:=(c a).1 ha;rw[d6];refine(f3,T,{jl (oF X) sa.1,LD sa.1.len @e @EV (Em @e sa.2.1),x,hx,(img hx sa).symm,?_});rw[ki (oF X).len sa.1,QS X,jJ];exact sa
    .intro s;rw[gM];rw[iO];exact{x,hx,bf.2 {_,(c _).2 st,l.symm}}
def aiu{n:Nat}{S:@Q}{U:@aZ}(T:@bC):∀k,@b2->(ya n U k).length=(U.drop (n-k)).foldr @AK 1|0,_=>(ab,Gf,MC T)|k+1,hk=>by rw[aim T (v,@cE<n),asr,(v,@cE+1=n-k),<-aiu T k @e];simp only[ya,aeX,au];generalize(eT,@cE)=R;rw[jB]
def avF(hn:n<=8)(v:@aI)(T:@bC)(C:MG n U F)(hS:∀g∈S,Sg n U 0 g):ass (ke n @j4)=U.foldl @uT 1:=by let{e1,e2}:=ait T n @L;rw[Gh]at e2;rw[auu hn v e1 (λh=>(r,e2 h,ais v T C hS)),aiu T n @L,Gh,mM,agz,aeY]
def cj(h:ax):Nat:=(br @bq).findIdx @uS
def MH(h:ax):cj h<=@bq:=by unfold cj;have:=asE (xs:=br @bq) (p:=@uS);rwa[lu]at this
def Sh(h:ax):fR h (cj h)=@h:=by rw[kK];intro j hj;have hl:=MH h;have:=aP5 (xs:=br @bq) (p:=@uS) hj;simpa using this
def Si{h:ax}(bn:cj h<@bq):at_ h (cj h)≠(db,cj h):=by have j:(br @bq).findIdx @uS<(br @bq).length:=(d,lu,bn);have:=aP0 (w:=j);rw[o0]at this;have h2:(at_ h (cj h)!=(db,cj h))=@h:=this;simpa using h2
def Sj{h:ax}(H:@aB):cj h=n↔h=@ai:=by
 constructor;.intro e;have:=Sh h;rw[bm];exact zK H this
 .rintro rfl;have hl:=MH @ai;rw[ph]at hl;rcases dH (cj (same n)) n with z|z;rw[ai,rC n _,Si (d,ph,z)];.omega
def Sk{h:ax}{j:Nat}(hf:fR h j=@h)(hj:j<@bq)(aI:at_ h j≠@fR):cj h=j:=by
 have Z:=MH h;rcases Bi (cj h) j with z|z|z;rw[ai,kK.1 hf _ z,Si @e];.exact z
 rw[ai,kK.1 (Sh h) j z,aI]
def aiv{n:Nat}{S:@Q}{U:@aZ}(v:@aI)(T:@bC):(jL,@aB->@eq->@cw->bH n @fm/\(a8,@fm)/\(@fm=@ai\/(i<=cj @fm/\cj @fm<n/\∀x∈(eT,cj @fm),x.1≠at_ @fm (cj @fm))))|0,i,hk,h,H,hf,hg=>(ow,MC T,{H,hg,.inl @oN})|k+1,i,hk,h,H,hf,hg=>by rw[bO];rw[EF T hi];cases e:(U.getD i []).find? λx=>x.1==at_ h i with|none=>dsimp only;rw[l8];rw[lC];have c:=Sk hf @lm aI;rw[ad,H,hg,.inr ?_];rw[c];exact{@L,hi,ck}|some x=>dsimp only;have hx:=zq e;rw[gJ];rw[fI];let{G,r2,D}:=aiv v T k @A @e _ a b (hb,T.gen i x hi hx,hg);rw[ab,G,r2];rcases D with D|⟨D,q,r5⟩;rw[Q,D];rw[ac,{@e,q,r5}]
def mi(U:@aZ)(z:ax):@aZ:=U.set (cj z) ((eT,cj z)++[(@oq,back z)])
def zY(T:@bC)(hz:cj z<n)(i:Nat):(mi U z).getD i []=(H,i,cj z,@gF++[(@oq,back z)],@gF):=by
 unfold mi;rw[dy,ae0];by_cases h:cj z=i;.rw[ai h,ai (gc,T.len),ai h.symm,h];rfl
 .rw[af h,(fk,h @l7),dy]
def avG(v:@aI)(T:@bC)(Z:bH n z)(j:(a8,z))(hz:cj z<n)(ck:∀x∈(eT,cj z),x.1≠@oq):@yW:=by
 have c:∀i x,@Iz->@iU\/(i=cj z/\x=(@oq,back z)):=by
  intro i x hx;rw[(@oh)]at hx;split at hx;.next h=>rcases bz.1 hx with q|q;rw[Q,q];rw[ac,{h,cz.1 q}]
  rw[Q,hx]
 have old:∀i x,@iU->@Iz:=by
  intro i x hx;rw[(@oh)];split;.exact(aR,hx)
  .exact hx
 refine{by unfold mi;rw[zw,T.len],?_,?_,?_,?_,?_,λi hi=>old i _ @sg,?_};rw[g4,T.hand i x hi q,oF Z]
 .intro i x hi hx;rcases c i x hx with q|⟨O,q⟩;.exact T.fix i x hi q
  rw[aj,q,O,LF Z @e (Sh z)]
 .intro i x hi hx;rcases c i x hx with q|⟨O,q⟩;.exact T.img i x hi q
  .rw[q,O];show bY (back z) @oq=_;rw[<-nG z,<-uQ (gc,Z.len),uS Z,wF]
 rw[g4,T.lt i x hi q,Z.lt _ hz];rw[g4,T.gen i x hi q,Gen.back v j]
 .intro i hi;rw[(@oh)];split
  .next h=>
    rw[bh,Du];rw[ab,@ot,@v];intro a ha b hb e;rw[aZ,ha];have:b=@oq:=by simpa using hb
    rw[h]at hx;exact ck x hx (e.trans this)
  .exact@ot
def aiw{n:Nat}{S:@Q}{U:@aZ}(T:@bC){z:ax}(d:@yW)(hz:cj z<n):(jL,@jW->Sg n (mi U z) i h)
 |0,i,hk,h,s=>(nb,d,(zX T).1 s)
 |k+1,i,hk,h,s=>by
  rw[bO];rw[gM];refine(f3,d,{H,hf,x,?_,L,aiw T d hz k @A @e _ st});rw[(@oh)];split;.exact(aR,hx)
  .exact hx
def aix{n:Nat}{S:@Q}{U:@aZ}(T:@bC){z:ax}(d:@yW)(Z:bH n z)(hz:cj z<n):(jL,@aB->@eq->@fm=z->Sg n (mi U z) i h)
 |0,i,hk,h,H,hf,hr=>(nb,d,@oN)
 |k+1,i,hk,h,H,hf,hr=>by
  rw[bO];rw[EF T hi]at hr;cases e:(U.getD i []).find? λx=>x.1==at_ h i with
  |none=>
   rw[e]at hr;have N:h=z:=hr;subst N;rw[l8];rw[lC];have c:=Sk hf @lm aI;refine(f3,d,{H,hf,(@bK,@jm),?_,@d,?_});.rw[(@oh),ai c.symm,c];exact@lt
   rw[s,uS H,MD d (n-@A) @A @e]
  |some x=>
   rw[e]at hr;have hx:=zq e;rw[gJ];rw[fI];refine(f3,d,{H,hf,x,?_,L,aix T d Z hz k @A @e _ a b hr});rw[(@oh)];split;.exact(aR,hx)
   .exact hx
def both(z:ax)(F:@Q):@Q:=F.flatMap λo=>[aK z o,aK o z]
structure oJ(n:Nat)(S P:@Q)(U:@aZ)(F W:@Q):@u where
 tab:@bC
 fh:∀z∈F,bH n z/\(a8,z)
 wh:∀z∈W,bH n z/\(a8,z)
 found:@EF
 two:∀a b,a∈F->b∈F->Sg n U 0 @dx\/@dx∈W
 gens:∀g∈P,Sg n U 0 g\/g∈W
 count:@i0+n=(hc,λi=>@lK)
def start(n:Nat):@aZ:=(a2,n,[(@af,@ai)])
def wO{i:Nat}(hi:i<n):(start n).getD i []=[(@af,@ai)]:=by unfold start;rw[dy,be,xK hi];rfl
def avH(n:Nat)(S:@Q):oJ n S [] (start n) [] []:=by
 have T:g8 n S (start n):=by
  refine{by simp[start],?_,?_,?_,?_,?_,?_,?_};all_goals intro i
  rw[df,mS n];rw[df,En n i];rw[df,wF n _];rw[df,hi];rw[df,@gw];.intro hi;rw[wO hi];simp
  .intro hi;rw[wO hi];simp
 refine{T,@v,@v,?_,@v,@v,?_};.intro i x hi hx;rw[wO hi]at hx;rw[(@mz)];exact .inl @FN
 .have:(a2,n,((start n).getD i []).length)=(fa,λ_=>1):=by rw[ak];intro i hi;rw[wO @jo];rfl
  rw[aN,LN];simp
def aiy{W:@Q}(I:@zA):@i0<=@i4:=by
 have Z:(hc,λi=>@lK)<=(hc,λ_=>2*n):=by refine LM _ @g3;have g:=@jo;have js:@KQ⊆@iV:=(sw,BN.2 (I.tab.lt i x g hx));have:=(I.tab.nodup i g).length_le_of_subset js;rwa[au,Ek]at this
 rw[LN]at Z;have:=I.count;omega
def MI{l:@as}{x w:α}(hw:l.getLast?=some w)(hx:x∈l):x∈l.dropLast\/x=w:=by let{r,hr}:=Bu.1 hw;rw[hr]at hx⊢;rw[KY];rcases bz.1 hx with q|q;rw[Q,q];rw[ac,cz.1 q]
def avI{W:@Q}(I:@zA){w:ax}(hw:W.getLast?=some w)(hs:@dO=@ai):oJ n S P U F W.dropLast:=by
 have c:w∈W:=afd hw;have s:Sg n U 0 w:={@AU,ME w,(d,mM,hs)};refine{@i1,I.fh,λz hz=>I.wh z ((asP W).subset hz),I.found,@xU,@nq,I.count};.rcases I.two a b ha hb with q|q;rw[Q,q];rw[kd]
 .rcases I.gens g hg with q|q;rw[Q,q];rw[kd]
def Sl{x:ax}:x∈both z F↔∃o∈F,x=aK z o\/x=aK o z:=by
 unfold both;rw[jT];constructor;.rintro⟨o,N,hx⟩;exact@JL
 .rintro⟨o,N,hx⟩;exact@JL
def avJ{W:@Q}(v:@aI)(I:@zA){w:ax}(hw:W.getLast?=some w)(hs:@dO≠@ai):@nz<n/\bH n @dO/\(∀x∈(eT,@nz),x.1≠at_ @dO @nz)/\oJ n S P (mi U @dO) (F++[@dO]) (W.dropLast++both @dO (F++[@dO])):=by
 have c:w∈W:=afd hw;have r:=aiv v @i1 n 0 @e w @AU (ME w) (I.wh w c).2;rw[mM]at r;let{Z,j,D}:=r;rcases D with D|⟨_,hz,ck⟩;rw[ai,D,hs];have d:=avG v @i1 Z j hz ck;have mono:=λh(s:Sg n U 0 h)=>aiw @i1 d hz n 0 @e h s;have f:Sg n (mi U @dO) 0 w:=aix @i1 d Z hz n 0 @e w @AU (ME w) (aF,mM);refine{hz,Z,ck,d,?_,?_,?_,?_,?_,?_};rw[mY,I.fh y q,⟨Z,j⟩]
 .intro y hy;rcases bz.1 hy with q|q;.exact I.wh y ((asP W).subset q)
  .let{o,N,q}:=Sl.1 q;have t:bH n o/\(a8,o):=by
    rcases bz.1 N with p|p;.exact I.fh o p
    rw[a5,p,⟨Z,j⟩]
   rcases q with q|q;rw[s,q,{jl Z t.1,(hb,j,t.2)}];rw[s,q,{jl t.1 Z,(hb,t.2,j)}]
 .intro i x hi hx;rw[zY @i1 hz]at hx;have old:@iU->@hF=@ai\/@hF∈F++[@dO]:=λq=>by rcases I.found i x hi q with p|p;rw[Q,p];rw[ac,(aR,p)]
  split at hx
  .rcases bz.1 hx with q|q;.exact old q
   .rw[cz.1 q];right;have:back (back @dO)=@dO:=GZ (oF Z) Z (uS Z);show back (back @dO)∈_;rw[aa];simp
  .exact old hx
 .intro a b ha hb;rcases bz.1 ha with pa|pa
  .rcases bz.1 hb with C|C;.rcases I.two a b pa C with q|q;rw[Q,mono _ q];.rcases MI hw q with q|q;rw[ac,(aR,q)];rw[s,q,.inl f]
   .right;rw[cz.1 C];exact(cx,Sl.2 {a,ha,@dU})
  .right;rw[cz.1 pa];exact(cx,Sl.2 {b,hb,@aK})
 .intro g hg;rcases I.gens g hg with q|q;rw[Q,mono _ q];.rcases MI hw q with q|q;rw[ac,(aR,q)];rw[s,q,.inl f]
 .have hc:=I.count;rw[dj,uJ];have e:(d4,l.Nodup->(l.map λi=>((mi U @dO).getD i []).length).sum=(l.map λi=>@lK).sum+(fM,@nz∈l)):=by
   intro l;induction l with
   |nil=>intro _;simp
   |cons i l ih=>
    intro hd;rw[mJ]at hd;rw[cb,ij,ih hd.2,cb,ij,zY @i1 hz];by_cases q:i=@nz;.rw[ai q,af (G,q,hd.1),ai (aX,q),dj,uJ];omega
    .rw[af q];by_cases q2:@nz∈l;.rw[aG,q2,f6 _ q2];omega
     .rw[af q2,af (by intro z;rcases de.1 z with z|z;exact q @pW;exact q2 z)];omega
  rw[e _ aP6,ai (ja.2 hz)];omega
def avK(v:@aI)(I:oJ n S P U F []){g:ax}(hg:g∈S):oJ n S (P++[g]) U F [g]:=by
 refine{@i1,I.fh,λz hz=>(d,cz.1 hz,{v g hg,Gen.mem v hg}),I.found,@xU,@nn,I.count};.rcases I.two a b ha hb with q|q;rw[Q,q];.simp at q
 .rcases bz.1 hy with q|q;.rcases I.gens y q with p|p;rw[Q,p];.simp at p
  rw[ac,q]
def aiz(I:oJ n S P U F []):MG n U F/\∀g∈P,Sg n U 0 g:=by
 rw[P,{I.found,@xU},@nq]
 .rcases I.two a b ha hb with q|q;.exact q
  .simp at q
 .rcases I.gens g hg with q|q;.exact q
  .simp at q
structure uX(n i:Nat)(S:@Q)(R W:@bu):@u where
 nodup:R.Nodup
 lt:∀x∈R,x.1<n
 start:@af∈R
 reach:∀x∈R,∃h,@cw/\@gh=x
 wait:∀x∈W,x∈R
 closed:∀x∈R,x∈W\/∀g∈S,bY g x∈R
def avL{i:Nat}{R:@bu}(v:@aI)(hi:i<n)(I:uX n i S R [])(y:@ar):y∈R↔∃h,@cw/\@gh=y:=by
 constructor;.exact I.reach y
 .rintro⟨h,hg,rfl⟩;induction hg with
  |one=>rw[wF];exact I.start
  |@mul g h hm hh ih=>
   rw[(@Ju)];rcases I.closed _ ih with z|z;.simp at z
   .exact z g hm
def aiA(v:@aI)(h:ax):(et,S.map back)↔@cw:=by
 rw[jI,S.map back,v x hx];constructor;.refine Gen.trans v @nq;rw[aZ,hg];exact Gen.back v (Gen.mem v hx)
 .refine Gen.trans k @nq;have:=Gen.back k (Gen.mem k (a0,g,hg));rwa[GZ (oF (v g hg)) (v g hg) (uS (v g hg))]at this
def tE(n:Nat)(l:@bu):@bu:=(signed n).filter λx=>l.contains x
def avM{i:Nat}{L:List qg}(v:dc n @xV)(hi:i<n){R:@bu}(I:uX n i @xV R [])(y:@ar):y∈comesTo n L i↔y∈R:=by rw[jI,@Lo,v _ @uq];unfold comesTo;rw[(sW k hi).mem_iff k hi,avL v hi I];rw[E,@Lo,(L.map (cA n)).map back,(O,bC)];rw[e];constructor;rw[ja,(aiA v h).1 hg];rw[ja,(aiA v h).2 hg]
def avN{l R:@bu}(h:∀y,y∈l↔y∈R):(jE,n,(pf,l.contains @af,l.contains @rW))=((tE n R).flatMap @qB):=by
 have hc:∀y,l.contains y=R.contains y:=λy=>by rw[aD];rw[gA,gA];exact h y
 unfold tE signed;rw[List.filter_flatMap,List.flatMap_assoc];congr 1;funext i;rw[hc,hc];rw[E,([@af,(i,@h)]:@bu).filter (λx=>R.contains x),(L,R.contains @af,[@af],[])++(L,R.contains @rW,[(i,@h)],[]),by rw[kf,kf,aP7];cases R.contains (i,false)<;>cases R.contains (i,true)<;>rfl];rw[e];cases R.contains (i,false)<;>cases R.contains (i,true)<;>rfl
def zZ(a b:@ar):@u:=a.1<b.1\/(a.1=b.1/\az a.2<az b.2)
def avO(n:Nat):(signed n).Pairwise zZ:=by
 unfold signed;rw[asq];rw[ae,λi _=>?_];.simp[zZ,az]
 .rw[oZ];intro a b ha hb d x hx y hy;rw[o0]at hx hy;left;have Z:x.1=a:=by simp at hx;rcases hx with z|z<;>rw[z]
  have h2:y.1=b:=by simp at hy;rcases hy with z|z<;>rw[z]
  omega
def avP{R:@bu}(hd:R.Nodup)(bn:∀x∈R,x.1<n):R.Perm (tE n R)/\(tE n R).Pairwise zZ:=by
 have hs:=(avO n).sublist (xN (p:=λx=>R.contains x));rw[aP,hs];refine(asu hd ?_).2 λx=>?_;.rw[oy];refine hs.imp λ{a b}h e=>?_;subst e;unfold zZ at h;omega
 .unfold tE;rw[gR,gA,BN];exact(jx,{bn x h,h},h.2)
def avQ{i:Nat}{R:@bu}(I:uX n i S R W):@mB<=2*n:=(q2,I.lt x hx,I.nodup.length_le_of_subset js)
structure tF(n i:Nat)(S:@Q)(x:@ar)(k:Nat)(R W:@bu):@u where
 nodup:R.Nodup
 lt:∀y∈R,y.1<n
 start:@af∈R
 reach:∀y∈R,∃h,@cw/\@gh=y
 wait:∀y∈W,y∈R
 closed:∀y∈R,y∈W\/y=x\/∀g∈S,bY g y∈R
 xin:x∈R
 part:∀j g,j<k->(ah,S,g)->bY g x∈R
def avR{i:Nat}(S:@Q)(hi:i<n):uX n i S [@af] [@af]:={@v,λx hx=>(aW,(@mz)),@v,λx hx=>{@ai,@gw,(r,(@mz),wF)},λx hx=>hx,λx hx=>.inl hx}
def uX.pop{i:Nat}{R:@bu}{x:@ar}(I:uX n i S R (W++[x])):(hL,0):=by
 refine{@kE,I.lt,I.start,I.reach,λy hy=>I.wait y (aR,hy),@nn,I.wait x @v,λj g hj=>absurd hj (Qc _)};rcases I.closed y hy with h|h;.rcases bz.1 h with h|h;rw[Q,h];rw[ac,.inl (cz.1 h)]
 rw[ac,@sw]
def tF.old{i k:Nat}{R:@bu}{x:@ar}{g:ax}(M:(hL,k))(hg:(K,S,k,g))(h:bY g x∈R):(hL,@aV):=by refine{M.nodup,M.lt,M.start,M.reach,M.wait,M.closed,M.xin,λj g' hj u=>?_};rw[eA];rw[kg,h];.exact M.part j g' @e u
def tF.add{i k:Nat}(v:@aI)(hi:i<n){R:@bu}{x:@ar}{g:ax}(M:(hL,k))(hg:(K,S,k,g))(h:bY g x∉R):tF n i S x @aV (R++[bY g x]) (W++[bY g x]):=by
 have d:=cZ hg;refine{?_,?_,(aR,M.start),?_,?_,?_,(aR,M.xin),?_};.rw[Du];rw[ad,M.nodup,@v,λa ha b hb=>?_];rw[cz.1 hb];intro e;exact h (cg,ha)
 rw[mY,M.lt y q,(v g d).lt' (M.lt x M.xin)]
 .intro y hy;rcases bz.1 hy with q|q;.exact M.reach y q
  .rw[cz.1 q];let{h',u,e}:=M.reach x M.xin;rw[ab,aK g h',Gen.mul d u];rw[uQ (aW,(u.isHand v).len),e]
 .intro y hy;rcases bz.1 hy with q|q;.exact(aR,M.wait y q)
  .exact(cx,q)
 .intro y hy;rcases bz.1 hy with q|q;.rcases M.closed y q with c|c|c;rw[Q,(aR,c)];rw[ac,.inl c];rw[ac,.inr λg' u=>(aR,c g' u)]
  rw[Q,(cx,q)]
 .intro j g' hj u;rw[eA];rw[kg,@lt];.exact(aR,M.part j g' @e u)
def tF.fin{i:Nat}{R:@bu}{x:@ar}(M:(hL,@v2)):uX n i S R W:=by
 refine{M.nodup,M.lt,M.start,M.reach,M.wait,@nn};rcases M.closed y hy with c|c|c;rw[Q,c];.right;subst c;intro g hg;let{j,hj,e}:=lX hg;exact M.part j g hj (r,bX hj,e)
 rw[ac,c]
def Sm{i k:Nat}{R:@bu}{x:@ar}(M:(hL,k)):@mB<=2*n:=(q2,M.lt x hx,M.nodup.length_le_of_subset js)
def aiB:∀{A B:@bu},A.Perm B->A.Pairwise (λa b=>¬zZ b a)->A.Nodup->B.Pairwise zZ->A=B
 |[],B,p,_,_,_=>(aF,p.symm.eq_nil)
 |a::A,[],p,_,_,_=>by have:=p.eq_nil;cases this
 |a::A,b::B,p,Z,nd,h2=>by
  have lg:=asH.1 Z;have ju:=asH.1 h2;rw[E,a,b,by
   by_cases e:a=b;.exact e
   .exfalso;have j:a∈B:=by
     rcases de.1 (p.mem_iff.1 (mP:a∈a::A))with q|q;.exact absurd q e
     .exact q
    have M:b∈A:=by
     rcases de.1 (p.mem_iff.2 (mP:b∈b::B))with q|q;.exact absurd @l7 e
     .exact q
    exact lg.1 b M (ju.1 a j)];subst e;rw[aiB p.cons_inv lg.2 (mJ.1 nd).2 ju.2]
def avS(g:ax)(x:@ar):(az (at_ g x.1).2+az x.2)%2=az (bY g x).2:=by show _=az ((at_ g x.1).2 !=x.2);cases(at_ g x.1).2<;>cases x.2<;>rfl
def Sn:∀(l:@o)(j v:Nat)(h:j<@R),(l.set j v).sum+l[j]=l.sum+v|[],j,v,h=>@tI|a::l,0,v,_=>by rw[List.set_cons_zero,ij,ij,List.getElem_cons_zero];omega|a::l,j+1,v,h=>by have ih:=Sn l j v @c7;rw[aP1,ij,ij,List.getElem_cons_succ];omega
def nR(r:Row):Nat:=@cR
def aiC{r:Row}(H:@G)(h2:@aX){i:Nat}(hi:i<n):nR @fg%2=nR r%2:=by
 unfold f7 nR;dsimp only;have hl:=H.len;rw[eK];have E:@eh≠i:=by
  rw[hl];rcases dH (i+1) n with z|z;.rw[gU z];omega
  .rw[(c4,@A),wk];omega
 generalize@eh=j at hj E;rw[wj,wj];have d:@y2=r[i]'@e:=(d8,(@em));have b:r.getD j @mb=r[j]:=(d8,bX hj);have hb:∀c:cQ,az (c.turned @h).up=1-az @ce:=λc=>by let{a,u}:=c;cases u<;>rfl
 rw[hb,hb,d,b];have e1:=Sn ((r.map @gB).set i (1-az @kU)) j (1-az (r[i]'@e).up) @ro;have e2:=Sn (r.map @gB) i (1-az @kU) @i2;rw[List.getElem_set_ne (λz=>E @pW)]at e1;rw[iI]at e1 e2;have b1:=LY (r[i]'@e).up;have b2:=LY @kU;omega
def EG{r:Row}(H:@G)(hn:@aU):@dM↔∃c,(i0,@j5=c):=by
 unfold dR;rw[H.len,ai hn,mN];constructor
 .rintro(h|h);.exact{0,@La}
  .exact{1,@La}
 .rintro⟨c,h⟩;have mk:∀c',(∀no,@e1->@e0->@j5=c')->qf c' r q=@h:=by intro c' h';unfold qf;rw[rD H,iR];intro no ck;let{a,b}:=jm.1 ck;rw[h' no a b];exact P8 c'
  rcases dH c 2 with z|z;.rw[az,c=0\/c=1];rcases this with e|e;rw[bZ,.inl (mk 0 h)];rw[bZ,.inr (mk 1 h)]
  .left;refine mk 0 @xW;have:=h no a b;rw[kD];omega
def aiD{a b c:Row}(A:aG n a)(B:aG n b)(C:aG n c)(Z:dR a b=@h)(h2:dR b c=@h):dR a c=@h:=by
 rw[a6];.rw[EG A hn]at Z⊢;rw[EG B hn]at h2;let{x,hx}:=Z;let{y,hy}:=h2;exact{(x+y)%2,λno a b=>by have:=hx no a b;have:=hy no a b;omega}
 .have N:n%2=1:=@e;rw[qp A B N,bU]at Z;rw[qp B C N,bU]at h2;rw[qp A C N,bU];omega
def avT{a:Row}(A:aG n a):dR a a=@h:=by
 rw[a6];.exact(EG A hn).2 {0,λno _ _=>@e}
 .rw[qp A A @e,bU]
def avU{r:Row}(H:@G)(h2:@aX){i:Nat}(hi:i<n):(cT,@fg):=by
 rw[a6];.exact(EG H hn).2 {0,λno a b=>(b_,Q4 H hn hi a b)}
 rw[aj,qp H @rQ @e,bU,(aiC H h2 hi).symm]
def avV(k:Nat)(r:Row):nR @dZ=nR r:=by unfold nR dz;rw[bh,Dv,KC,<-Dv,<-bh,DF]
def aiE{n:Nat}{r:Row}(H:@G)(h0:0<n):∀k,@b2->(cT,@dZ)
 |0,_=>(d,G7,avT H)
 |k+1,hk=>by
  have ih:=aiE H h0 k @e;rw[E,dz @aV r,dz 1 @dZ,by
   rcases dH 1 n with z|z
   .rw[Mg (bU,z) @hh,H.len];rcases dH (1+k) n with y|y;.rw[gU y,KC]
    .rw[(c4,1+k),wk,G7,(c4,@aV)];unfold dz;rw[wb (bU,@L),Bo (bU,@L),Bt]
   .rw[(v,k=0),G7]];rw[e];have K:=wJ (k:=k) H;refine aiD H K (wJ K) ih ?_;rw[a6];.refine(EG K hn).2 {1,@xW};have:=Q6 K hn a b;show(bB @dZ no+bB ((dz k r).drop 1++(dz k r).take 1) no)%2=1;omega
  rw[aj,qp K (wJ K) @e,bU,dg (·%2) (avV 1 @dZ).symm]
def MJ{n:Nat}{q:Row}(J:@ap)(h2:@aX):∀(m:Nat){r:Row},@G->R q m r->@dM|0,r,H,h=>by let{k,hk,e}:=G9 H J @e h;rw[<-e];exact aiE H @e k @e|m+1,r,H,h=>by let{i,hi,h}:=h;rw[H.len]at hi;have E:=@rQ;exact aiD H E J (avU H h2 hi) (MJ J h2 m E h)
def MK{n:Nat}{q:Row}:∀(l:@o){m:Nat}{r:Row},@G->@m1->R q m (b8 r l)->R q (m+@R) r|[],m,r,_,_,h=>h|i::l,m,r,H,hl,h=>by have hi:=hl i @v;rw[ab,i,@lm];exact MK l @rQ @Ld h
def aiF{n:Nat}{r:Row}(H:@G)(h2:@aX):∀k,k<=@aw->aG n @BQ/\∀m,m<n->cd @BQ m=if m<@aw-k then@hk else(H,m,@aw-k,@Ee,(ed,m-1))
 |0,_=>by
  rw[P,by simpa[b8]using H,@kZ];rw[E,b8 r ((eC @aw 0).take 0),r,by simp[b8]];rw[e];by_cases z:m<@aw-0;.rw[ai z]
  .rw[af z,(@h8),(v,m=@aw)];exact(LZ _).symm
 |k+1,hk=>by
  let{I,h}:=aiF H h2 k @e;rw[Q3 @e,zO];generalize@BQ=r' at I h;have et:b8 r' [@n7]=f7 r' @n7:=rfl;rw[et];have b:(@n7+1)%r'.length=@aw-k:=(c9,I.len,(@f8));rw[P,nH I @e,@kZ];rw[rE (af,I.len) (dZ,I.len),b];by_cases z1:@aw-k=m;.have c1:cd r' @n7=cd r @n7:=(r,h _ @e,(@h8));rw[ai z1,c1,(@bd),(@bd)];congr 2;omega
  .rw[af z1];by_cases z2:@n7=m
   .have c1:cd r' (@aw-k)=@Ee:=(aA,h _ @e,(@bd),(@ax));rw[ai z2,c1,(@bd),(@h8)];generalize cd r @aw=c;let{a,u}:=c;have:(@aV%2==1)=!(k%2==1):=by rcases Gi k with y|y;rw[ay,y,(v,@aV%2=1)];rw[ay,y,(v,@aV%2=0)]
    rw[aa];cases u<;>cases(k%2==1)<;>rfl
   .rw[af z2,h m hm];by_cases z3:m<@aw-k;.rw[aG,z3,@e]
    .rw[af z3,(cG,z1 @pW),(@bd),(@bd)]
def mj(j:Nat)(r:Row):Row:=(br r.length).map λm=>(H,m,j,@hk,(ed,m))
def yb(j:Nat)(r:Row):(mj j r).length=r.length:=by simp[mj]
def ML{j m:Nat}{r:Row}(hm:(dm,m)):cd @oc m=(H,m,j,@hk,(ed,m)):=by rw[jX (dZ,yb)];simp[mj]
def avW{r s:Row}(H:@G)(hl:@dc=n)(h:∀m,m<n->(cd s m).no=(b4,m)):aG n s:=by
 rw[ae,hl];have:s.map fK=@q5:=by apply uC (by rw[au,au,hl,H.len]);intro i Z h2;rw[iI,iI,<-jX,<-jX];exact h i (by rw[<-hl];simpa using Z)
 rw[aa];exact@pJ
def Hv{r:Row}(H:@G)(j:Nat):aG n @oc:=by refine avW H (hj,yb) @kZ;rw[ML (bU,hm)];split<;>rfl
def aiG(h2:@aX)(N:n%2=1){r:Row}(H:@G){j:Nat}(hj:j<n){m:Nat}(h:R q m @oc):∃m',R q m' r:=by
 rw[ca];have hk:@aj%n<n:=@ge;have Y:=wJ (k:=@aj%n) H;let{I,hd}:=aiF Y h2 @aw @L;have K:(eC @aw 0).take @aw=@o2:=Bo (af,LV);rw[K]at I hd;have a:∀i,i<n->cd @to i=cd r ((i+@aj%n)%n):=λi hi=>(hj,tj @hh @lm);have b:∀i,i<n->cd (b8 @to @o2) i=cd (dz (j%n) @oc) i:=by
  intro i hi;rw[hd i hi,tj (r:=@oc) (mG,jb @ge) (mG,hi),yb,H.len,ML (bU,@ge),gU hj,(@bd)];by_cases z:i=0
  .rw[(@h8),a @aw @e,z,oz,gU hj,(@ax)];rw[ah,(@aw+@aj%n)%n,j,by
    rcases dH (j+1) n with y|y;.rw[gU y,(v,@aw+@aj=j+n),Bl,gU hj]
    .rw[(c4,@aj),wk,KP,(@f8)];omega];rw[e1,show(bS,@aw%2,1)by rw[(v,@aw%2=0)];rfl];exact LZ _
  .rw[ag,(i-1+@aj%n)%n,(i+j)%n,by
    rcases dH (j+1) n with y|y;.rw[gU y,(v,i-1+@aj=i+j)]
    .rw[(c4,@aj),wk,KP,(@f8),(v,i+j=i-1+n),Bl,(@f8)]];have e3:¬(i+j)%n=j:=by
    intro e;rcases dH (i+j) n with y|y;.rw[gU y]at e;omega
    .rw[(v,i+j=(i+j-n)+n),Bl,(@f8)]at e;omega
   rw[(@bd),a (i-1) @e,e2,af e3]
 have c:b8 @to @o2=dz (j%n) @oc:=wI (by rw[I.len,mf,yb,H.len]) λi hi=>b i (by rw[I.len]at hi;exact hi);have O:R q m (b8 @to @o2):=(d,c,(Ew h0 (wJ (Hv H j)) (Hv H j) (BS (Hv H j) h0 @ge)).2 h);have:=MK @o2 Y @K0 O;exact{_,G_ h0 _ H hk this}
def oK(r q:Row):@o:=(br r.length).filter λm=>@hm !=@jV
def aiH{n:Nat}{q:Row}(J:@ap)(h2:@aX)(N:n%2=1):∀(w:Nat){r:Row},@G->(∀m,m<n->(b4,m)=(ca,m))->(jM,r)=2*w->∃m,R q m r
 |0,r,H,he,hw=>by
  have:r=q:=wI (r,H.len,J.len) λm hm=>by
   have lQ:m<n:=(d5,hm);have g:oK r q=[]:=o5.1 @e;have hu:@hm=@jV:=by have:¬m∈oK r q:=(aX,g);unfold oK at this;rw[gR]at this;have h3:¬(@hm !=@jV)=@h:=λz=>this {ja.2 hm,z};simpa using h3
   have ck:=he m lQ;generalize@hk=a at*;generalize cd q m=b at*;let{a1,M}:=a;let{b1,b2}:=b;have h3:a1=b1:=ck;have h4:M=b2:=hu;rw[h3,h4]
  exact{0,by show@ia=c_ q;rw[aa]}
 |w+1,r,H,he,hw=>by
  obtain⟨i,j,t,ht⟩:∃i j t,oK r q=i::j::t:=by match U:oK r q with|[]=>rw[U]at hw;simp at hw|[x]=>rw[U]at hw;simp at hw;omega|i::j::t=>exact{i,j,t,@d}
  have cJ:(oK r q).Nodup:=aP6.sublist xN;have mem:∀x∈oK r q,x<n/\(cd r x).up≠(cd q x).up:=by intro x hx;let{a,b}:=gR.1 hx;exact{(d5,ja.1 a),by simpa using b}
  have hi:=mem i (aX,ht);have hj:=mem j (aX,ht);have E:i≠j:=by rw[ht,mJ]at cJ;intro e;exact cJ.1 (by rw[e];simp)
  have A:=Hv H i;have B:=Hv A j;have W:∀m,m<n->cd @pg m=if m=i\/m=j then(ed,m)else@hk:=by
   intro m hm;rw[ML (mG,hm),ML (bU,hm)];by_cases z1:m=i;.rw[(@bd),ai z1,ai (.inl z1)]
   .by_cases z2:m=j;.rw[ai z2,af z1,ai (.inr z2)]
    .rw[af z2,af z1,(@bd),Rh]
  have ck:(hX,@pg):=by intro m hm;rw[W m hm,<-he m hm];split<;>rfl
  have mw:oK @pg q=t:=by
   rw[ah,oK @pg q,(oK r q).filter λm=>decide (m≠i/\m≠j),by
    unfold oK;rw[yb,yb,List.filter_filter];apply P9;intro m hm;have lQ:m<n:=(d5,ja.1 hm);rw[W m lQ];by_cases z:m=i\/m=j
    .rw[ai z];have d:@hm≠@jV:=by rcases z with z|z<;>rw[z];exact hi.2;exact hj.2
     rw[(@g5),wx];generalize@hk=c at d;let{c1,c2}:=c;generalize@jV=u at d;have f:c2≠u:=d;show((c2 !=@h)!=u)=@K;cases c2<;>cases u<;>first|rfl|rw[a2,f]
    .rw[af z,(@gP),Bx]];rw[e1,ht];rw[ht]at cJ;rw[mJ,mJ]at cJ;rw[kf,(@jp),kf,(@jp)];refine l4.2 λm hm=>bq {λe=>cJ.1 ?_,λe=>cJ.2.1 ?_};.rw[<-e];exact f6 _ hm
   .rw[<-e];exact hm
  have hl:(jM,@pg)=2*w:=by rw[mw];rw[ht]at hw;simp at hw;omega
  let{m,hm}:=aiH J h2 N w B ck hl;let{m',lQ}:=aiG h2 N A hj.1 hm;exact aiG h2 N H hi.1 lQ
def avX{r:Row}(H:@G)(J:@ap):(jM,r)%2=(nR r+nR q)%2:=by
 have e:∀s:Row,@dc=n->nR s=(hc,λm=>az (cd s m).up):=by intro s hs;unfold nR;congr 1;apply uC (by simp[hs]);intro i Z h2;rw[iI,iI,o0,jX @s8]
 rw[e r H.len,e q J.len];unfold oK;rw[H.len,G3];have:(fa,λm=>az (@hm !=@jV))=(fa,λm=>(az @hm+az @jV)%2):=by rw[ak];intro m _;exact LS _ _
 rw[aa];exact Q2 (λm=>az @hm) (λm=>az @jV) (br n)
def avY{r:Row}(H:@G)(J:@ap)(h2:@aX)(h:@dM):∃m,R q m r:=by
 rw[ca];rw[a6]
 .obtain⟨c,cN,hc⟩:∃c,c<2/\(i0,(bB (dz c r) no+@iS)%2=0):=by
   let{c,hc}:=(EG H hn).1 h;by_cases z:c=0;.exact{0,@e,λno a b=>(ld,G7,z,hc no a b)}
   .rw[ad,1,@e,@xW];have Z:=hc no a b;have h2:bB (dz 1 r) no%2=(@fG+1)%2:=Q6 H hn a b;rw[kD];omega
  have Y:=wJ (k:=c) H;rw[k0,Y];rw[mM]at o1 o2;have T:=uT (di,dz c r) Y o1;have hs:(i0,bB @vb no%2=@iS%2):=by intro no a b;rw[Q5 hn _ Y o1 a b];have:=hc no a b;omega
  rw[E,@vb,q,by refine wI (r,T.len,J.len) @kZ;have lQ:m<n:=(G,T.len,hm);have e1:=o2 m lQ;rw[cI,lQ];have e2:=hs _ b1 b2;have e3:=mW T lQ;have e4:=mW J lQ;rw[e1]at e3;rw[e3,e4]at e2;generalize cd @vb m=a at*;generalize cd q m=b at*;let{a1,M}:=a;let{d1,d2}:=b;have h3:a1=d1:=e1;subst h3;clear e3 e4;cases M<;>cases d2<;>first|rfl|(simp[az]at e2;omega)];have O:R q 0 @vb:=@jG;exact{_,G_ h0 _ H @e (MK _ Y o1 O)}
 .have N:n%2=1:=@e;rw[k0,H];rw[mM]at o1 o2;have T:=uT (di,r) H o1;have o:nR (b8 r (di,r))%2=nR r%2:=by
   have key:∀(l:@o){s:Row},aG n s->@m1->nR (b8 s l)%2=nR s%2:=by intro l;induction l with|nil=>intro s _ _;rfl|cons i l ih=>intro s S hl;have hi:=hl i @v;have:=ih (nH S hi) @Ld;show nR (b8 (f7 s i) l)%2=_;rw[aN,aiC S h2 hi]
   exact key _ H o1
  have f:=avX T J;rw[qp H J N,bU]at h;have h':nR r%2=nR q%2:=h;let{m,hm}:=aiH J h2 N ((jM,b8 r (di,r))/2) T o2 @e;exact{_,MK _ H o1 hm}
def aiI{r:Row}(H:@G)(J:@ap)(h2:@aX)(h6:n<=6):@dM↔∃w,@r1:=by
 constructor;.intro h;let{m,hm}:=avY H J h2 h;let{m',_,hd}:=Rk m hm;exact{_,(Rt J h2 h6 m' H hd).2.1}
 .rintro⟨w,hw⟩;exact MJ J h2 _ H (Hi J h2 w H hw)
def Hw{r:Row}(J:@ap){i:Nat}(hi:i<n):at_ @fW i=(@y3,@rX !=dt r @jR):=by have hl:(jV r q).length=n:=@J4;rw[f_ @e];unfold jV;rw[iI,jX (aW,J.len)]
def Hx{r:Row}(H:@G)(J:@ap):bH n @fW:=by
 refine{@J4,@g3,λi j hi hj e=>?_};.rw[Hw J hi];rw[cI,hi];exact(place_lt H b1 b2).1
 .rw[Hw J hi,Hw J hj]at e;rw[cI,hi];let{c1,c2}:=pk J hj;have F:@y3=(cR,(ca,j)):=e;have Z:=(place_lt H b1 b2).2;have h2:=(place_lt H c1 c2).2;rw[F,h2]at Z;exact(agQ J hj hi Z).symm
def avZ{r:Row}(H:@G)(J:@ap):(au,@fW)=q:=by have B:=Hx H J;refine wI (by unfold done;rw[au,B.len,J.len]) @g3;rw[aR,by unfold done at hi;rw[au,B.len]at hi;exact hi];rw[Mi (d,B.len,g),Hw J g];rw[cI,g];let{p1,p2}:=place_lt H b1 b2;have hs:=wG H p1;rw[p2]at hs;dsimp only;rw[hs];generalize cd r @y3=a at*;generalize cd q i=b at*;let{a1,M}:=a;let{d1,d2}:=b;have h3:a1=d1:=p2;subst h3;cases M<;>cases d2<;>rfl
def aiJ{r:Row}(H:@G)(J:@ap){h:ax}(G:@aB)(e:@hY=q):h=@fW:=by have B:=Hx H J;refine uP (r,G.len,B.len) @g3;rw[aR,(G,G.len,hi)];rw[Hw J g];have Z:=Mi (h:=h) (r:=r) hi;rw[e]at Z;have hp:=G.lt i g;have h2:@jR=(b4,@nY):=(O,Z);have h3:=zP H hp @mn;have hs:=wG H hp;rw[<-h2]at hs;rw[h3,hs,Z];generalize cd r @nY=a;generalize@bK=x;let{a1,M}:=a;let{j,O}:=x;show(j,O)=(j,(M !=O)!=M);cases M<;>cases O<;>rfl
def gw(n k:Nat):ax:=aK @cm @ca
def fq(n:Nat)(ks:@o):ax:=ks.foldl @xr @ai
def lK(n:Nat)(ks:@o):@u:=∀k∈ks,k<n
def wP(n:Nat)(ks:@o)(k:Nat):fq n @nZ=aK @jQ (gw n k):=by unfold fq;rw[DB];rfl
def Hy{k:Nat}(h2:@aX)(hk:k<n):bH n (gw n k):=jl (jK @e @e) (qr h2)
def lK.snoc{k:Nat}{ks:@o}(h:@iq)(hk:k<n):lK n @nZ:=λx hx=>by
 rcases bz.1 hx with z|z;.exact h x z
 rw[a5,z,hk]
def lK.init{k:Nat}{ks:@o}(h:lK n @nZ):@iq/\k<n:={λx hx=>h x (aR,hx),h k @v}
def EH{ks:@o}(h:@gm=d+1):∃i k,ks=i++[k]/\i.length=d:=by
 obtain⟨i,k,e⟩:∃i k,ks=i++[k]:=by cases hk:ks.getLast? with|none=>rw[DM.1 hk]at h;simp at h|some k=>let{i,hi}:=Bu.1 hk;exact⟨i,k,hi⟩
 rw[av,i,k,e];rw[e]at h;simp at h;exact h
def B3{n:Nat}(h2:@aX):∀(d:Nat)(ks:@o),@gm=d->@iq->bH n @jQ|0,ks,h,_=>(d,o5.1 h,mS n)|d+1,ks,h,hk=>by let{i,k,rfl,hi}:=EH h;rw[wP];exact jl (B3 h2 d i hi hk.init.1) (Hy h2 hk.init.2)
structure EI(n:Nat)(M:ax)(ks:@o):@u where
 ok:@iq
 prod:@jQ=M
 few:∀c,lK n c->fq n c=M->@gm<=@cJ
 first:∀c,lK n c->fq n c=M->@cJ=@gm->iK ks c
abbrev im:=(a6,ax,@o)
def MM(a b:@hr):@u:=iK a.2 b.2/\a.2≠b.2
structure tG(n d:Nat)(K u:im):@u where
 best:∀x∈K,@vi/\@il<=d
 all:∀ks,@iq->@gm<=d->@jQ∈@ib
 nodup:@rc
 lvIn:∀x,x∈u↔x∈K/\@il=d
 sorted:u.Pairwise MM
def tH(i j a k:Nat):@u:=a<i\/(a=i/\k<j)
structure px(n d:Nat)(K u:im)(i j:Nat)(N:im):@u where
 base:tG n d K u
 new:∀x∈N,@vi/\@il=d+1/\∃a k y,tH i j a k/\k<n/\(K,u,a,y)/\x.2=y.2++[k]
 nodup:((K++N).map @aA).Nodup
 proc:∀a k y,tH i j a k->k<n->(K,u,a,y)->fq n (y.2++[k])∈(he,K,N)
 sorted:N.Pairwise MM
def EJ:∀{a b:@o}{x y:Nat},@ol->iK a b->(a=b->x<=y)->iK (a++[x]) (b++[y])|[],[],x,y,_,_,h=>by rcases dH x y with z|z;rw[Q,z];rw[ac,{(b_,h @d),eY}]|[],_::_,_,_,h,_,_=>@a5|_::_,[],_,_,h,_,_=>@a5|a::l,b::l',x,y,h,hl,hh=>by rcases hl with z|⟨z,hl⟩;rw[Q,z];rw[ac,{z,EJ @c7 hl λe=>hh (r,z,e)}]
def tG.start(n:Nat):tG n 0 [(@ai,[])] [(@ai,[])]:=by
 refine{@gW,λks _ h=>?_,@v,λx=>?_,@v};rw[a5,hx,{{λk hk=>by simp at hk,@d,λ_ _ _=>@aO,λ_ _ _ _=>eY},@L}];.rw[o5.1 (Nat.le_zero.1 h)];simp[fq]
 .constructor;.intro h;exact{h,(O,cz.1 h)}
  .intro h;exact h.1
def tG.mid(I:tG n d K u):px n d K u 0 0 []:={I,@v,(d,gk,@kE),λa k y hp=>by rcases hp with z|⟨_,z⟩<;>omega,@v}
def px.row{i:Nat}(I:(kk,n)):px n d K u @A 0 N:=by refine{@v5,@gW,@kE,λa k y hp hk hy=>I.proc a k y ?_ hk hy,@v6};rw[ip,hx];.unfold tH at hp⊢;omega
def aiK(h:u.Pairwise MM){a:Nat}{x y:@hr}(d:a<b)(hx:(K,u,a,x))(hy:(K,u,b,y)):MM x y:=by let{ha,e1}:=fk.1 hx;let{hb,e2}:=fk.1 hy;rw[<-e1,<-e2];exact oZ.1 h a b ha hb d
def MN{M:ax}(h:M∈@ib):∃x∈K,x.1=M:=by rw[cG,h];exact⟨x,hx,e⟩
def px.old{i j:Nat}(I:(kk,j)){y:@hr}(hy:(C,u,y))(cM:@io∈(he,K,N)):(kk,@aj):=by refine{@v5,@gW,@kE,@En,@v6};rw[ip,hx];.by_cases e:a=i/\k=j;rw[mP,cM];.exact@Hh
def px.add{i j:Nat}(I:(kk,j))(hj:j<n){y:@hr}(hy:(C,u,y))(cM:@io∉(he,K,N)):px n d K u i @aj (N++[(@io,@pV)]):=by
 have B:=I.base;have cP:y∈u:=cZ hy;let{v,s}:=(B.lvIn y).1 cP;have t:=(B.best y v).1;have A:@io∉@ib:=λz=>cM (d,bh,(aR,z));have bG:(cF,y.2,j)=d+1:=by simp[s]
 have few:∀c,lK n c->fq n c=@io->d+1<=@cJ:=by
  intro c Z h2;rcases dH d c.length with z|z;.exact z
  rw[ai,(G,h2,B.all c Z z),A]
 have best:EI n @io @pV:=by
  rw[ap,t.ok.snoc hj,@d,λc Z h2=>(d,bG,few c Z h2),λc Z h2 h3=>?_];rw[bG]at h3;let{it,k',rfl,uk}:=EH h3;let{o1,o2}:=Z.init;rw[kH];let{f,r}:=B.best x g;have p:fq n (x.2++[k'])=@io:=by rw[<-h2,wP,wP n it,f.prod,L]
  have w:@il=d:=(sf,few _ @xX p);have nu:x∈u:=(B.lvIn x).2 ⟨g,w⟩;let{a,ha,l}:=lX nu;have m:(K,u,a,x):=(r,bX ha,l);have h:¬tH i j a k':=λz=>cM (G,p,I.proc a k' x z o2 m);have o:iK x.2 it:=f.first it o1 L.symm @e;by_cases C:a=i;.subst C;rw[hy]at m;cases m;exact EJ @e o (λ_=>@Hv)
  .have bn:i<a:=@Hv;let{Y,s2}:=aiK @v7 bn hy m;refine EJ @e (Mx Y o @e @e) @c8;exfalso;rw[e]at Y s2;exact s2 (Hr @e Y o)
 rw[cW,B,@gW,@En];.rcases bz.1 hx with q|q;rw[ip,q];rw[a5,q,{best,bG,i,j,y,by unfold tH;omega,hj,hy,@d}]
 .rw[<-eM,bh,Du];rw[ad,@kE,@v,λa ha b hb e=>?_];have:b=@io:=by simpa using hb
  rw[this]at e;exact cM (cg,ha)
 .rw[<-eM,bh];by_cases e:a=i/\k=j;rw[mP,@lt];.exact(aR,@Hh)
 .rw[aPZ];rw[ad,@v6,@v,λx hx b hb=>?_];rw[cz.1 hb];let{f,r,a,k,z,hp,hk,hz,eh}:=I.new x hx;have ic:z.2.length=d:=((B.lvIn z).1 @nx).2;have aI:x.2≠@pV:=by
   intro e;apply cM;have:x.1=@io:=by rw[<-e,f.prod]
   rw[<-this,bh];exact(cx,@uq)
  rw[aP,aI];show iK x.2 @pV;rw[eh];rcases hp with z1|⟨z1,z2⟩;.let{Y,s2}:=aiK @v7 z1 hz hy;exact EJ @e Y (λe=>absurd e s2)
  .subst z1;rw[hz]at hy;cases hy;exact EJ @d (Ey _) (λ_=>@e)
def px.done(I:px n d K u @je 0 N):tG n (d+1) (K++N) N:=by
 have B:=I.base;refine{@gW,λks hk hl=>?_,@kE,λx=>?_,@v6}
 .rcases bz.1 hx with q|q;.exact{(B.best x q).1,(b_,(B.best x q).2)}
  .exact{(I.new x q).1,(d,(I.new x q).2.1,@L)}
 .rcases dH d ks.length with z|z;.let{it,k',rfl,uk}:=EH (v,@gm=d+1);let{o1,o2}:=hk.init;rw[kH];let{f,r}:=B.best x g;have p:fq n (x.2++[k'])=fq n (it++[k']):=@HM;rw[<-p];rcases dH x.2.length d with y|y;rw[s,bh,(aR,B.all _ @xX @aS)];.have nu:x∈u:=(B.lvIn x).2 {g,@e};let{a,ha,l}:=lX nu;exact I.proc a k' x @dN o2 (r,bX ha,l)
  rw[s,bh,(aR,B.all ks hk z)]
 .constructor;.intro h;exact{(cx,h),(I.new x h).2.1}
  .rintro⟨Z,h2⟩;rcases bz.1 Z with q|q;rw[aQ,(B.best x q).2];.exact q
structure HA(n:Nat)(K:im):@u where
 best:∀x∈K,@vi
 all:∀ks,@iq->@jQ∈@ib
 nodup:@rc
def tG.full(I:tG n d K []):HA n K:=by
 rw[ad,λx hx=>(I.best x hx).1,?_,@kE];have key:∀(m:Nat)(ks:@o),@gm=m->@iq->@jQ∈@ib:=by
  intro m;induction m with
  |zero=>intro ks h hk;exact I.all ks hk @e
  |succ m ih=>
   intro ks h hk;let{it,k,rfl,uk}:=EH h;let{o1,o2}:=hk.init;let{x,g,L}:=MN (ih it uk o1);let{f,r}:=I.best x g;have p:fq n (x.2++[k])=fq n (it++[k]):=@HM;rw[<-p];have aI:@il≠d:=λe=>by have:=(I.lvIn x).2 ⟨g,e⟩;simp at this
   exact I.all _ @xX @aS
 exact λks hk=>key @gm ks @d hk
def av0(h2:@aX)(hb:∀x∈K,@vi)(hd:@rc):K.length<=@uC:=by
 have js:@ib⊆pj @iV n:=by intro M hM;rw[aZ,hM];rw[<-(hb x hx).prod];exact(B3 h2 _ _ @d (hb x hx).ok).mem_all
 have:=hd.length_le_of_subset js;rwa[au]at this
def MO{k i:Nat}(hk:@b2)(hn:0<n)(hi:i<n):at_ @cm i=@tf:=by rw[QX hk hn,f_ @hd,iI,o0]
def So{a:Nat}(hn:0<n)(ha:a<=n)(hb:b<=n):aK (cS n a) (cS n b)=cS n ((a+b)%n):=by have A:=jK ha hn;have B:=jK hb hn;have hc:(a+b)%n<=n:=jb @im;have C:=jK hc hn;refine uP (aA,l_,B.len,C.len) @g3;rw[aR,by rw[l_,B.len]at hi;exact hi];rw[nF (d,B.len,g),MO hb hn g,MO hc hn g,nG,MO ha hn @im];congr 1;rw[Go,aPT];congr 1;omega
def Sq(hn:0<n):cS n 0=@ai:=by have C:=jK (b9 n) hn;refine uP (r,C.len,ph) @g3;rw[aR,by rw[C.len]at hi;exact hi];rw[MO @e hn g,rC,KP,gU g]
def av1(h2:@aX):aK @ca @ca=@ai:=by
 have T:=qr (n:=n) h2;refine uP (aA,l_,T.len,ph) @g3;rw[aR,by rw[l_,T.len]at hi;exact hi];rw[nF (d,T.len,g),rC,G8 h2 g];by_cases u:i=0;.rw[ai u];show((at_ @ca 1).1,(at_ @ca 1).2 !=@h)=_;rw[G8 h2 @e];simp[u]
 .rw[af u];by_cases z1:i=1;.rw[ai z1];show((at_ @ca 0).1,(at_ @ca 0).2 !=@h)=_;rw[G8 h2 @e];simp[z1]
  .rw[af z1,nG,G8 h2 g,af u,af z1]
def Sr(h2:@aX)(k:Nat)(hk:k<n):∀(ks:@o),@iq->wq n @nZ=aK @jQ @cm:=by
 have hn:0<n:=@e;have C:=(fw,hk);have left:∀(ks:@o)(a:ax),bH n a->@iq->ks.foldl @xr a=aK a @jQ:=by intro ks;induction ks with|nil=>intro a A _;exact(uR A.len).symm|cons x l ih=>intro a A ia;have hx:=ia x @v;rw[jE];have S:=Hy h2 hx;rw[zo,ih _ (jl A S) hl];rw[E,fq n @gd,@KZ,(p0,ih _ S hl)];rw[e,ki S.len (B3 h2 _ l @d hl)]
 intro ks;induction ks with|nil=>intro _;show@cm=aK @ai @cm;rw[jJ]|cons x l ih=>intro ia;have hx:=ia x @v;rw[jE];have S:=Hy h2 hx;rw[ah,wq n (@gd++[k]),aK (gw n x) (wq n (l++[k])),(by rw[KS];cases h:l++[k]with|nil=>simp at h|cons y l'=>rfl)];rw[e1,ih hl];rw[ag,fq n @gd,@KZ,(p0,left l _ S hl)];rw[e2,<-ki (B3 h2 _ l @d hl).len C]
def kP(n:Nat)(M:ax)(k:Nat):ax:=aK M (cS n (n-k))
def av2{k:Nat}{M:ax}(hn:0<n)(hk:k<n)(A:bH n M):aK (kP n M k) @cm=M:=by have C:=(fw,hk);rw[gG];unfold kP;rw[<-ki D.len C,(@Cp),(c4,n-k+k),wk,Sq hn,uR A.len]
def av3{k:Nat}{M P:ax}(hn:0<n)(hk:k<n)(B:bH n P)(e:aK P @cm=M):kP n M k=P:=by have C:=(fw,hk);rw[gG];unfold kP;rw[<-e,<-ki C.len D,(@Cp),(c4,k+(n-k)),wk,Sq hn,uR B.len]
def aiL(h2:@aX){r:Row}(H:@G)(J:@ap)(A:HA n K){w:Way}(hw:@r1){k:Nat}(hk:k<n):kP n @fW k∈@ib:=by
 have hn:0<n:=@e;rw[nt,@vS,@yK,zp.2 hw.1];rw[e]at hw;let{o1,o2}:=lK.init (n:=n) hw.2.1;rw[mr,hw.2.1,hw.2.2];have P:=B3 h2 _ it @d o1;have C:=(fw,o2);rw[gG];have hc:(l+(n-k))%n<n:=@im;have T:=qr (n:=n) h2;have j:=(fw,hc);have:kP n @fW k=fq n (it++[(l+(n-k))%n]++[0]):=by
  rw[wP,wP];unfold kP;rw[<-hM,<-ki C.len D,(@Cp)];have e0:gw n 0=@ca:=by unfold gw;rw[Sq hn,jJ]
  rw[e0];unfold gw;rw[<-ki (jl j T).len T,<-ki T.len T,av1 h2,uR j.len]
 rw[aa];exact A.all _ ((o1.snoc hc).snoc hn)
def z5(a b:@o):@u:=@eU<@bX\/(@eU=@bX/\iK a b)
def av4{r:Row}(H:@G)(J:@ap)(h2:@aX)(h6:n<=6)(hc:@dM)(A:HA n K){w:@o}(hw:@FD)(uh:@FE):@zh:=by
 have hn:0<n:=@e;have B:=Hx H J;let{k,b,hk,hb,rfl}:=hw;have d:=A.best _ hb;have a:rF n r q (b++[k]):=by rw[ab,@v,d.ok.snoc hk];rw[Sr h2 k hk b d.ok,d.prod,av2 hn hk B];exact avZ H J
 have i:∀w',rF n r q w'->z5 (b++[k]) w':=by
  intro w' j;rw[nt,@mq,@mq-1,zp.2 j.1];rw[e]at j⊢;let{o1,o2}:=lK.init (n:=n) j.2.1;have P:=B3 h2 _ it @d o1;rw[mr,j.2.1,j.2.2];have c:=av3 hn o2 P hM;let{x,g,L}:=MN (aiL h2 H J A a o2);have f:=A.best x g;have Z:=uh l x.2 o2 (G,L,g);have um:fq n it=x.1:=(r,L,c);have f1:=f.few it o1 um;rcases dH x.2.length it.length with z|z;.unfold z5 at Z⊢;simp only[dj,uJ]at Z⊢;left;omega
  .have hl:it.length=@il:=@e;have f2:=f.first it o1 um hl;have O:iK (x.2++[l]) (it++[l]):=EJ hl.symm f2 (λ_=>@L);unfold z5 at Z⊢;rcases Z with Z|⟨Z,lg⟩;.left;simp only[dj,uJ]at Z⊢;omega
   .right;simp only[dj,uJ]at Z⊢;exact{@e,Mx lg O @aS @aS}
 rcases ahk H J h2 h6 with⟨_,h⟩|⟨U,e0,i0,m0,f0⟩;rw[ai,a,h _]
 .rw[e0];have l1:=m0 _ a;have l2:=i _ i0;have hl:@mw=(cF,b,k):=by
   rcases l2 with z|z;.omega
   .exact z.1.symm
  rcases l2 with z|⟨_,z⟩;.omega
  .exact dg some (Hr hl (f0 _ a hl.symm) z)
def av5(h:n<=6):@uC<=2985984:=by rw[Ro,Ek];match n,h with|0,_=>decide|1,_=>decide|2,_=>decide|3,_=>decide|4,_=>decide|5,_=>decide|6,_=>decide
def di(p:Int):Nat:=(cv,p,17,2,p,18,2,(H,p,22,1,0))
def tI(p:Int):@an:=decide (p=1\/p=10\/p=14\/p=18\/p=20\/p=22)
def av6(p:Int):(sP p=@r/\¬@By)\/(@By/\sP p=some (di p,(L,tI p,0,1))):=by
 by_cases h:@By;.right;rw[ae,h];rw[az,p=0\/p=1\/p=2\/p=3\/p=4\/p=5\/p=6\/p=7\/p=8\/p=9\/p=10\/p=11\/p=12\/p=13\/p=14\/p=15\/p=16\/p=17\/p=18\/p=19\/p=20\/p=21\/p=22];rcases this with z|z|z|z|z|z|z|z|z|z|z|z|z|z|z|z|z|z|z|z|z|z|z<;>subst z<;>rfl
 .left;rw[aP,h];unfold sP;repeat rw[bX]
def av7{p:Int}{r:@J}{c:List @J}{t:@J}(h:@Cy):0<=p/\p<=22/\di p<=r.length/\(tI p=@h->c=[p::@sv]/\t=@su)/\((F,tI p)->∃k rest,@su=k::@bl/\0<=k/\@JD/\c=[p::@sv,rest.take @gn]/\t=rest.drop @gn):=by
 rcases av6 p with⟨e,_⟩|⟨hp,e⟩;.unfold KZ at h;dsimp only at h;rw[e]at h;cases h
 .unfold KZ at h;dsimp only at h;rw[e]at h;dsimp only at h;by_cases hl:r.length<di p;rw[ev,hl]
  .rw[bd,hl];refine{hp.1,hp.2,@e,λhn=>?_,λhn=>?_};.rw[hn,(@ax)]at h;injection h with h;injection h with Z h2;exact{@pN,@mn}
   .rw[hn,(@dT)]at h;show∃k rest,_;unfold aTL at h;cases hd:r.drop (di p)with
    |nil=>rw[cV,hd]
    |cons k rest=>
     rw[hd]at h;unfold aTM at h;dsimp only at h;by_cases hk:0<=k/\@JD;.rw[a0,hk];injection h with h;injection h with Z h2;exact{k,@bl,@d,hk.1,@iz,@pN,@mn}
     rw[ew,hk]
def av8{f:Nat}{p:Int}{r:@J}{cs:(ej,@J)}(h:zA sP f (p::r)=some cs):∃c t cs' f',@Cy/\zA sP f' t=some cs'/\cs=c::cs':=by cases f with|zero=>cases h|succ f=>unfold zA at h;cases e:KZ sP (p::r)with|none=>rw[gg]|some x=>let{c,t}:=x;rw[e]at h;dsimp only at h;cases e2:zA sP f t with|none=>rw[cV,e2]|some cs'=>rw[e2]at h;injection h with h;exact{c,t,cs',f,@d,e2,h.symm}
def av9{f:Nat}{cs:(ej,@J)}(h:zA sP f []=some cs):cs=[]:=by cases f with|zero=>rw[i7]|succ f=>rw[i7]
def iB{α:@az}(step:@t5):α->fP->α×@fx|s,[]=>(s,@r)|s,x::l=>match step s x.1 with|none=>(s,some x.2)|some s'=>iB @cx s' l
def B4{step:@t5}{s:α}{x:@n5}(h:step s x.1=@r):iB @cx s @gd=(s,some x.2):=(r,iB,h)
def B5{step:@t5}{s s':α}{x:@n5}(h:step s x.1=some s'):iB @cx s @gd=iB @cx s' l:=(r,iB,h)
def lM(step:@t5)(b:@nW)(s:α)(t:xF):α×Int:=if@ef then(s,-7)else((iB @cx s @dA).1,match(iB @cx s @dA).2 with|some q=>@kF|none=>(L,b (iB @cx s @dA).1,0,-1000-cY @ah))
structure Rs where
 moves:@Q
 mc:Mc
def iX(n:Nat)(sv:Bool)(s:Rs)(t:Tok):Option Rs:=match me n s.mc t with|some m=>some ⟨s.moves,m⟩|none=>(da,sv=@h/\s.mc.want=@iI/\t=@f9/\s.mc.outer=[],{s.moves++[s.mc.mv],@e7})
def pA(s:Rs):@an:=@Bf&&@y_
def wQ{sv:Bool}{ms:@Q}{m m':Mc}{t:Tok}(h:me n m t=some m'):iX n sv ⟨ms,m⟩ t=some ⟨ms,m'⟩:=by unfold iX;dsimp only;rw[h]
def wR{sv:Bool}{ms:@Q}{m:Mc}{t:Tok}(h:me n m t=@r)(hn:¬(sv=@h/\@t2=@iI/\t=@f9/\@kk=[])):iX n sv ⟨ms,m⟩ t=@r:=by unfold iX;dsimp only;rw[h];dsimp only;rw[af hn]
def aiM(n:Nat)(sv:Bool)(s:Rs):iX n sv s @eP=@r:=by let{ms,m}:=s;refine wR ?_ (λh=>by cases h.2.2.1);let{mv,w,o}:=m;cases w<;>rfl
def yc{n:Nat}{sv:Bool}{ms:@Q}:∀{l:fP}{m m':Mc}{l2:fP},(cf,m,l,m')->iB (iX n sv) ⟨ms,m⟩ (l++l2)=iB (iX n sv) ⟨ms,m'⟩ l2|[],m,m',l2,h=>@nL|x::l,m,m',l2,h=>by cases e:me n m x.1 with|none=>rw[ey,iJ]|some m1=>rw[iJ,e]at h;rw[KS,B5 (wQ e)];exact yc h
def av_(hn:0<n)(ht:¬@ef):(pa,∀w,P6 n t=.ok w->@fU/\lM @tE pA {[],@e7} t=({[],@gg},0)/\oB w=@Lc,P6 n t,@tE):=by
 let{Z,h2}:=auS hn t;unfold lM;rw[af ht];rw[eu,@sz];.let{a,b,c}:=Z w hw;rw[jf,b];rw[gk]at e;rw[ad,a,?_,c];rw[e];rfl
 .rcases h2 q U with⟨l1,x,r,m',a1,M,J,I⟩|⟨m',a1,M,J⟩;.rw[a1,yc M,B4 (wR J (λh=>by cases h.1))];show-1000-cY x.2=_;rw[I]
  .rw[jf,a1];rw[gk]at e;rw[e];show(ee,pA ⟨[],m'⟩)=_;rw[af,M];intro h;unfold pA at h;rw[dJ,bU,bU]at h;have:=J h.1;have h3:=h.2;dsimp only at h3;omega
def Ss{n e:Nat}(hn:0<n):∀(f:Nat)(l:fP)(ms:@Q),@R<f->(gK,(mP,∃G w,L=G++[w]/\@B9=({ms++G.map (cA n),@gg},@r)),Bp n e f l,(∃s,@B9=(s,some q))\/∃s,@B9=(s,@r)/\(F,pA s)/\q=e)
 |0,l,ms,h=>@e
 |f+1,l,ms,hl=>by
  let{_,h2,h3}:=Rg (e:=e) hn (f+1) l hl;rw[By]at h2 h3;have semi:∀(w:qg)(p:Nat)(r:fP),iB @mW {ms,@gg} ((@f9,p)::r)=iB @mW {ms++[@gD],@e7} r:=by intro w p r;refine B5 ?_;show iX n @h {ms,@gg} @f9=_;unfold iX;have:me n @gg @f9=@r:=rfl;dsimp only;rw[aa];dsimp only;rw[ai @ur]
  rw[eu,λL hw=>?_]
  .let{l1,w,rest,e1,e2,_,e4}:=h2 L hw;rcases e4 with⟨rfl,rfl⟩|⟨p,r,a,rfl,rfl,hr⟩;.rw[av,[],w,@d];rw[e1,yc e2];rw[xG,gk];rfl
   .let{G,w',rfl,e5}:=(Ss (e:=e) hn f r (ms++[@gD]) @D5).1 a hr;rw[av,w::G,w',@d];rw[e1,yc e2,semi,e5,cb,eM];rfl
  .rcases h3 q U with hb|⟨l1,w,p,r,e1,e2,hr⟩
   .rcases hb with⟨l1,x,r,m',a1,M,J,I,a5⟩|⟨m',a1,M,J⟩;.left;rw[ae,⟨ms,m'⟩];rw[a1,yc M,B4 (wR J @b_),I];have:=a5 @eK @kQ;rw[h.2.2.2]at this;exact(fl,this)
    .right;have e:=yc (sv:=@h) (ms:=ms) (l2:=[]) a1;rw[gk]at e;rw[ap,⟨ms,m'⟩,e,?_,M];cases hm:pA ⟨ms,m'⟩with|false=>rfl|true=>unfold pA at hm;rw[dJ,bU,bU]at hm;have:=J hm.1;have h3:=hm.2;dsimp only at h3;omega
   .have:=(Ss (e:=e) hn f r (ms++[@gD]) @D5).2 q hr;rw[e1,yc e2,semi];exact this
def awa(hn:0<n)(ht:¬@ef):(pa,∀L,aP8 n t=.ok L->@sy/\∃G w,L=G++[w]/\lM @mW pA {[],@e7} t=({G.map (cA n),@gg},0),aP8 n t,@mW):=by
 let{Z,h2}:=Ss (e:=@ah) hn ((lw t).length+1) @dA [] @e;have h0:=(Rg (e:=@ah) hn ((lw t).length+1) @dA @e).1;unfold lM;rw[af ht];rw[eu,λL hw=>{(h0 L hw).2,?_}];.let{G,w,e1,e2}:=Z L hw;rw[av,G,w,e1];rw[e2,Bt];rfl
 .rcases h2 q U with⟨s,e⟩|⟨s,e,e2,e3⟩;.rw[e]
  .rw[e];show(ee,pA s)=_;rw[e2,e3];rfl
def wS(m:Cm):@an:=(B,@t2,@gK)&&! m.wait.contains @bE
def awb(n:Nat)(m:Cm):iV n m @eP=@r:=by let{s,w,o}:=m;cases w<;>rfl
def MP{n:Nat}:∀{l:fP}{m m':Cm}{l2:fP},(fd,m,l,m')->iB (iV n) m (l++l2)=iB (iV n) m' l2|[],m,m',l2,h=>@nL|x::l,m,m',l2,h=>by cases e:iV n m x.1 with|none=>rw[ey,lI]|some m1=>rw[lI,e]at h;rw[KS,B5 e];exact MP h
def aiN{m:Cm}:wS m=@h↔Ho m:=by unfold wS Ho;rw[dJ,bU,xM,<-KJ,gA]
def awc(ht:¬@ef):(qq,lM (iV n) wS @ov t=(m,0)/\(kn,1)=[]/\(nO,(gu,1))/\(eA,fo (gu,1)))/\(∀q,Qa n t=@hI->(lM (iV n) wS @ov t).2=@kF):=by
 let{Z,h2}:=avg (n:=n) t;unfold lM;rw[af ht];rw[eu,@gW];.let{a1,M,m,J,I,a5}:=Z x hx;have e:=MP (l2:=[]) J;rw[gk]at e;refine{a1,M,m,?_,a5};rw[e];show(m,(L,wS m,@d7,_))=_;rw[ai (aiN.2 I)]
 .rcases h2 q U with⟨l1,x,r,m',b1,b2,O,R⟩|⟨m',b1,b2,O⟩;.rw[b1,MP b2,B4 O];show-1000-cY x.2=_;rw[R]
  .have e:=MP (l2:=[]) b1;rw[gk]at e;rw[e];show(ee,wS m')=_;rw[af (λh=>O (aiN.1 h)),b2]
def aiO:(d4,xL l<@xK)|[]=>@Z|x::l=>by have ih:=aiO l;show@K9*dE @R+xL l<@nI*dE @R;have Z:(g_,@K9):=o8 _ _;have h2:=DL @xK Z;rw[Bj,aeY];omega
def aiP:∀(l:@cs)(a k:Nat),a<2^k->l.foldl (λn b=>2*n+@b1) a<2^(k+@R)|[],a,k,h=>h|b::l,a,k,h=>by have hb:@b1<=1:=@s7;have:=aiP l (2*a+@b1) @aV (af,Dz);rw[zo,cX];rwa[(v,k+@nI=@aV+@R)]
def awd(H:@ap)(h0:0<n):DO q<@br:=by
 unfold DO eA;dsimp only;rw[H.len];by_cases h:@aU;.rw[aG,h,h];cases(q.map kg).headD false<;>decide
 .rw[af h,af h];have:=aiP (q.map kg).dropLast 0 0 @Z;rw[oz,asQ,au,H.len]at this;exact this
def awe(H:@ap)(h0:0<n):rank q<uI n:=by unfold rank uI;rw[H.len];have Z:=aiO @cZ;rw[show@nM by unfold bD;rw[au,H.len]]at Z;have h2:=awd H h0;have h3:(xL @cZ+1)*@br<=dE n*@br:=DL _ Z;rw[Bj,aeY]at h3;rw[zv @br];omega
def awf{k:Nat}(h:k<10^100):k.log2<1920:=by
 have h2:k<2^400:=afm h @Z;by_cases hk:k=0;.rw[hk];decide
 rw[aQ,(aP9 hk).2 h2]
def aiQ{h:ax}(G:@aB):(h.map @aA).Perm (br n):=by
 refine LQ ?_ ?_ (by rw[lu,au,G.len];exact@L);.rw[oy,oZ];intro i j hi hj E e;rw[au]at hi hj;rw[iI,iI]at e;have:=G.inj i j (G,G.len,hi) (G,G.len,hj) (ai,f_ hi,f_ hj,e);omega
 .intro x hx;rw[fE];exact ja.2 (nI G y hy)
def aiR{r:Row}(hl:@c9):(fa,λi=>@y2)=r:=by apply uC (by simp[hl]);intro i Z h2;rw[iI,o0,dy,bX h2];rfl
def HD{r:Row}{h:ax}(H:@G)(G:@aB):aG n @hY:=by rw[ae,(j8,G.len)];rw[E,(done h r).map fK,(h.map @aA).map λi=>(fL,i),by unfold done;rw[bC,bC];rfl];rw[e];refine((aiQ G).map _).trans ?_;rw[iG,(fL,i),@q5];rw[aa];exact@pJ
def aiS{r:Row}{h:ax}(H:@G)(G:@aB)(c:Nat):qf c r @hY=((br @bq).map λj=>let x:=at_ h j;j+(x.1+az x.2)).all λz=>z%2==c:=by
 have J:=HD H G;have key:∀j,j<n->(bI,@AN,bB @hY @AN)=(j+(@eN+az @lx))%2:=by intro j hj;have W:=Mi (h:=h) (r:=r) (i:=j) (d,G.len,hj);have hx:=G.lt j hj;have e1:=mW J hj;have e2:=mW H hx;have e3:@AN=(b4,@eN):=(O,W);have e4:(cd @hY j).up=((cd r @eN).up !=@lx):=(O,W);rw[e1,e3,e2,e4,LS];omega
 unfold qf;rw[rD H];rw[aD];rw[iR,iR];constructor;.intro ha z hz;let{j,hj,rfl}:=bf.1 hz;have g:j<n:=(G,G.len,ja.1 hj);have:=ha _ (jm.2 (pk J g));rw[key j g]at this;exact this
 .intro ha no ck;let{b1,b2}:=jm.1 ck;rw[eL];have:=ha _ (iX,ja.2 (d,G.len,p1));dsimp only at this;rw[<-key _ p1,p2]at this;exact this
def aiT:∀h:ax,(h.filter λx=>x.2).length=(i5,x.2)|[]=>rfl|x::h=>by rw[dl,aiT h];cases x.2<;>simp[az];omega
def aiU:∀(h:ax)(f:@bv),(i5,f x.1 !=x.2)%2=((i5,f x.1)+(i5,x.2))%2|[],f=>rfl|x::h,f=>by have ih:=aiU h f;rw[cb,cb,cb,ij,ij,ij,LS];omega
def awg{r:Row}{h:ax}(H:@G)(G:@aB):dR r @hY=afn h:=by
 have J:=HD H G;rw[a6];.unfold dR afn;rw[H.len,ai hn,aiS H G,aiS H G];dsimp only;rw[G.len,ai hn]
 .rw[qp H J @e];unfold afn;dsimp only;rw[G.len,af hn,aiT];rw[ah,(done h r).map @gB,h.map (cZ,(dO,x.1)!=x.2),by unfold done;rw[bC];rfl];have e2:=aiU h (λi=>(dO,i));have e3:(i5,(dO,x.1))=@cR:=by
   have p:(h.map (cZ,(dO,x.1))).Perm (r.map @gB):=by have q:=(aiQ G).map λi=>az (dO,i);rw[bC]at q;refine q.trans ?_;rw[iG,az (dO,i),r.map @gB];rw[aa]
   exact p.sum_nat
  rw[e1];rw[e3]at e2;rw[aD];rw[bU,eW,e2];omega
end My
namespace PySem
open Sem(wp)
section
variable{prog:cE}{w:cn}{K:@az}[DecidableEq K](knd:@Cq)
inductive ItemsNest(h:bV):(Y,@dX,@O)|nil:ItemsNest h [] []|cons{k:List K}{b:aa}{ks:@dX}{vs:@O}:aP_ knd h k b->ItemsNest h ks vs->ItemsNest h (k::ks) (@aH::vs)
def IsNestKey(h:bV)(ks:@dX)(a:aa):@u:=∃o items n,@kI/\@iB=@dR/\@eQ=@w3/\(eE,h,ks,@qd)
variable{knd}
def ItemsNest.inj{h:bV}{x y:@dX}{vs:@O}(hx:(eE,h,x,vs))(hy:(eE,h,y,vs)):x=y:=by induction hx generalizing y with|nil=>cases hy;rfl|cons Z _ ih=>cases hy with|cons h2 t2=>rw[Z.inj h2,ih t2]
def ItemsNest.keeps{h h':bV}{ks:@dX}{vs:@O}{d:aa}{o:bA}{es ep}(x:(eE,h,ks,vs))(N:@te)(hd:@hn)(hs:Gu d h h'):(eE,h',ks,vs):=by induction x with|nil=>rw[bp]|cons Z _ ih=>rw[cO,Z.keeps N hd hs]
def IsNestKey.typeIs{s:aF}{ks:@dX}{a:aa}(x:@z1):s.TypeIs @W "tuple":=let⟨o,_,_,N,hc,_⟩:=x;⟨o,N,hc⟩
def IsNestKey.inj{h:bV}{a:aa}{x y:@dX}(hx:(fS,h,x))(hy:(fS,h,y)):x=y:=by let{o,items,n,N,_,hd,hi}:=hx;let{o',b,z,j,_,U,g}:=hy;obtain rfl:o=o':=bZ (N.symm.trans j);rw[hd]at U;injection U with Z _;subst Z;exact hi.inj g
def IsNestKey.keeps{h h':bV}{ks:@dX}{a d:aa}{o:bA}{es ep}(x:(fS,h,ks))(N:@te)(hd:@hn)(hs:Gu d h h'):(fS,h',ks):=by
 let{o',items,n,j,hc,U,hi}:=x;have aI:a≠d:=by rintro rfl;obtain rfl:o'=o:=bZ (j.symm.trans N);rw[hd]at U;exact nomatch U
 exact{o',@cH,n,(hs.2 a aI).trans j,hc,U,hi.keeps N hd hs}
def nestDraws(ks:@dX):Nat:=(ks.map λk=>k.length+1).sum
def nestKeyHash(knd:@Cq)(ks:@dX):Int:=aQa (K0 (ks.map (K1 knd)))
variable{A:dQ}{E:@ac}{s:aF}
def wpAny_pyHash_nest{ks:@dX}{a:aa}{Q:(bg,Int)}(hu:@ho)(hk:@z1)(h:Q (nestKeyHash knd ks) {s with toks:=@bk+(nestDraws ks+1)}):(bc,pyHash @W):=by
 have hT:=hk.typeIs;let{o,items,n,N,_,hd,hi}:=hk;unfold pyHash;first|unfold pyHashByItsType|skip
 first|rw[x,wpAny_cRoomFor_or (.inr @e) ?_]|skip
 rw[x,Gv hT afo.lookup ?_];show aX _ _ (ee,some (Value.builtin "tuple.__hash__")==some xQ) Q E s;rw[af (d,beq_builtin_none,iA)];rw[x,Gv hT afo.lookup ?_];show aX _ _ (callSpecialIfBoundUnlessNone? @W "__hash__" _>>=_) Q E s;rw[x,wpAny_callSpecialIfBoundUnlessNone?_slot hT afo (Gw afo hT F.entry_tuple_hash ?_ (F.args_tuple_hash_1 _))];rw[bt,aTN @W];rw[dR,N,hd];rw[aJ];rw[<-asR];refine(g9,λrest(b:Array Int)s'=>∃done left,ks=@hv++@au/\(eE,@am,@au,@bl)/\b.toList=done.map (K1 knd)/\s'=@Kh,{[],ks,@d,hi,@d,@d});.rintro x rest b s'⟨done,left,rfl,hl,hb,rfl⟩;cases hl with|@cons k d c _ Z j=>rw[E,nestDraws (@hv++[k]),nestDraws @hv+(k.length+1),by unfold nestDraws;rw[bh,Dv];simp];rw[x,wpAny_pyHash_tuple (s:=@Kh) (by first|exact hu|omega|(simp[aTO];omega)) Z ?_];first|exact b5 @II|exact aV (e7,@II)
 .rintro b s'⟨done,left,rfl,hl,hb,rfl⟩;cases hl;rw[gk]at h;rw[bB,retInt (K0 b.toList)];rw[hb];refine aQb ?_;show aX _ _ (ee,(bY,-(u,2)^63,@sK)&&(ap,@sK,2^63)) Q E _;unfold nestKeyHash aQa at h;by_cases hr:(bv,(bY,-(u,2)^63,@sK),(ap,@sK,2^63));.rw[ai hr];rw[a0,hr];exact@Lp
  .rw[af hr];rw[bd,hr];exact aV (Qi @Lp)
def nest_eq_tree{x y:@dX}{a b:aa}{P:(bg,Fin)}(hu:@tp)(hx:(fS,@am,x))(hy:@GR)(h:(sC,@up)):(kU,Builtin.«tuple.__eq__» ⟨[@W,@aH],[]⟩,P):=by
 have D:=hy.typeIs;let{R,xs,H,I,_,z,t}:=hx;let{ob,ys,F,p,_,j,q}:=hy;rw[bt,afp @aH @dR];rw[eY,D];simp only[Bz,mO,kG];rw[dR,I,z];rw[dR,p,j];rw[aJ];refine(g9,(ny,∃d B g c,@bl=List.zip g c/\(eE,@am,d,g)/\(eE,@am,B,c)/\(B,d,B)=(B,x,y)/\(@eV==@cJ)=@AE),{@d,@d,x,y,xs.toList,ys.toList,@d,t,q,@d,@v})
 .rintro⟨u,v⟩rest r s'⟨hr,rfl,d,B,g,c,hz,C,O,l,bG⟩;cases C with
  |nil=>simp at hz
  |@cons k1 b1 i m Z o=>
   cases O with
   |nil=>simp at hz
   |@cons k2 b2 e k h2 n=>
    simp only[P7,aTP,aTQ]at hz;let{{rfl,rfl},rfl}:=hz;rw[x,aQc (x:=k1) (y:=k2) hu Z h2 ?_];by_cases hk:k1=k2
    .subst hk;rw[(@eG)];simp only[Bz,mO,kG];refine b5 {@d,@d,i,e,m,k,@d,o,n,?_,by simpa using bG};rw[<-l];by_cases f:i=e;.simp[f]
     .simp[f]
    .rw[cG hk];simp only[asS,iQ];have hf:(F,@up):=by rw[<-l];simp[hk]
     rw[hf]at h;exact aV (e7,b5 h)
 .rintro⟨G,r2⟩s'⟨hr,rfl,d,B,g,c,hz,C,O,l,bG⟩;simp only at hr;subst hr;refine@dH;have ab1:@AE=(B,x,y):=by
   rw[<-l,<-bG];cases C with
   |nil=>cases O with|nil=>simp|cons _ _=>simp
   |cons _ _=>cases O with|nil=>simp|cons _ _=>simp at hz
  show P (.done (.ret (.bool @AE))) s';rw[ab1];exact h
def wpAny_eqBool_nest{x y:@dX}{a b:aa}{Q:@tg}(hu:@ho)(hx:(fS,@am,x))(hy:@GR)(h:Q @up s):(bc,eqBool @W @aH):=by
 unfold eqBool;try with_reducible refine xR ?_
 show aX _ _ (ee,cy a==cy b) Q E s;by_cases d:(c3,cy a,cy b);.rw[ai d];rw[E,a,b,by have:=eq_of_beq d;injection this];subst e;obtain rfl:=hx.inj hy;exact aV (Qi (b5 @c7))
 rw[bk,d,aV (aQd (op:=.Eq) hx.typeIs hy.typeIs afr (Gw afr hx.typeIs F.entry_tuple_eq (nest_eq_tree (by first|exact hu|(show@ho;exact hu)|omega) hx hy {_,@d,@q7,BA h}) (F.args_tuple_eq_2 _ _)) @e)]
def wpAny_eqIsQuiet_tupleN{ks:List K}{a:aa}{n:Nat}{Q:@tg}(hk:aP_ knd @am ks a)(h:Q @h s):(bc,afs (n+1) @W):=by
 have hT:=hk.typeIs;let{o,items,z,N,_,hd,hi}:=hk;unfold afs;rw[x,Gv hT afr.lookup ?_];rw[bt,afp @W @dR];rw[eY,hT];simp only[Bz,mO,kG];rw[x,K3 N hd ?_];rw[aJ];rw[bS,forIn @cH _ _];rw[<-asR];refine(g9,(ny,∀v∈rest,carriedByValue v=@h),(fg,hi.byValue));.rintro v rest r s'⟨hr,rfl,L⟩;rw[eqIsQuiet_byValue _ (L v mP)];rw[bJ];simp only[Bz,mO,kG];exact b5 (fg,λu M=>L u (f6 _ M))
 .rintro⟨G,r2⟩s'⟨hr,rfl,_⟩;simp only at hr;subst hr;exact b5 h
def wpAny_eqIsQuiet_nest{ks:@dX}{a:aa}{Q:@tg}(hk:@z1)(h:Q @h s):(bc,afs 8 @W):=by
 have hT:=hk.typeIs;let{o,items,z,N,_,hd,hi}:=hk;unfold afs;rw[x,Gv hT afr.lookup ?_];rw[bt,afp @W @dR];rw[eY,hT];simp only[Bz,mO,kG];rw[x,K3 N hd ?_];rw[aJ];rw[bS,forIn @cH _ _];rw[<-asR];refine(g9,(ny,∃c,(eE,@am,c,@bl)),{@d,@d,ks,hi});.rintro v rest r s'⟨hr,rfl,c,L⟩;cases L with|cons Z t=>rw[x,wpAny_eqIsQuiet_tupleN (n:=6) Z ?_];simp only[Bz,mO,kG];exact b5 {@d,@d,_,t}
 .rintro⟨G,r2⟩s'⟨hr,rfl,_⟩;simp only at hr;subst hr;exact b5 h
end
def nestKind{prog:cE}{w:cn}{K:@az}[DecidableEq K](knd:@Cq):HeapKind @cW w @dX where
 is:=IsNestKey knd
 hash:=nestKeyHash knd
 draws:=λks=>nestDraws ks+1
 room:=λA=>@ho
 inj:=λhx hy=>hx.inj hy
 keeps:=λx N hd hs=>x.keeps N hd hs
 pyHash:=λhu hk h=>wpAny_pyHash_nest hu hk h
 eqBool:=λhu hx hy h=>wpAny_eqBool_nest hu hx hy h
 quiet:=λhk h=>wpAny_eqIsQuiet_nest hk h
end PySem
section
namespace L2
open PySem PySem.Spec PyProof.Rows
abbrev aW:=Sum Int aq
def ye:aW->ah->@an|.inl k,v=>aQe k v|.inr x,v=>aQf x v
def gE(w:cn):aW->Int|.inl k=>hashInt k|.inr x=>hashStr w x
def wT:∀{k:aW}{v:ah},ye k v=@h->(∃i t,k=iT i/\v=K4 i t)\/(∃x t,k=uK x/\v=aft x t)|.inl i,v,h=>by let{t,e}:=Value.isInt_shape (k:=i) (v:=v) h;exact .inl {i,t,@d,e}|.inr x,v,h=>by let{t,e}:=Value.isStrOf_shape (x:=x) (v:=v) h;exact .inr {x,t,@d,e}
def awh(i:Int)(t:Tok):ye (.inl i) @mS=@h:=by simp[ye,aQe]
def awi(x:aq)(t:Tok):ye (.inr x) (.str x t)=@h:=by simp[ye,aQf]
def awj(a b:Int):(B,(iT a:aW),iT b)=(a==b):=by
 by_cases e:a=b;.subst e;simp
 .have h:¬(iT a:aW)=iT b:=λq=>e (wy q);rw[cG h];exact(q_.mpr e).symm
def awk(a b:aq):(B,(uK a:aW),uK b)=(B,a,b):=by
 by_cases e:a=b;.subst e;simp
 .have h:¬(uK a:aW)=uK b:=λq=>e (afu q);rw[cG h,cG e]
def awl(a:Int)(b:aq):(F,(B,(iT a:aW),uK b)):=cG @ml
def awm(a:aq)(b:Int):(F,(B,(uK a:aW),iT b)):=cG @ml
def g9(prog:cE)(w:cn):PySem.KeyKind @cW w aW where
 is:=ye
 hash:=gE w
 inj:=λv a b ha hb=>by
  rcases wT ha with⟨i,t,rfl,rfl⟩|⟨x,t,rfl,rfl⟩;.rcases wT hb with⟨j,u,rfl,e⟩|⟨y,u,rfl,e⟩;rw[iE];.exact@qf
  .rcases wT hb with⟨j,u,rfl,e⟩|⟨y,u,rfl,e⟩;.exact@qf
   rw[iE]
 byValue:=λk v h=>by rcases wT h with⟨i,t,rfl,rfl⟩|⟨x,t,rfl,rfl⟩<;>rfl
 pyHash:=λhv h=>by
  rcases wT hv with⟨i,t,rfl,rfl⟩|⟨x,t,rfl,rfl⟩;.exact wpAny_pyHash_int h
  .exact wpAny_pyHash_str h
 eqBool:=λhu hv h=>by rcases wT hu with⟨i,t,rfl,rfl⟩|⟨x,t,rfl,rfl⟩;rw[kA,awj,wpAny_eqBool_int h,awl,aQg i t y u _ _ _ _ h];rw[kA,awm,aQh x t j u _ _ _ _ h,awk,wpAny_eqBool_str h]
 «strs»:=λk x t v h=>by
  rcases wT h with⟨i,u,rfl,e⟩|⟨y,u,rfl,e⟩;.exact@qf
  .injection e with e1 _;subst e1;cases v<;>rfl
def awn(prog:cE)(w:cn)(i:Int)(t:Tok):(g9 @cW w).is (.inl i) @mS=@h:=awh i t
def awo(prog:cE)(w:cn)(x:aq)(t:Tok):(g9 @cW w).is (.inr x) (.str x t)=@h:=awi x t
end L2
namespace L2
open PySem PySem.Spec PyProof.Rows
inductive V where|non|bl(b:Bool)|int(i:Int)|str(x:aq)|byt(b:Array UInt8)|flt(b:UInt64)|ref(a:aa)|ty(n:String)deriving DecidableEq
def RelV:(Y,V,ah)|.non,u=>u=xQ|.bl b,u=>u=DQ b|.int i,u=>∃t,u=K4 i t|.str x,u=>∃t,u=aft x t|.byt b,u=>∃t,u=aQi b t|.flt b,u=>∃t,u=aQj b t|.ref a,u=>u=cy a|.ty n,u=>u=xS n
abbrev bi:(Y,@F,@O):=Paired RelV
def bi.length{xs:@F}{us:@O}(r:@c6):@X=@wi:=Paired.length r
def bi.get:∀{xs:@F}{us:@O}{i:Nat}{x:V},@c6->@dl->∃u,(C,us,u)/\@jN|_,_,_,_,.nil,e=>by simp at e|_,_,0,_,.cons r _,e=>by simp at e;subst e;exact(am,r)|_,_,i+1,x,.cons _ t,e=>by let{u,Z,h2}:=bi.get (i:=i) (x:=x) t @yE;exact{u,@s8,h2}
def bi.set{x:V}{u:ah}(r:@jN):(pl,xs.set i x,us.set i u)|_,_,_,.nil=>@ay|_,_,0,.cons _ t=>.cons r t|_,_,i+1,.cons q t=>.cons q (bi.set r i t)
def bi.append:∀{xs ys:@F}{us L:@O},@c6->bi ys L->bi (xs++ys) (us++L)|_,_,_,_,.nil,s=>s|_,_,_,_,.cons r t,s=>.cons r (bi.append t s)
def bi.take:(pm,xs.take n,us.take n)|_,_,0,_=>@ay|_,_,_+1,.nil=>@ay|_,_,n+1,.cons r t=>.cons r (bi.take n t)
def bi.drop:(pm,xs.drop n,us.drop n)|_,_,0,r=>r|_,_,_+1,.nil=>@ay|_,_,n+1,.cons _ t=>bi.drop n t
def km:(Y,@ag,@gz)|some v,some u=>@da|none,none=>True|_,_=>False
def KV{κ:@az}:(Y,@cV,@lA):=Paired λ(p:κ×V)(q:κ×ah)=>p.1=q.1/\RelV p.2 q.2
def kV:aW->V|.inl i=>@a3|.inr x=>@eo
inductive HO where|lst(xs:@F)|tup(xs:@F)|dK(kvs:@bp)|dT(kvs:@c_)|dN(kvs:@hf)|set(S:Int->@an)(n:Nat)|ins(C dx:aa)(fs:@cU)|own(x:aa)|xd(fs:@cU)|met(f x:aa)|rng(lo hi:Int)|frz(o:bA)(u:HO)|tbl(ps:@cj)|ext(φ:bV->@u)
abbrev Hp:=aa->Option HO
def ag(H:Hp)(a:aa)(o:HO):Hp:=λb=>(H,b,a,some o,H b)
def ao{H:Hp}{a:aa}{o:HO}:(R,ag H a o a):=by unfold ag;rw[ai @d]
def aA{H:Hp}{a b:aa}{o:HO}(h:b≠a):ag H a o b=H b:=by unfold ag;rw[af h]
def pB{H:Hp}{a:aa}{o u:HO}:ag @nQ a u=ag H a u:=by funext b;unfold ag;split<;>rfl
def B6{H:Hp}{a b:aa}{o u:HO}(h:@kL)(h':(P,b,u))(d:o≠u):a≠b:=by intro e;subst e;rw[h]at h';exact d (bZ h')
def du{H:Hp}{a b:aa}{o:HO}(h:@kL)(h':@bP):a≠b:=by intro e;subst e;rw[h]at h';cases h'
def qv(H:Hp)(b:aa)(ks:@fA):@u:=∃ps:@aa,(iC,@bB)/\@EK
section
variable(P:cE)(w:cn)
def e_(H:Hp)(h:bV)(a:aa):HO->@u|.lst xs=>(sp,@kM/\(ck,@gf))|.tup xs=>@X<=a7/\∃aD:@O,@kM/\K5 h a @aR|.dK kvs=>@BI|.dT kvs=>(r1,@is,λ(p:List aW×V)(q:List aW×aa×ah)=>@Fi,BB @ei)|.dN kvs=>(r1,@n4,λ(p:List (List aW)×V)(q:List (List aW)×aa×ah)=>@G8,nestKind @ei)|.set S n=>h.SetOf (intKind P w) a S n|.ins C dx fs=>(P,dx,@rd)/\@qn<=1000/\dx≠a/\(ck,DR C dx)/\∃mA,h.Ns1 dx mA/\@Co/\@Ki|.own _=>∃o,@kI|.xd fs=>∃mA,h.Ns1 a mA/\@Co|.rng lo hi=>∃t u v,(ck,@wQ)|.frz o u=>@kI/\e_ H h a u|.tbl ps=>(ck,@AX)|.met f x=>(ck,asV @b0 @gQ)|.ext φ=>φ h/\(∃o,@kI)/\∀Z h2:bV,φ Z->(∀o,(R,Z.get? a)->(R,h2.get? a))->φ h2
def fT(H:Hp)(h:bV):@u:=∀a o,@kL->@z9
end
section
variable{P:cE}{w:cn}{H H':Hp}{h h':bV}{a:aa}{o:HO}
def e_.lt(x:@z9):a<@go:=by cases o with|lst xs=>let{_,_,_,_,e}:=x;exact@cp|tup xs=>let{_,_,_,p}:=x;exact p.lt|dK kvs=>rw[gi]|dT kvs=>rw[gi]|dN kvs=>rw[gi]|set S n=>let{o,_,_,_,e,_}:=x;exact@cp|ins C dx fs=>let{_,_,_,e,_}:=x;exact@cp|own y=>let{_,e}:=x;exact@cp|xd fs=>let{_,{_,_,_,e,_},_}:=x;exact@cp|rng lo hi=>let{_,_,_,e}:=x;exact@cp|frz ob u=>let{e,_}:=x;exact@cp|tbl ps=>exact dS (show(ck,_)from x)|met f y=>exact dS (show(ck,_)from x)|ext φ=>let{_,{_,e},_}:=x;exact@cp
def Paired.mapP{α β:@az}{F G:(Y,α,β)}:∀{n:@as}{l₂:List β},Paired F n l₂->(∀a b,F a b->G a b)->Paired G n l₂|_,_,.nil,_=>@ay|_,_,.cons r t,f=>.cons (f _ _ r) (Paired.mapP t f)
def e_.stay(x:@z9)(k:∀b u,(b=a\/(P,b,@rd))->(bJ,@eW)->(bJ,@di))(N:∀b,(lg,@rd,@rd))(ht:@Cr):e_ P w H' h' a o:=by induction o with|lst xs=>let{z,aD,n,r,e}:=x;exact{z,aD,n,r,@f7}|tup xs=>let{z,aD,r,ob,e,c}:=x;exact{z,aD,r,ob,@f7,c}|dK kvs=>let{z,y,vs,r,ob,es,ep,e,c}:=x;exact{z,y,vs,r,ob,es,ep,@f7,c}|dT kvs=>rw[kR,ht _ _ @aF]|dN kvs=>rw[kR,let⟨ps,u,v⟩:=z.2.1;@GV]|set S n=>let{ob,es,ep,t,e,c}:=x;exact{ob,es,ep,t,@f7,c}|ins C dx fs=>let{d,z,ne,e,mA,{od,es,ep,e2,c},r}:=x;exact{N _ d,z,ne,@f7,mA,{od,es,ep,k _ _ (.inr d) e2,c},r}|own y=>let{ob,e}:=x;exact{ob,@f7}|xd fs=>let{mA,{od,es,ep,e,c},r}:=x;exact{mA,{od,es,ep,@f7,c},r}|rng lo hi=>let{t,u,v,e}:=x;exact{t,u,v,@f7}|frz ob u ih=>let{e,q}:=x;exact{@f7,ih q}|tbl ps=>rw[ka,@AX,@AX]|met f y=>rw[ka,asV @b0 @k2,asV @b0 @k2]|ext φ=>let{p,{o,e},st}:=x;exact{st _ _ p λo q=>k _ _ @aK q,{o,@f7},st}
def fT.lt(x:@cG)(e:@kL):a<@go:=(x a o e).lt
def fT.fresh(x:@cG)(e:@zS):(I,a):=by cases q:H a with|none=>rfl|some u=>rw[al,o9 (x.lt q) e,xT _]
def fT.kept(x:@cG)(k:(hE,@eW)):fT P w H h':=λa o e=>(x a o e).stay (λb u _ q=>k b u q) (λ_ q=>q) @qL
def fT.laid(x:@cG)(k:(hE,@eW))(hp:@zS)(new:e_ P w @nQ h' a o):fT P w @nQ h':=λb u e=>by have hn:=x.fresh hp;by_cases hb:b=a;rw[jo];.rw[(@dV)]at e;exact(x b u e).stay (λc v _ q=>k c v q) (λc q=>@oD) λc xs q=>@oD
end
def Rd(H:Hp)(a:aa)(u:HO):@u:=(P,a,u)\/∃o,(P,a,@wF)
def Rd.ok{P:cE}{w:cn}{H:Hp}{h:bV}{a:aa}{u:HO}(r:Rd H a u)(x:@cG):e_ P w H h a u:=by
 rcases r with r|⟨o,r⟩;.exact x a u r
 .let{_,q}:=x a _ r;exact q
def yg:Option HO->@u|some (.lst _)=>True|some (.dK _)=>True|some (.dT _)=>True|some (.dN _)=>True|some (.set _ _)=>True|some (.ins _ _ _)=>True|some (.ext _)=>True|_=>False
section
variable{P:cE}{w:cn}{H:Hp}{h h':bV}{x e:aa}{o':HO}
def fT.write(ok:@cG)(j:yg (H x))(he:@B2)(k:(mU,@eW))(D:@AW)(new:e_ P w (ag H x o') h' x o'):fT P w (ag H x o') h':=λb u q=>by
 have n:∀c y,(P,c,.own y)->c≠x:=λc y r z=>(ni,r);have F:∀c xs,(P,c,@d9)->c≠x:=λc xs r z=>(ni,r);by_cases hb:b=x;.subst hb;rw[ao]at q;cases q;exact new
 .rw[(@dV)]at q;by_cases B:b=e
  .have q':(P,b,.own x):=by
    rcases he with z|z;.exact absurd (B.trans z) hb
    rw[s,B,z]
   rw[q]at q';cases q';let{v,hv}:=D;exact{v,(d,B,hv)}
  .refine(ok b u q).stay (λc v hc r=>k c v ?_ r) (λc r=>(D,n c b r,r)) λc xs r=>(D,F c xs r,r);rcases hc with rfl|hc;.exact B
   .rintro rfl;rcases he with z|z;.exact n c b hc z
    .rw[hc]at z;cases z;exact hb @d
end
structure Un(fs ex:@aa)(H H':Hp)(h h':bV):@u where
 keep:∀b o,@gb->@bP->b∉fs->b∉ex->(R,@di)
 slot:∀b o,@gb->@bP->b∈fs->b∉ex->@Lt
 free:∀b o,@gb->@bP->b∉ex->@p2
 there:∀b o,@gb->b∉ex->∃o',@di=some o'
 tups:@Cr
 frzs:@F0
 tbls:@F1
section
variable{fs fs' ex ON:@aa}{H H1 H2:Hp}{h Z h2 h':bV}{a x e:aa}{o:HO}
def Un.any(u:Un fs ex H H1 h Z){b:aa}{ob:bA}(q:@eW=some ob)(n:@bP)(hx:b∉ex):∃D,Z.get? b=some {ob with slots:=D}:=by
 by_cases hb:b∈fs;.exact u.slot b ob q n hb hx
 .exact{ob.slots,u.keep b ob q n hb hx}
def Un.kept(k:(hE,@eW)):(mC,H):={λb ob q _ _ _=>k b ob q,λb ob q _ _ _=>{ob.slots,k b ob q},λ_ _ _ n _=>n,λb ob q _=>{ob,k b ob q},@qL,λ_ _ _ q=>q,λ_ ps q=>{#[],(aX,q)}}
def Un.refl:Un fs ex H H h h:=Un.kept @qL
def Un.laid(k:(hE,@eW))(hp:@zS)(hn:(I,a)):(mC,@nQ)where
 keep:=λb u q _ _ _=>k b u q
 slot:=λb u q _ _ _=>{u.slots,k b u q}
 free:=λb u q n _=>(D,il (o9 (dS q) hp),n)
 there:=λb u q _=>{u,k b u q}
 tups:=λb xs q=>@oD
 frzs:=λb u xs q=>@oD
 tbls:=λb ps q=>{#[],(eJ,aA (du q hn),q)}
def Un.write(j:yg (H x))(he:@B2)(k:(mU,@eW))(D:@AW):(mC,ag H x o):=by
 have hx:∀b,@bP->b≠x:=λb n z=>(ni,n);have hb:∀b,@bP->b≠e:=λb n z=>by
  subst z;rcases he with r|r;.exact hx b n r
  .rw[n]at r;cases r
 have hm:∀b u,(P,b,u)->¬@wV->b≠x:=λb u q nm z=>by subst z;rw[q]at j;exact nm j
 refine{λb u q n _ _=>k b u (hb b n) q,λb u q n _ _=>{u.slots,k b u (hb b n) q},λb u q n _=>(D,hx b n,n),λb u q _=>?_,λb xs q=>@Jx,λb u xs q=>@Jx,λb ps q=>{#[],(eJ,aA (hm b _ q λz=>z),q)}};by_cases B:b=e;.subst B;exact D
 .exact{u,k b u B q}
end
def MQ(h:bV)(H:Hp):@aa:=(br @go).filter λa=>(H a).isSome
def yh(h:bV)(H:Hp):bV:=aTR h (MQ h H)
def awp(h:bV)(H:Hp):(yh h H).objs.size=@go:=aTS _ _
def awq{h:bV}{H:Hp}{b:aa}{o:bA}(e:@gb)(n:@bP):@HP:=aTT _ e λhm=>by have q:(H b).isSome=@h:=(gR.mp hm).2;rw[n]at q;simp at q
def awr{h:bV}{H:Hp}{b:aa}{o:bA}(e:@HP):@gb/\@bP:=by have F:@gb:=aTU (MQ h H) e;rw[ae,F];cases q:H b with|none=>rfl|some x=>have hm:b∈MQ h H:=gR.mpr {ja.mpr (dS F),by simp[q]};have z:(yh h H).get? b=@r:=aTV (MQ h H) hm;rw[z]at e;cases e
end L2
namespace L2
open PySem PySem.Spec PyProof.Rows
structure Mod(K:aM)(mg:@aT)(base:bV):@u where
 kin:K.In @ba
 glob:base.Ns iU mg
 blt:∃M,base.Ns asW M/\@Ha
 nolimit:base.NoLimit
structure Cx where
 prog:cE
 w:cn
 K:aM
 mg:@aT
 base:bV
 A:dQ
 N:@aE
 s_0:aF
 H_0:Hp
 env:jI
 outer:@ep
 stack:@ep
 ex:@aa
 fn:aq->@an
 calm:@an
 pn:@ae
 xe:@ac
def uY(l:@ep):@aa:=l.filterMap (·.frame)
abbrev Cx.fs(X:Cx):@aa:=uY @na
def EK(j:kH)(x:aq):@u:=(g2,@mO)\/(g6,@mO,@mO)
def Loc(j:kH)(x:aq):@u:=@JI
def Look(env:jI)(h:bV)(m:@aT)(x:aq)(u:ah):@u:=(@x3=some @k7/\(bJ,m x))\/((g6,@x3,@x3)/\∃c,env.cells.lookup x=some c/\h.IsCell c (some u))
structure Cx.Ok(X:Cx):@u where
 mod:Mod X.K X.mg @fp
 kind:X.env.scope.kind=@la
 glob:X.env.globals=iU
 blt:X.env.builtins=asW
 above:(gW,@er)
 inj:∀x y c,(ep,x)->(ep,y)->x=y
 has:∀x,(g6,@x4,@x4)->∃c,(ep,x)
 cab:∀x c,X.fn x=@h->(ep,x)->(gW,c)
 hd:@du->X.A.handled=@r
 frames:X.A.frames=some @es
 stk:@es=@na\/(@es=@a0::@na/\X.env.frame=some @er)
 exf:∀b∈X.ex,@qe/\(fc,c≠b)
 bs:(kc,@HO/\X.H_0 b=@r)
 bsz:X.base.objs.size<=X.s_0.heap.objs.size
 noex:(kc,b∉X.ex)
 exfs:∀b∈X.ex,b∉@eS
 funs:(oA,@na)
 frf:∀b∈X.fs,X.H_0 b=@r
structure Inv(X:Cx)(pins:@ae)(σ:List @ag)(H:Hp)(s:aF):@u where
 ok:X.Ok
 os:s.os=X.s_0.os
 bare:Gy @nb
 base:Un @eS X.ex X.H_0 H X.s_0.heap @am
 loc:∃m,@Lu/\∀(i:Nat)(x:aq)(v:V),@jO->(C,σ,@dh)->@uG->∃u,@da/\Look @a0 @am m x u
 cell:(fc,∃v,s.heap.IsCell c v)
 free:(I,@er)
 freeC:(fc,(I,c))
 pin:∀p∈X.pn++@P,@I2
 hok:fT @a8 X.w H @am
 len:@wp=X.N.length
section
variable{X:Cx}{pins:@ae}{σ:List @ag}{H H':Hp}{s:aF}{h':bV}
def Cx.Ok.nofr(ok:X.Ok){b:aa}{o:bA}(e:(R,X.base.get? b)):b∉@eS:=λhb=>by have:=(ok.funs.mem hb).1;rw[bm];cases this
def Inv.bs(I:@I):(kc,@dr/\@bP):=λb o e=>{I.base.keep b o (I.ok.bs b o e).1 (I.ok.bs b o e).2 (I.ok.nofr e) (I.ok.noex b o e),(iv,(I.ok.bs b o e).1,(I.ok.bs b o e).2,I.ok.noex b o e)}
def Inv.bk(I:@I):(kc,@dr):=λb o e=>(I.bs b o e).1
def Inv.mod(I:@I):Mod X.K X.mg @fp:=I.ok.mod
def Inv.kIn(I:@I):X.K.In @am:=I.ok.mod.kin.keeps I.bk
def Inv.fr(I:@I):∃m,Fr @fp @er @am m:=let⟨m,hn,_⟩:=I.loc;{m,hn,I.bk,@JF}
def Inv.lt(I:@I):(c7,@er):=let⟨_,hn,_⟩:=I.loc;hn.lt
def Inv.sz(I:@I):(gW,@al):=cU @nd (jb I.lt)
def Inv.nofs(I:@I){a:aa}(h:@al<=a):a∉@eS:=λhb=>by rw[fJ];exact(i1,o9 (dS N) (cU I.sz h))
def Inv.cne(I:@I):(fc,c≠@er):=λx c e z=>by let{v,o,N,hd}:=@uL;let{m,{o',es,ep,j,U,_},_}:=@hx;rw[z,j]at N;cases N;rw[U]at hd;cases hd
def Inv.funs(I:@I):(l5,@na):=by
 have all:∀(l:@ep),(∀b∈uY l,b∈@eS)->(oA,l)->(l5,l):=by intro l;induction l with|nil=>intro _ _;trivial|cons env r ih=>intro hs hl;let{hk,{L,o,hf,hn,N,hd},hr}:=hl;have W:L∈@eS:=(qv,L,mP);let{D,e}:=I.base.slot L o N (I.ok.frf L W) W λz=>I.ok.exfs L z W;exact{hk,{L,_,hf,hn,e,hd},ih (λb hb=>(qv,b,f6 _ hb)) hr}
 exact all @na (λ_ hb=>hb) I.ok.funs
def Inv.stack(I:@I):(l5,@es):=by rcases I.ok.stk with e|⟨e,hf⟩;rw[s,e,I.funs];.rw[e];let{m,hn,_}:=@hx;refine .cons (lB,I.ok.kind) hf hn ?_ I.funs;exact Heap.get?_none_of_le @JF
def Inv.stkSub(I:@I):∀b∈uY @es,b∈@er::@eS:=λb hb=>by
 rcases I.ok.stk with e|⟨e,hf⟩;.rw[e]at hb;exact f6 _ hb
 .rw[e]at hb;unfold uY at hb;rw[afv,hf]at hb;exact hb
def Inv.stkFree(I:@I):∀b∈uY @es,@bP:=λb hb=>by rcases de.mp (I.stkSub b hb)with e|hb;rw[s,e,@gq];.rw[fJ];exact(iv,N,I.ok.frf b hb,λz=>I.ok.exfs b z hb)
def Inv.step{g':Array GenState}{t':Nat}{d':Drawn}{ch:@aa}(I:@I)(B:@Dg)(keep:(qW,b∉@eS,(R,@di)))(slot:(qW,b∈@eS,@Lt))(free:∀b o,b∉ch->@dr->@bP->@p2)(there:∀b o,b∉ch->@dr->∃o',@di=some o')(tups:@Cr)(frzs:@F0)(tbls:@F1)(ns:∀m,@Lu->h'.Ns @er m)(hok:@An)(hg:Gy g'):@HN:=by
 have j:(ix,X.s_0.heap.get? b,@qe):=λb o e=>il (o9 @cp @nd);have L:∀b o,@HO->b∉X.ex->b∉ch:=λb o e hx hb=>by
  rcases(B b hb).1 with z|z;.exact hx z
  rw[ai,o9 @cp z,xT _]
 have J:(fc,∀v,s.heap.IsCell c v->h'.IsCell c v):=λx c e v⟨o,N,hd⟩=>by
  have F:c∉ch:=@IR;by_cases hc:c∈@eS;.let{D,q}:=slot c o (I.cne x c e) hc F N @lO;exact{_,q,hd}
  .exact{o,keep c o (I.cne x c e) hc F N @lO,hd}
 refine{I.ok,I.os,hg,(sQ,λb o e n hx=>?_,λb xs e=>tups b xs @EY,λb o xs e=>frzs b o xs (I.base.frzs b o xs e),λb ps e=>?_),?_,@sM,?_,@sM,@cu,hok,I.len};.exact keep b o (j b o e) hb @vA @Dc @pt
 .rw[ia];let{M,e2}:=slot b _ (j b o e) hb @vA e1 @pt;exact⟨M,e2⟩
 .rw[fn];exact free b o' @vA e1 @pt
 .rw[fn];exact there b o' @vA e1
 .let{m1,e1}:=I.base.tbls b ps e;let{m2,e2}:=tbls b _ e1;exact{m1++m2,(r,e2,Array.append_assoc)}
 .rw[fK];rw[ad,m,ns m hn,λi x v e1 e2 e3=>?_];let{u,r,l}:=hl i x v e1 e2 e3;rw[ab,u,r];rcases l with l|⟨k,c,e,z⟩;rw[Q,l];rw[ac,{k,c,e,J x c e _ z}]
 .let{v,z}:=@uL;exact{v,J x c e v z}
 .let{m,{o,_,_,N,_},_}:=@hx;exact free _ o @Hm N @gq
 .let{v,o,N,hd}:=@uL;exact free c o @IR N @lO
 .rw[fL];have F:p.1∉ch:=λz=>(B p.1 z).2.2.2 p hp @d;exact{keep p.1 p.2 ne G F e n,free p.1 p.2 F e n,ne,G,d}
def Inv.un{t':Nat}(I:@I)(u:Un @eS [] H H' @am h')(hok:@An):(ar,H',(en,t')):=(on,@v,I.step (g':=@nb) (d':=@ws) (ch:=[]) (λ_ z=>@wt) (λb o _ hb _ e n=>u.keep b o e n hb @v) (λb o _ hb _ e n=>u.slot b o e n hb @v) (λb o _ e n=>u.free b o e n @v) (λb o _ e=>u.there b o e @v) u.tups u.frzs u.tbls @H_ hok @gr)
def Inv.call{g':Array GenState}{t':Nat}{d':Drawn}{ch:@aa}(I:@I)(u:(oU,h'))(hok:@An)(hg:Gy g')(B:@Dg):@HN:=(on,@Hm,I.step (ch:=ch) B (λb o W hb hc e n=>u.keep b o e n (λz=>(de.mp (I.stkSub b z)).elim W hb) hc) (λb o _ _ hc e n=>u.any e n hc) (λb o hc e n=>u.free b o e n hc) (λb o hc e=>u.there b o e hc) u.tups u.frzs u.tbls @H_ hok hg)
def Inv.turned{t':Nat}{it:aa}(I:@I)(k:(cd,b≠it,@dr,@di))(hn:(I,it))(W:it≠@er)(Z:it∈X.ex\/(gW,it))(h2:(fc,c≠it))(h3:∀p∈X.pn++@P,p.1≠it):@yM:=by
 rw[m7,b≠it,(by rw[z,hn]at e;cases e)];refine I.step (g':=@nb) (d':=@ws) (ch:=[it]) @f2 (λb o _ _ hc e _=>@zk) (mZ,@zk) (λ_ _ _ _ n=>n) (λb o hc e=>{o,@zk}) (λ_ _ e=>e) (λ_ _ _ e=>e) @Lv @kZ @x1 @gr;.rw[dv];subst e;exact⟨Z,W,h2,h3⟩
 rw[l0,k _ o (qj W) N];rw[ml]
def Inv.tok(I:@I)(t:Nat):(ar,H,{s with toks:=t}):=I.un (h':=@am) (t':=t) Un.refl @cd
def Inv.kept{t':Nat}(I:@I)(k:(hE,@iJ)):@yM:=I.un (Un.kept k) (I.hok.kept k)
def Inv.laid{a:aa}{o:HO}{t':Nat}(I:@I)(k:(hE,@iJ))(hp:@al<=a)(new:(hw,@nQ,a,o)):(jZ,@nQ):=I.un (Un.laid k hp (I.hok.fresh hp)) (I.hok.laid k hp new)
def Inv.write{x e:aa}{o:HO}{t':Nat}(I:@I)(j:yg (H x))(he:@B2)(k:(mU,@iJ))(D:@AW)(new:(hw,ag H x o,x,o)):(jZ,ag H x o):=I.un (Un.write j he k D) (I.hok.write j he k D new)
def Inv.weak{σ':List @ag}(I:@I)(hl:σ'.length=@wp)(w:∀(i:Nat)v,(C,σ',@dh)->(C,σ,@dh)):(gA,σ',H,s):=(p6,let⟨m,hn,j⟩:=I.loc;{m,hn,λi x v e1 e2 e3=>j i x v e1 (w i v e2) e3},I.pin,hl.trans I.len)
def Inv.pins_of{j:@ae}(I:@I)(h:∀p∈j,@I2):Inv X j σ H s:=(p6,@hx,λp hp=>(ti,xH _ z,h p),I.len)
def Su{N:@aE}(S:N.Nodup){i j:Nat}{x:aq}(a:(C,N,x))(b:(ah,N,x)):i=j:=by let{Z,e1}:=fk.mp a;let{h2,e2}:=fk.mp b;exact(List.getElem_inj S).mp (e1.trans e2.symm)
def aiV{M:K6}{A:dQ}{E:@ac}{i:Nat}{x:aq}{v:V}{u:ah}{Q:@le}(I:@I)(S:X.N.Nodup)(hi:@jO)(hx:@uY)(r:@da)(h:∀s',@Gz->(∃a,Gu a @am @gs/\(a=@er\/X.env.cells.lookup x=some a))->Q () s')(hf:@vu:=by first|exact .inl rfl|exact .inr rfl|assumption):@Kk:=by
 let{m,hn,hl}:=id @hx;have Y:(F,X.env.scope.kind==.class||(X.env.scope.kind==.module&&@er !=X.env.globals)):=(O,I.ok.kind);have N:i<@wp:=(d,I.len,(fk.mp hi).1);have B:=I.cne;have J:∀{a:aa}{h':bV},(∃o,(fX,a)/\(I,a))->Gu a @am h'->fT @a8 X.w H h':=λ{a h'}ha hs b ob e=>by
  let{_,_,Fu}:=ha;refine(I.hok b ob e).stay (λc w' hc q=>(hs.2 c ?_).trans q) (λ_ q=>q) @qL;rintro rfl;rcases hc with rfl|hc;.rw[Fu]at e;cases e
  .rw[Fu]at hc;cases hc
 rcases hx with hk|hk
 .refine wpAny_storeName_local hk hn (λh' L hs=>?_) Y;let{oL,_,_,U,_}:=id hn;refine h _ (r4,{_,L,@EJ},λy c e=>?_,oL,U,@gq) {_,hs,@aK};.exact(hD,@nd,@Dc)
  .rw[ia];exact{D,(hD,@nd,e1)}
  .rw[fn];exact{o',(hD,@nd,e1)}
  .by_cases hj:j=i;.subst hj;rw[hi]at e1;cases e1;rw[afw N]at e2;cases e2;exact{u,r,(bC,hk,@v)}
   .rw[Qb (qj hj)]at e2;rw[k3];rw[ab,F,r'];rcases q with⟨k,e⟩|⟨k,c,e,z⟩;.refine .inl {k,?_};have:y≠x:=λe=>hj (Su S e1 (e▸hi));simp[this,e]
    rw[ac,{k,c,e,@F4}]
  .let{w',z}:=I.cell y c e;exact{w',@F4}
  .rw[fL];exact{(hs.2 p.1 ne).trans e,n,ne,G,d}
 .have JC:X.fn x=@h:=by
   rcases hf with z|z;.exact z
   .rw[z]at hk;cases hk
  let{c,hc}:=I.ok.has x (.inl hk);let{w',z}:=I.cell x c hc;refine wpAny_storeName_cell I.ok.kind hk hc z (λh' oS hs=>?_);let{oc,CZ,O}:=id z;refine h @iO (r4,{m,hn.sameBut hs (qj (B x c hc)),@EJ},λy c' e=>?_,oc,CZ,I.freeC x c hc) {c,hs,.inr hc};.exact(hD,@C0,@Dc)
  .rw[ia];exact{D,(hD,@C0,e1)}
  .rw[fn];exact{o',(hD,@C0,e1)}
  .by_cases hj:j=i;.subst hj;rw[hi]at e1;cases e1;rw[afw N]at e2;cases e2;exact{u,r,.inr {.inl hk,c,hc,oS}}
   .rw[Qb (qj hj)]at e2;rw[k3];rw[ab,F,r'];rcases q with q|⟨k,c',e,z'⟩;rw[Q,q];.refine .inr {k,c',e,z'.sameBut hs ?_};rintro rfl;exact hj (Su S e1 (I.ok.inj _ _ _ e hc▸hi))
  .by_cases W:c'=c;.subst W;exact{_,oS}
   .let{w2,z2}:=I.cell y c' e;exact{w2,z2.sameBut hs W}
  .rw[fL];refine{(hs.2 p.1 ?_).trans e,n,ne,G,d};intro q;rw[q,CZ]at e;have q':oc=p.2:=bZ e;exact d w' (G,q',O)
def aiW{M:K6}{A:dQ}{E:@ac}{i:Nat}{x:aq}{v:V}{u:ah}{Q:@le}(I:@I)(S:X.N.Nodup)(hi:@jO)(hx:@uY)(r:@da)(h:∀s',@Gz->Q () s')(hf:@vu:=by first|exact .inl rfl|exact .inr rfl|assumption):@Kk:=aiV I S hi hx r (λs' I' _=>h s' I') hf
def Inv.call'{s':aF}{ch:@aa}(I:@I)(N:s'.os=s.os)(u:(oU,@gs))(hok:fT @a8 X.w H' @gs)(hg:Gy s'.gens)(B:@Dg):@jY:=by let{h',g',d',t',o'}:=s';have e:o'=s.os:=N;subst e;exact I.call (g':=g') (t':=t') (d':=d') u hok hg B
end
abbrev XK:=ah->(bQ,@eg)
abbrev St:=List @ag
abbrev VK:=(bQ,V)
abbrev TE:=St->@hG
abbrev TT:=(kA,@fS)
abbrev TA:=(kA,(bQ,@F))
structure Ends where
 nx:@c5
 rt:VK
 bk:@c5:=@i8
 ct:@c5:=@i8
abbrev TS:=Ends->@c5
def EP(X:Cx)(pins:@ae)(σ:St)(Q:VK)(u:ah)(s':aF):@u:=∃v H',@jY/\@da/\Q v H'
def TP(X:Cx)(pins:@ae)(σ:St)(Q:@fS)(b:Bool)(s':aF):@u:=∃H',@jY/\Q b H'
def AP(X:Cx)(pins:@ae)(σ:St)(Q:(bQ,@F))(us:@O)(s':aF):@u:=∃vs H',@jY/\@jc/\Q vs H'
def SP(X:Cx)(pins:@ae)(D:Ends)(f:Flow)(s':aF):@u:=match f with|.next=>(iJ,D.nx σ' H')|.brk=>(iJ,D.bk σ' H')|.cont=>(iJ,D.ct σ' H')|.ret u=>∃v σ' H',@zF/\@da/\D.rt v H'
abbrev PE0(X:Cx)(e:bM)(t:TE):@u:=(oF,@I->t σ H Q->(d2,@hJ))
end L2
@[irreducible,local semireducible]def _root_.L2.PE(X:L2.Cx)(e:BC)(t:L2.TE):@u:=L2.PE0 X e t
namespace L2
open PySem PySem.Spec PyProof.Rows
abbrev PT0(X:Cx)(e:bM)(t:TT):@u:=(oX,Qj e @a0 @hJ)
end L2
@[irreducible,local semireducible]def _root_.L2.PT(X:L2.Cx)(e:BC)(t:L2.TT):@u:=L2.PT0 X e t
namespace L2
open PySem PySem.Spec PyProof.Rows
abbrev PW0(X:Cx)(e:bM)(t:TT):@u:=∀(rh:mQ ah)(pins:@ae)(s:aF)(σ:St)(H:Hp)(Q:@fS),(iO,Qj e @a0 rh,TP X @P σ Q)
end L2
@[irreducible,local semireducible]def _root_.L2.PW(X:L2.Cx)(e:BC)(t:L2.TT):@u:=L2.PW0 X e t
namespace L2
open PySem PySem.Spec PyProof.Rows
abbrev PA0(X:Cx)(es:@bR)(t:TA):@u:=∀(pos:cO)(pins:@ae)(s:aF)(σ:St)(H:Hp)(Q:(bQ,@F)),(iO,spliced (kI pos @md),AP X @P σ Q)
end L2
@[irreducible,local semireducible]def _root_.L2.PA(X:L2.Cx)(es:List BC)(t:L2.TA):@u:=L2.PA0 X es t
namespace L2
open PySem PySem.Spec PyProof.Rows
abbrev PS0(X:Cx)(st:aY)(t:TS):@u:=(qw,exec st @a0)
end L2
@[irreducible,local semireducible]def _root_.L2.PS(X:L2.Cx)(st:aQl)(t:L2.TS):@u:=L2.PS0 X st t
namespace L2
open PySem PySem.Spec PyProof.Rows
abbrev aww(X:Cx)(st:@jk)(t:TS):@u:=(qw,execs st @a0)
end L2
@[irreducible,local semireducible]def _root_.L2.tL(X:L2.Cx)(st:List aQl)(t:L2.TS):@u:=L2.aww X st t
namespace L2
open PySem PySem.Spec PyProof.Rows
def bx{α:@az}{t:mQ α}{Q Q':(bg,α)}{M:K6}{A:dQ}{E:@ac}{s:aF}(h:(jB,t))(hQ:@F5):aX M A t Q' E s:=(i6,h,hQ)
abbrev PC0(X:Cx)(op:K7)(a b:bM)(t:TE):@u:=(oF,(iO,(bt,a),(sX,(gR,mR op v u,@vR,z))))
end L2
@[irreducible,local semireducible]def _root_.L2.PC(X:L2.Cx)(op:PySem.CmpOp)(a b:BC)(t:L2.TE):@u:=L2.PC0 X op a b t
namespace L2
open PySem PySem.Spec PyProof.Rows
end L2
namespace L2
open PySem PySem.Spec PyProof.Rows
section
variable{X:Cx}
def bin{a b:bM}{ta tb:TE}(ha:@gj)(hb:@lI){pins:@ae}{s:aF}{σ:St}{H:Hp}{R:V->(bQ,V)}(I:@I)(h:@Eo){α:@az}{Q:(bg,α)}{f:ah->ah->mQ α}(hf:@IU):@Ea:=@Jd
def EL(i:Nat):TE:=λσ H Q=>∃v,(C,σ,@dh)/\Q v H
def tC(v:V):TE:=(hh,v)
def aiY{i:Nat}{x:aq}{pos:cO}(S:@jO)(hv:@uG)(hd:@cc:=by decide)(W:@yX:=by decide):PE X @mK (EL i):=by
 intro pins s σ H Q I h;let{v,e,h}:=h;rw[fK];let{u,r,l}:=hl i x v S e hv;have fin:(e_,u,s):=⟨v,H,I,r,h⟩;rcases l with⟨hk,hm⟩|⟨hk,c,hc,j⟩;.exact asX (wpAny_loadName_local I.ok.kind hk hn hm fin) hd
 .rcases hk with hk|hk;.exact asX (wpAny_loadName_cell I.ok.kind hk hc j fin) hd
  .exact asX (wpAny_loadName_free I.ok.kind hk hc j fin W) hd
def aE{i j pos}:(ne,@a3,@a3):=λ_ _ _ H _ I h=>wpAny_Constant_int {@a3,H,@dj,@eD,h}
def g_{b j pos}:(ne,.bool b,@f3):=λ_ _ _ H _ I h=>Constant_bool (Q,.bl b,H,I,h)
def cR{x j pos}:(ne,@eo,@eo):=λ_ _ _ H _ I h=>Calls.Constant_str {@eo,H,@dj,@eD,h}
def Gl(X:Cx)(x:aq):@u:=@x4=some .globalImplicit
def MR{E:@ac}{pins:@ae}{s:aF}{σ:St}{H:Hp}{x:aq}{u:ah}{pos:cO}{Q:@ac}(I:@I)(hg:@cF)(hm:(bJ,X.mg x))(h:Q u s)(hd:@cc:=by decide):(gx,(bt,@mK)):=aQm I.ok.kind hg (Calls.loadGlobal_global @DV hm h) hd
def wU{E:@ac}{pins:@ae}{s:aF}{σ:St}{H:Hp}{x:aq}{u:ah}{pos:cO}{Q:@ac}(I:@I)(hg:@cF)(hm:X.mg x=@r)(hv:(bJ,Gx x))(h:Q u s)(hn:@w2:=by decide)(hd:@cc:=by decide):(gx,(bt,@mK)):=by let{M,Z,h2}:=I.mod.blt;exact aQm I.ok.kind hg (Calls.loadGlobal_builtin @DV hm (d,I.ok.blt,Z.keeps I.bk) ((h2 x hn).trans hv) h) hd
def z_{x:aq}{v:V}{u:ah}{pos:cO}(hg:@cF)(hm:(bJ,X.mg x))(r:@da)(hd:@cc:=by decide):(kd,v):=λ_ _ _ H _ I h=>MR I hg hm ⟨v,H,I,r,h⟩ hd
variable{a b:bM}{ta tb:TE}{pos:cO}
def tB(t:TE):TT:=(ev,λx H1=>∃c,x=.bl c/\Q c H1)
def awy{op:K7}{t:TE}(h:PC X op a b t)(Z:@pb:=by first|exact awz _ (by decide) (by decide)|rfl):PE X @vB t:=λpins s σ H Q I hw=>aQn @zL Z
def Aa{op:K7}{t:TE}(h:PC X op a b t)(Z:@pb:=by first|exact awz _ (by decide) (by decide)|rfl):PT X @vB (tB t):=(qQ,aQo (bx @zK λv Y Z=>bx Z λu s2 h2=>bx h2 λc s3⟨x,H1,L,G,O⟩=>?_) Z)
def iY{e:bM}{t:TE}(h:PE X e t)(he:∀rh,Qj e @a0 rh=(do
 let v<-rh;
 Gz e.pos;
 wz [v] (truthy v)):=by intro _;rfl):PT X e (tB t):=(qQ,isTrue_plain (bx @zK @kz) (he _))
variable{tA OQ:TT}{rest:@bR}
def aiZ(t u:TT):TT:=(mI,u σ H1 Q,Q @K H1)
def tOr(t u:TT):TT:=(mI,Q @h H1,u σ H1 Q)
def awA(t:TT):TT:=(ev,λc H1=>Q (! c) H1)
def uZ(ha:@oT):PW X (ds,.And,[a]) tA:=(mJ,aQp @El,isTrue_and_nil e,e)
def oM(ha:@oT):PW X (ds,.Or,[a]) tA:=by intro wh pins s σ H Q I h;refine aQq @El;cases c with|false=>exact isTrue_or_nil e|true=>exact e
def tJ(ha:@oT)(hb:PW X (ds,.And,@jX) OQ):PW X (ds,.And,a::@jX) (aiZ tA OQ):=(mJ,aQp @Jt,@I7,⟨H1,L,O⟩)
def nV(ha:@oT)(hb:PW X (ds,.Or,@jX) OQ):PW X (ds,.Or,a::@jX) (tOr tA OQ):=(mJ,aQq @Jt,⟨H1,L,O⟩,@I7)
def ml(ha:@oT):PT X (.UnaryOp .Not a pos) (awA tA):=(jd,isTrue_not (fI,λc H1=>Q (! c) H1))
def ai1(ta tb:TE):TE:=(fn,∃c,x=.bl c/\(L,c,tb σ H1 Q,Q (.bl @K) H1))
def ai2(ta tb:TE):TE:=(fn,∃c,x=.bl c/\(L,c,Q @gE H1,tb σ H1 Q))
def awB(ta:TE):TE:=(fn,∃c,x=.bl c/\Q (.bl (! c)) H1)
def rO{op}{t:TE}(h:PE X a t):PE X (ds,op,[a]) t:=λpins s σ H Q I hw=>BoolOp_one @zL
def tK(ha:@gj)(hb:PE X (ds,.And,@jX) tb):PE X (ds,.And,a::@jX) (ai1 ta tb):=by intro pins s σ H Q I h;refine BoolOp_and @zn;let{c,rfl,O}:=O;cases G;refine BA ?_;rw[j9,(g8,Q),(Q,.bl @K,H1,L,O)]
def Sv(ha:@gj)(hb:PE X (ds,.Or,@jX) tb):PE X (ds,.Or,a::@jX) (ai2 ta tb):=by intro pins s σ H Q I h;refine BoolOp_or @zn;let{c,rfl,O}:=O;cases G;refine BA ?_;cases c with|false=>exact(g8,Q)|true=>exact(Q,@gE,H1,L,O)
def awC(ha:@gj):PE X (.UnaryOp .Not a pos) (awB ta):=by intro pins s σ H Q I h;refine UnaryOp_ @zn;let{c,rfl,O}:=O;cases G;exact not_of (BA (Q,.bl (! c),H1,L,O))
def tIf(t:TT)(ta tb:TE):TE:=(mI,ta σ H1 Q,tb σ H1 Q)
def oN{c:bM}(hc:PT X c tA)(ha:@gj)(hb:@lI):PE X (.IfExp c a b pos) (tIf tA ta tb):=by intro pins s σ H Q I h;refine wpAny_IfExp @IV;cases d with|true=>exact ha @P Y σ H1 Q L O|false=>exact(g8,Q)
end
end L2
namespace L2
open PySem PySem.Spec PyProof.Rows
def aj(K:aM)(H:Hp)(a:aa)(xs:@F):@u:=(tb,.lst xs,@oP/\@iB=@kp/\o.dict=@r/\@eQ=.seq aD n/\aD.size<=a7/\@AV)
def b_(K:aM)(H:Hp)(a:aa)(xs:@F):@u:=(tb,@d9,@oP/\@iB=@dR/\@eQ=.seq aD n/\aD.size<=a7/\@AV)
def awD:ah->@ag|.none=>some @cI|.bool b=>some @f3|.int i _=>(T,i)|.str x _=>some @eo|.bytes b _=>some (.byt b)|.float b _=>some (.flt b)|.ref a=>@bc|.type n=>some (.ty n)|_=>none
def RelV.abs{x:V}{u:ah}(r:@jN):awD u=some x:=by cases x with|non=>rw[cS]|bl _=>rw[cS]|int _=>rw[cT]|str _=>rw[cT]|byt _=>rw[cT]|flt _=>rw[cT]|ref _=>rw[cS]|ty _=>rw[cS]
def RelV.inj{x y:V}{u:ah}(r:@jN)(q:@dQ):x=y:=bZ (r.abs.symm.trans q.abs)
def bi.inj:∀{xs ys:@F}{us:@O},@c6->bi ys us->xs=ys|_,_,_,.nil,.nil=>rfl|_,_,_,.cons r t,.cons r' t'=>(r,r.inj r',bi.inj t t')
section
variable{X:Cx}{pins:@ae}{σ:St}{H:Hp}{s:aF}{a:aa}{xs ys:@F}
def aj.of{K:aM}(h:(co,a)):@bO:=.inl @fN
def b_.of{K:aM}(h:(P,a,@d9)):@fc:=.inl @fN
def Inv.list(I:@I)(h:aj X.K H a xs):(sD,PlainL @am a @aR):=by
 rcases h with h|⟨o,aD,n,hk,hc,hd,hs,hz,r⟩;.let{z,aD,n,r,e}:=h.ok @cd;exact{aD,r,{_,n,e,@d,@d,@d},z}
 rw[lj,{o,n,I.kIn a o hk,hc,hd,@yC}]
def Inv.tuple(I:@I)(h:b_ X.K H a xs):(sD,K5 @am a @aR):=by
 rcases h with h|⟨o,aD,n,hk,hc,hs,hz,r⟩;.let{z,aD,r,p}:=h.ok @cd;exact⟨aD,r,p,z⟩
 rw[lj,{o,I.kIn a o hk,hc,n,@yC}]
def Inv.list_inj(I:@I)(h:aj X.K H a xs)(h':aj X.K H a ys):xs=ys:=by let{aD,r,{o,n,e,_,_,d},_}:=I.list h;let{its',r',{o',z,F,_,_,d'},_}:=I.list h';rw[e]at F;cases F;rw[d]at d';injection d' with d1 _;rw[ko];subst this;exact r.inj r'
def Inv.tuple_inj(I:@I)(h:b_ X.K H a xs)(h':b_ X.K H a ys):xs=ys:=by let{aD,r,{o,e,_,n,d},_}:=I.tuple h;let{its',r',{o',F,_,z,d'},_}:=I.tuple h';rw[e]at F;cases F;rw[d]at d';injection d' with d1 _;rw[ko];subst this;exact r.inj r'
end
abbrev Cx.wish(X:Cx)(E:@ac):Cx:={X with xe:=E}
abbrev Cx.nox(X:Cx):Cx:=X.wish @i8
def Cx.Ok.wish{X:Cx}(ok:X.Ok)(E:@ac):(X.wish E).Ok:=@Jf
def Cx.Ok.unwish{X:Cx}{E:@ac}(ok:(X.wish E).Ok):X.Ok:=@Jf
section
variable{X:Cx}{pins:@ae}{σ:St}{H:Hp}{s:aF}{E:@ac}
def Inv.wish(I:@I)(E:@ac):@Ic:=(rI,I.ok.wish E)
def Inv.unwish(I:@Ic):@I:=(rI,I.ok.unwish)
def SP.unwish{D:Ends}{f:Flow}{s':aF}(h:SP (X.wish E) @P D f s'):SP X @P D f s':=by cases f with|next=>rw[hL]|brk=>rw[hL]|cont=>rw[hL]|ret u=>let{v,σ',H',I,r,q}:=h;exact⟨v,σ',H',I.unwish,r,q⟩
def tL.nox{st:@jk}{t:TS}(h:tL X.nox st t):tL X st t:=λpins s σ H D I hw=>qk (h @P s σ H D (I.wish _) hw) (λ_ _ q=>q.unwish) λ_ _ z=>l5 z
end
section
variable{X:Cx}{st:aY}{rest:@jk}{t u:TS}{e:bM}{te:TE}{pos:cO}
def rP:TS:=λD σ H=>(dP,H)
def pC(t u:TS):TS:=λD σ H=>@J6
def bS:tL X [] rP:=λ_ _ σ H _ I h=>afx ⟨σ,H,I,h⟩
def aw(Z:PS X st t)(h2:tL X @bl u):tL X (st::@bl) (pC t u):=by intro pins s σ H D I h;refine aQr (bx (Z @P s σ H {D with nx:=u D} I h) λf Y q=>?_);cases f with|next=>let{σ',H',I',q}:=q;exact h2 @P Y σ' H' D I' q|ret v=>exact q|brk=>exact q|cont=>exact q
def ay(Z:PS X st t):tL X [st] t:=by intro pins s σ H D I h;refine aQr (bx (Z @P s σ H D I h) λf Y q=>?_);cases f with|next=>exact afx q|ret v=>exact q|brk=>exact q|cont=>exact q
def Inv.quiet{pins:@ae}{σ:St}{H:Hp}{s:aF}(I:@I):(F,aQs @a0):=by simp[aQs,I.ok.kind]
def awE(te:TE):TS:=λD σ H=>te σ H λ_ H1=>(dP,H1)
def dr(he:@dC)(hs:K9 e @r @wA @a0=pure @K:=by rfl):PS X (.Expr e pos) (awE te):=(p_,wpAny_Expr_any (si,⟨σ,H1,L,O⟩) I.quiet hs)
def Sw(te:TE):TS:=λD σ H=>te σ H D.rt
def aJ(he:@dC):PS X (.Return (some e) pos) (Sw te):=(p_,wpAny_Return_some (si,⟨x,σ,H1,L,G,O⟩))
def tM(c:TT)(t u:TS):TS:=λD σ H=>c σ H λb H1=>(L,b,t D σ H1,u D σ H1)
def bN{c:bM}{a b:@jk}{tc:TT}(hc:PT X c tc)(ha:tL X a t)(hb:tL X b u):PS X (.If c a b pos) (tM tc t u):=by intro pins s σ H D I h;refine wpAny_If @IV;cases d with|true=>exact ha @P Y σ H1 D L O|false=>exact(g8,D)
end
abbrev TG:=V->St->(Y,Hp,@c5)
abbrev yi:=@F->St->(Y,Hp,@c5)
abbrev PG0(X:Cx)(target:bM)(t:TG):@u:=∀(pins:@ae)(s:aF)(σ:St)(H:Hp)(v:V)(u:ah)(Q:@c5),(oM,@da,v,GB @ny @a0 u)
end L2
@[irreducible,local semireducible]def _root_.L2.PG(X:L2.Cx)(target:BC)(t:L2.TG):@u:=L2.PG0 X @ny t
namespace L2
open PySem PySem.Spec PyProof.Rows
abbrev awG(X:Cx)(j:@bR)(t:yi):@u:=∀(pins:@ae)(s:aF)(σ:St)(H:Hp)(vs:@F)(us:@O)(Q:@c5),(oM,@jc,vs,assignInOrder (ko,j) us)
end L2
@[irreducible,local semireducible]def _root_.L2.MU(X:L2.Cx)(j:List BC)(t:L2.yi):@u:=L2.awG X j t
namespace L2
open PySem PySem.Spec PyProof.Rows
abbrev MS:=@Hj
abbrev awH(X:Cx)(t:MS):@u:=∀(pins:@ae)(s:aF)(σ:St)(H:Hp)(o i v:V)(z F u:ah)(Q:@fy),@I->RelV o z->RelV i F->@da->t o i v H Q->(dJ,afy z F u,λ_ s'=>∃H',@jY/\Q H')
end L2
@[irreducible,local semireducible]def _root_.L2.awK(X:L2.Cx)(t:L2.MS):@u:=L2.awH X t
namespace L2
open PySem PySem.Spec PyProof.Rows
section
variable{X:Cx}{pos:cO}
def kn(i:Nat):TG:=λv σ H Q=>Q (σ.set i @dh) H
def bE{i:Nat}{x:aq}(S:X.N.Nodup)(hi:@jO)(hx:@uY)(hf:@vu:=by first|exact .inl rfl|exact .inr rfl|assumption):PG X @mK (kn i):=by intro pins s σ H v u Q I r h;exact aQt (aiW I S hi hx r (λs' I'=>{_,H,I',h}) hf)
def MT:yi:=λvs σ H Q=>vs=[]/\Q σ H
def B7(t:TG)(u:yi):yi:=λvs σ H Q=>∃v r,vs=v::r/\t v σ H λσ' H'=>u r σ' H' Q
def kr:MU X [] MT:=by intro pins s σ H vs us Q I r h;let{e,h}:=h;subst e;cases r;exact assignInOrder_nil ⟨σ,H,I,h⟩
def eF{e:bM}{es:@bR}{t:TG}{u:yi}(Z:PG X e t)(h2:MU X es u)(hs:(ko,@fv)=GB e @a0::(ko,es):=by rfl):MU X @fv (B7 t u):=by intro pins s σ H vs us Q I r h;let{v,n,e1,h}:=h;subst e1;cases r with|cons r D=>rw[hs];refine assignInOrder_cons (bx (Z @P s σ H _ _ _ I r h) λ_ Y⟨j,H1,L,O⟩=>?_);exact h2 @P Y j H1 _ _ Q L D O
def HE(K:aM)(n:Nat)(t:yi):TG:=λv σ H Q=>∃a xs,v=@W/\@fc/\@X=n/\t xs σ H Q
def awI{es:@bR}{k:Nat}{t:yi}{n:Nat}(hc:@du)(h:MU X es t)(hn:@D1:=by rfl)(dM:@Gw:=by rfl):(qS,X.K):=by intro pins s σ H v u Q I r hw;let{a,xs,e1,U,hl,hw}:=hw;subst e1;cases r;let{aD,rv,ht,hz}:=@mF;refine assign_Tuple_tuple @cn ht (by simp[hn,<-hl,rv.length]) dM λh' hx=>?_;rw[cq,I.kept (t':=@bk) λb o e=>hx b o @re e];exact h @P _ σ H xs _ Q L (by simpa using rv) hw
def awJ(to ti:TE)(t:MS):TG:=λv σ H Q=>to σ H λo H1=>ti σ H1 λi H2=>t o i v H2 λH3=>Q σ H3
def HF{o i:bM}{to ti:TE}{t:MS}(N:@rJ)(hi:PE X i ti)(hs:awK X t)(ha:∀v,GB @Ek @a0 v=(do
 let z<-wz [v] (cp o X.env)
 let F<-wz [v,z] (cp i X.env)
 Gz pos
 wz [v,z,F] (afy z F v)
 release [v,z,F] []):=by intro _;rfl):PG X @Ek (awJ to ti t):=by intro pins s σ H v u Q I r h;rw[ha];rw[x,xR (lr,λz Y⟨x,H1,L,G,O⟩=>?_)];rw[x,xR (lX,λF s2⟨y,H2,I2,r2,q2⟩=>?_)];rw[x,asZ (aV (xR (bx (hs @P s2 σ H2 x y v z F u _ I2 G r2 r q2) λ_ s3⟨H3,I3,q3⟩=>?_)))];exact wpAny_release ⟨σ,H3,I3,q3⟩
def MV(te:TE)(g:TG):TS:=λD σ H=>(hv,g x σ H1 D.nx)
def HG{tg e:bM}{te:TE}{g:TG}(he:@dC)(hg:PG X tg g)(hs:swapsWithSole [tg] e @wA @a0=pure @K:=by rfl)(hw:swappedStores [tg] e @a0=pure @r:=by rfl)(Z:(ko,[tg])=[GB tg @a0]:=by rfl):(oG,tg,g):=by intro pins s σ H D I h;refine wpAny_Assign_stores (ff,@kz) hs hw;rw[Z];exact bx (hg @P Y σ H1 x v _ L G O) λ_ s2 q=>q
def aP{i:Nat}{x:aq}{e:bM}{te:TE}{sh:cO}(S:X.N.Nodup)(hi:@jO)(hx:@uY)(he:@dC)(hs:(lU,e,.Name x sh):=by rfl)(hf:@vu:=by first|exact .inl rfl|exact .inr rfl|assumption):(oG,.Name x sh,kn i):=by intro pins s σ H D I h;refine wpAny_Assign_Name (ff,λv Y⟨y,H1,L,G,O⟩=>?_) hs;exact aiW L S hi hx G (λs2 I2=>{_,H1,I2,O}) hf
end
section
variable{X:Cx}{pos:cO}
def Sx(c:TT)(tb:TS):TS:=λD σ H=>∃W:Nat->@c5,(∃m,W m σ H)/\∀m σ H,W m σ H->(nX,@c5,(ih,W m' σ' H'))
def tN{c:bM}{body:@jk}{tc:TT}{tb:TS}(hp:@Hr)(hc:PT X c tc)(hb:tL X body tb):PS X (.While c body [] pos) (Sx tc tb):=by
 intro pins s σ H D I h;let{W,{m0,U},turn}:=h;refine wpAny_While (codeAny_whileLoop (λn s'=>(iJ,W n σ' H')) ?_ m0 ⟨σ,H,I,U⟩);rintro n Y⟨j,H1,L,w1⟩;rw[cy,hc @P Y j H1 _ L (turn n j H1 w1),λb s2⟨H2,I2,q2⟩=>?_];cases b with
 |true=>let{N,S,q2}:=q2;rw[ai @d];rw[cy,hb @P s2 j H2 _ I2 q2,λf s3 q3=>?_];cases f with|next=>rw[mE]|cont=>rw[mE]|brk=>exact q3|ret v=>exact q3
 |false=>rw[af iA];exact afx ⟨j,H2,I2,q2⟩
end
structure It where
 go:@iM
 yld:Nat->Hp->(bQ,V)
 stop:@iM
def lN(X:Cx)(pins:@ae)(H:Hp)(b:aa):@u:=@bP/\@qe/\b∉@eS/\(b∈X.ex\/(gW,b))/\(fc,c≠b)/\@Gg
def Inv.fpOk{X:Cx}{pins:@ae}{σ:St}{H H':Hp}{s:aF}{b:aa}(I:@I)(hb:@al<=b)(hn:@p2):(bD,H',b):=by
 refine{hn,K_ (o9 I.lt hb),I.nofs hb,.inr (cU I.sz hb),λx c e z=>?_,λp hp z=>?_};.let{v,q}:=@uL;exact(i1,o9 q.lt (d,z,hb))
 rw[ai,o9 (dS (I.pin p hp).1) (d,z,hb),xT _]
structure u_(P:cE)(w:cn)(K:aM)(tg:bM)(J:It)(B:@aa)(it:aa)(L:(Y,Nat,bV)):@u where
 mem:it∈B
 obj:∀i h,L i h->∀b∈B,(oI,@gb)
 keep:∀i h h',L i h->(∀b∈B,∀o,@gb->(R,@di))->L i h'
 item:(ru,J.go i H,∃u,(bJ,r)/\aX (bv P w) X.A (afz tg @eI u) (λ_ s2=>∃x H',(ar,H',s2)/\@jN/\@C1/\L @A s2.heap/\@m6) E Y)
 done:(ru,J.stop i H,r=@r/\(ar,H,Y))
 self:∀(A:dQ)(i:Nat)(s:aF)(Q:@ac)(E:@ac),L i @am->Q @eI s->aX (bv P w) A (Qk @eI) Q E s
abbrev TI:=(kA,@rx)
def Sy(X:Cx)(pins:@ae)(σ:St)(tg:bM)(R:@rx)(itv:ah)(s2:aF):@u:=∃(it:aa)(B:@aa)(L:(Y,Nat,bV))(J:It)(H':Hp),itv=@eI/\(ar,H',s2)/\u_ @a8 X.w X.K tg J B it L/\L 0 s2.heap/\(∀b∈B,(bD,H',b))/\R J H'
abbrev PI0(X:Cx)(tg iter:bM)(G:TI):@u:=∀(pins:@ae)(s:aF)(σ:St)(H:Hp)(R:@rx),@I->G σ H R->(dJ,(bt,iter),λv Y=>(gR,Qk v,@Ie,Y))
end L2
@[irreducible,local semireducible]def _root_.L2.PI(X:L2.Cx)(tg iter:BC)(G:L2.TI):@u:=L2.PI0 X tg iter G
namespace L2
open PySem PySem.Spec PyProof.Rows
def B8{M:K6}{A:dQ}{E:@ac}{s:aF}{tg:bM}{it:aa}{u:ah}{o:bA}{n:String}{vs:@cj}{Q:@le}(N:(fX,it))(hc:@iB=.type n)(hd:@eQ=.fields vs)(hn:(F,(nZ,n)))(hQ:Q () s):(jB,afz tg @eI u):=by unfold afz;cases tg<;>first|exact b5 hQ|(cases u<;>first|exact b5 hQ|(rw[x,wpAny_load N ?_];rw[hc,hd];show aX M A (ee,(nZ,n)&&vs[0]?==some (DU _)) Q E s;rw[af (by intro h;rw[hn,wx]at h;cases h)];exact b5 hQ))
def nX(K:aM)(a:aa):It:=(kl,∃xs x,@bO/\@dl,@Ap,∃xs,@bO/\@tt)
def HI(K:aM)(a:aa):It:=(kl,∃xs x,@fc/\@dl,∀xs,@fc->@dl,∃xs,@fc/\@tt)
def rQ(lo:Int)(n:Nat):It:={λi _=>i<n,λi H x H'=>H'=H/\x=@sL,λi _=>n<=i}
def awM{P:cE}{w:cn}{K:aM}{tg:bM}(a it:aa):(g7,nX K a,h.IsListIter it a i)where
 mem:=@v
 obj:=@Ax
 keep:=@JS
 item:=by intro X B hw J hc i pins s σ H E I hf st hg;subst B hw J;rw[fO];rw[dE];rw[da];rw[aV];refine wpAny_pyNext_list_item st @ke (x:=u) @rq @sN;rw[cq,@zi];rw[fM];exact(nT,I.list_inj hy U,st')
 done:=by intro X B hw J hc i pins s σ H E I hf st hg;subst B hw J;let{xs,U,hx}:=hg;rw[dE];rw[aV];have hl:=rv.length;exact wpAny_pyNext_list_end @cn st @ke @aS @oy
 self:=λ_ _ _ _ _ st h=>wpAny_pyIter_listiter st h
def awN{P:cE}{w:cn}{K:aM}{tg:bM}(a it:aa):(g7,HI K a,h.IsTupleIter it a i)where
 mem:=@v
 obj:=@Ax
 keep:=@JS
 item:=by intro X B hw J hc i pins s σ H E I hf st hg;subst B hw J;rw[fO];let{aD,rv,p,hz}:=@mF;rw[da];rw[aV];refine wpAny_pyNext_tuple_item st @Lw (x:=u) @rq @sN;rw[cq,@zi];rw[fM];exact(nT,I.tuple_inj hy U,st')
 done:=by intro X B hw J hc i pins s σ H E I hf st hg;subst B hw J;let{xs,U,hx}:=hg;let{aD,rv,p,hz}:=@mF;rw[aV];have hl:=rv.length;exact wpAny_pyNext_tuple_end @cn st @Lw @aS @oy
 self:=λ_ _ _ _ _ st h=>wpAny_pyIter_tupleiter st h
def awO{P:cE}{w:cn}{K:aM}{tg:bM}(it:aa)(lo:Int)(n:Nat):(g7,rQ lo n,aQv h it (lo+(W,i)*1) (@aq-(W,i)) 1)where
 mem:=@v
 obj:=λi h st b hb=>by rw[dv];subst e;exact{_,st,λv z=>by have z':Data.fields _=Data.cell v:=z;cases z'}
 keep:=λi h h' st k=>k it @v _ st
 item:=by intro X B hw J hc i pins s σ H E I hf st hg;subst B hw J;rw[aV];have W:=Walks.range (prog:=@a8) (w:=X.w) @cn it lo 1 n;refine@IF;let{t,rfl}:=hv;rw[mF];rw[am,B8 (s:=@mV) (n:="range_iterator") st' @d @d @Z (mW,@sL,{t,?_},@ds,st')];rw[Int.mul_one]
 done:=by intro X B hw J hc i pins s σ H E I hf st hg;subst B hw J;rw[aV];exact wpAny_pyNext_range_end @cn st (by have:n<=i:=hg;omega) @oy
 self:=λ_ _ _ _ _ st h=>wpAny_pyIter_rangeiter st h
end L2
namespace L2
open PySem PySem.Spec PyProof.Rows
section
variable{X:Cx}{tg:bM}
def awP(K:aM)(tl:TE):TI:=(po,@n8,nX K a)
def awQ(K:aM)(tl:TE):TI:=(po,b_ K H1 a xs,HI K a)
def eQ{l:bM}{tl:TE}(hl:PE X l tl):PI X tg l (awP X.K tl):=(r6,L.list U,as0 @ke ?_,awM a _)
def ai4{l:bM}{tl:TE}(hl:PE X l tl):PI X tg l (awQ X.K tl):=(r6,L.tuple U,wpAny_pyIter_tuple (show Y.heap.IsTuple a @aR from p) ?_,awN a _)
def ai5{pins:@ae}{σ:St}{H:Hp}{s:aF}{R:@rx}{E:@ac}{lo hi:Int}{t u v:Tok}{tk:Nat}(I:@I)(Z:-(2^62)<=lo)(h2:lo<2^62)(h3:-(2^62)<=hi)(h4:hi<2^62)(q:R (rQ lo @uZ) H):aX @hN X.A (Qk @cq) @Ie E (jO,@wQ,tk):=by
 refine wpAny_pyIter_range (aTW ..) (aQw Z h2 h3 h4) ?_;have L:(ar,H,(jO,@wQ,tk)):=I.kept @m5;refine{@x7,[@x7],_,_,H,@d,L.kept (t':=tk) @m5,awO _ lo @uZ,?_,@f2,q};.rw[ah,lo+(A,0)*1,lo,@v];rw[ag,(A,@uZ)-(A,0),aTX lo hi 1,@D9];show aQv _ _ (lo+(A,0)*1) ((A,@uZ)-(A,0)) 1;rw[e1,e2];exact@c3
 .rw[E,b,@x7,@gG];subst e;exact L.fpOk @L @wB
def awR(ta:TA):TI:=(h3,∃j:Int,vs=[@k3]/\-(2^62)<=j/\j<2^62/\R (rQ 0 j.toNat) H1)
def awS(ta:TA):TI:=(h3,∃i j:Int,vs=[@a3,@k3]/\@ID/\R (rQ i @o4) H1)
def qw{a:bM}{ta:TA}{p pos:cO}(hg:Gl X "range")(hm:(fq,"range"))(ha:PA X [a] ta)(hs:(k_,[a],(bt,a)):=by rfl):(ml,"range",[a],awR ta):=by intro pins s σ H R I h;refine(h4,Qm,hs,@d);let{j,e,O,q2,q}:=O;subst e;cases G with|cons r D=>cases D;rw[bT];exact call_range_1 (ai5 L @e @e O q2 (by simpa using q))
def MW{a b:bM}{ta:TA}{p pos:cO}(hg:Gl X "range")(hm:(fq,"range"))(ha:PA X [a,b] ta)(hs:(dc,[a,b])=[(@K,(bt,a)),(@K,(bt,b))]:=by rfl)(eJ:(k_,[b],(bt,b)):=by rfl):(ml,"range",[a,b],awS ta):=by intro pins s σ H R I h;refine(h4,Qm,(r,hs,eJ),(O,eJ));let{i,j,e,{O,q2,q3,N},q}:=O;subst e;cases G with|cons r D=>cases D with|cons r' D=>cases D;rw[bT];let{t',rfl}:=r';exact aQy (ai5 L O q2 q3 N q)
def awT(G:TI)(g:TG)(tb:TS):TS:=λD σ H=>G σ H λJ H1=>(iD,@c5,W 0 m σ H1,(iH,J.stop i H,J.go i H,@c5,@C1))
def HJ(B:@aa)(h:bV):@ae:=B.filterMap λb=>(h.get? b).map λo=>(b,o)
def Sz{B:@aa}{h:bV}{b:aa}{o:bA}(hb:b∈B)(e:@gb):(b,o)∈HJ B h:=aQz.mpr {b,hb,@jG}
def awU{B:@aa}{h:bV}{p:aa×bA}(hp:p∈HJ B h):p.1∈B/\h.get? p.1=some p.2:=by let{b,hb,e}:=aQz.mp hp;cases q:h.get? b with|none=>rw[q]at e;cases e|some o=>rw[q]at e;have F:(b,o)=p:=bZ e;subst F;exact⟨hb,q⟩
def Inv.pinned{pins:@ae}{σ:St}{H:Hp}{s:aF}{B:@aa}(I:@I)(hf:∀b∈B,(bD,H,b))(N:∀b∈B,(oI,@dr)):Inv X (@P++HJ B @am) σ H s:=I.pins_of λp hp=>(ti,qZ _ z,λz=>by let{hb,e}:=awU z;let{f0,f1,f2,_}:=hf p.1 hb;let{o,F,d}:=N p.1 hb;rw[e]at F;cases F;exact⟨e,f0,f1,f2,d⟩)
def Inv.unpinned{pins pl:@ae}{σ:St}{H:Hp}{s:aF}(I:Inv X (@P++pl) σ H s):@I:=(sE,qZ _ (xH _ hp))
def d_{iter:bM}{body:@jk}{G:TI}{g:TG}{tb:TS}{pos:cO}(hp:@Hr)(hc:@du)(hi:@u9)(hg:PG X tg g)(hb:tL X body tb)(hs:@vH:=by intro _;rfl):PS X (.For tg iter body [] pos) (awT G g tb):=by
 intro pins s σ H D I h;refine wpAny_For (qR,λv Y Z=>bx Z λitv s2 h2=>?_) hs;let{it,B,L,J,H2,e,I2,T,pZ,f2,W,{m0,U},turn}:=h2;subst e;have C0:∀{H':Hp},@m6->∀b∈B,(bD,H',b):=λhn b hb=>{hn b hb,(f2 b hb).2};refine codeAny_forLoop_any (λn s'=>∃i σ' H',@zF/\L i @gs/\@m6/\W i n σ' H') ?_ m0 {0,σ,H2,I2,pZ,λb hb=>(f2 b hb).1,U};rintro n s3⟨i,q,H3,I3,OR,z,w3⟩;rcases turn i n q H3 w3 with⟨stop,qn⟩|⟨go,N,S,step⟩;.rw[cy,T.done X @d @d @d hc i @P s3 q H3 X.xe I3 (C0 z) OR stop,λr s4⟨hr,I4⟩=>?_];subst hr;exact afx ⟨q,H3,I4,qn⟩
 .rw[cy,T.item X @d @d @d hc i @P s3 q H3 X.xe I3 (C0 z) OR go,λr s4⟨u,hr,h4⟩=>?_];subst hr;rw[cy,h4,λ_ s5⟨x,H5,I5,r5,y5,AM,F⟩=>?_];have M:=I5.pinned (C0 F) (T.obj _ _ AM);rw[cy,hg _ s5 q H5 x u _ M r5 (step x H5 y5),λ_ s6⟨σ6,H6,I6,q6⟩=>?_];rw[cy,hb _ s6 σ6 H6 _ I6 q6,λf s7 O=>?_];have again:∀{j:St}{H7:Hp},Inv X (@P++HJ B s5.heap) j H7 s7->N j H7->∃m,m<n/\∃i σ' H',(gA,σ',H',s7)/\L i s7.heap/\@m6/\W i m σ' H':=λ{j H7}V n7=>by let{m',hm,w7}:=S j H7 n7;refine{m',hm,@A,j,H7,V.unpinned,T.keep _ _ _ AM λb hb o e=>(V.pin (b,o) @Bv).1,@f2,w7};let{o,e,d}:=T.obj _ _ AM b hb;exact(V.pin (b,o) @Bv).2.1
  cases f with|next=>rw[iF]|cont=>rw[iF]|brk=>let{j,H7,V,O}:=O;exact⟨j,H7,V.unpinned,O⟩|ret v=>let{x7,j,H7,V,r7,O}:=O;exact⟨x7,j,H7,V.unpinned,r7,O⟩
end
def kQ{K:aM}{a:aa}{xs:@F}{g:TG}{tb:TS}{D:Ends}{σ:St}{H:Hp}(Pv:Nat->@c5)(h0:@nR)(hl:(h5,@bO))(hs:@F6)(hd:@oW):(nk,@py,@pz,@pD):=@IE
def ai6{K:aM}{a:aa}{xs:@F}{g:TG}{tb:TS}{D:Ends}{σ:St}{H:Hp}(Pv:Nat->@c5)(h0:@nR)(hl:(h5,@fc))(hs:@F6)(hd:@oW):(nk,(HI K a).stop i H,(HI K a).go i H,(HI K a).yld i H x H'):=@IE
def va{lo:Int}{n:Nat}{g:TG}{tb:TS}{D:Ends}{σ:St}{H:Hp}(Pv:Nat->@c5)(h0:@nR)(hs:∀i σ H,i<n->@iQ->g @sL σ H λI H2=>@CZ)(hd:∀σ H,Pv n σ H->(dP,H)):(nk,@C2,@C3,@Do):=by rw[ab,λi m σ H=>m=n-i/\i<=n/\@iQ,{n,@v,@aO,h0}];rintro i m σ H⟨rfl,hi,p⟩;by_cases bn:i<n;rw[iT,λσ' H' p'=>@Ed,hs i σ _ bn p];.have e:i=n:=@e;subst e;exact(bC,@L,@wO)
end L2
namespace L2
open PySem PySem.Spec PyProof.Rows
abbrev R2:=V->V->@hG
def iZ(X:Cx)(f:@oV)(r:R2):@u:=∀(pins:@ae)(s:aF)(σ:St)(H:Hp)(x y:V)(v u:ah)(Q:VK),(oT,(d2,f v u))
def SA(X:Cx)(f:ah->mQ ah)(r:V->@hG):@u:=∀(pins:@ae)(s:aF)(σ:St)(H:Hp)(x:V)(v:ah)(Q:VK),@I->@iY->r x H Q->(d2,f v)
def kt(X:Cx)(f:ah)(r:@lz):@u:=∀(pins:@ae)(s:aF)(σ:St)(H:Hp)(xs:@F)(us:@O)(Q:VK),@I->@c6->r xs H Q->(d2,call f us)
def MX(r:R2)(ta tb:TE):TE:=(fn,tb σ H1 λy H2=>r x y H2 Q)
def tUn(r:V->@hG)(ta:TE):TE:=(fn,r x H1 Q)
def rI(C:(Y,Int,Int))(g:Int->Int->V):R2:=λx y H Q=>∃i j,x=@a3/\y=@k3/\C i j/\Q @gk H
def Ab(g:Int->Int->V):R2:=λx y H Q=>∃i j,x=@a3/\y=@k3/\Q @gk H
def rU(g:Int->V):V->@hG:=λx H Q=>∃i,x=@a3/\Q (g i) H
section
variable{X:Cx}{a b c:bM}{ta tb tc:TE}{pos:cO}
def SD(ha:@gj)(hb:@lI){pins:@ae}{s:aF}{σ:St}{H:Hp}{R:V->(bQ,V)}(I:@I)(h:@Eo){Q:@ac}{f:@oV}(hf:@IU):@Ea:=@Jd
def bd{op:Operator}{r:R2}(N:iZ X (wA op) r)(ha:@gj)(hb:@lI):PE X (.BinOp a op b pos) @vn:=(jd,wpAny_BinOp @IJ)
def Ac{op:UnaryOp}{r:V->@hG}(N:SA X (unaryOp op) r)(ha:@gj):PE X (.UnaryOp op a pos) (tUn r ta):=(jd,UnaryOp_ (sk,N @P Y σ H1 x v Q L G O))
def MY{f:@oV}{C:(Y,Int,Int)}{g:Int->Int->Int}(zC:(m0,C i j->Q (hg,@gk) @ic->(gx,@AQ))):iZ X f (rI C λi j=>.int @gk):=by intro pins s σ H x y v u Q I J B h;let{i,j,rfl,rfl,hc,q}:=h;rw[aX];rw[dq];exact zC i j t t' s _ _ hc (hR,@gk)
def ai7{f:@oV}{g:Int->Int->Int}(zC:(m0,Q (hg,@gk) @ic->(gx,@AQ))):iZ X f (l8,@gk):=(rX,(hR,@gk))
def MZ{f:@oV}{g:Int->Int->@an}(zC:(m0,(gl,@gk)->(gx,@AQ))):iZ X f (Ab λi j=>.bl @gk):=(rX,(Q,.bl @gk,H,I,q))
def SE(i j:Int):@u:=0<j/\j<1073741824
def SF(i j:Int):@u:=(-(2^64)<i/\i<2^64)\/(-(2^64)<j/\j<2^64)
def SF.ok{i j:Int}(h:SF i j):IntMulOk i j:=by
 rcases h with⟨Z,h2⟩|⟨Z,h2⟩;.exact .of_left (aQA Z h2)
 .exact .of_right (aQA Z h2)
def fb:(j9,(l8,i+j)):=ai7 λ_ _ _ _ _ _ _ q=>add_int q
def kR:iZ X (wA .Sub) (l8,i-j):=ai7 λ_ _ _ _ _ _ _ q=>sub_int q
def vc:(j_,.Mult,SF,i*j):=MY λ_ _ _ _ _ _ _ hc q=>mul_int q hc.ok
def B9:(j_,.FloorDiv,SE,i/j):=(l9,by have Z:@d7<j:=@h5;have h2:j<1073741824:=hc.2;exact(qz,aTY @e))
def fU:(j_,.Mod,λ_ j=>0<j,i%j):=(l9,by have Z:@d7<j:=hc;exact mod_int' @e (d,Int.fmod_eq_emod_of_nonneg i @e,q))
def unI{f:ah->mQ ah}{g:Int->Int}(zC:∀(i:Int)(t:Tok)(s:aF)(Q:@ac)(E:@ac),Q (hg,g i) @ic->(gx,f @mS)):SA X f (rU λi=>.int (g i)):=by intro pins s σ H x v Q I J h;let{i,rfl,q}:=h;rw[aX];exact zC i t s _ _ (hR,g i)
def Ad:SA X (unaryOp .USub) (rU λi=>.int (-i)):=unI λ_ _ _ _ _ q=>neg_int q
end
def ai8:V->V->@an|.non,.non=>true|.non,.int _=>true|.int _,.non=>true|.non,.bl _=>true|.bl _,.non=>true|.non,.str _=>true|.str _,.non=>true|.int _,.int _=>true|.bl _,.bl _=>true|.str _,.str _=>true|.byt _,.byt _=>true|.int _,.str _=>true|.str _,.int _=>true|.bl _,.str _=>true|.str _,.bl _=>true|_,_=>false
def rEq:R2:=(qy,@up)
def rNe:R2:=(qy,!(B,x,y))
def ft{i j:Int}:(B,V.int i,V.int j)=(i==j):=(aX,jk)
def ai9{i j:Bool}:(B,V.bl i,V.bl j)=(i==j):=(aX,jk)
def fu{i j:aq}:(B,V.str i,V.str j)=(i==j):=(aX,jk)
def ai_{i j:Array UInt8}:(B,V.byt i,V.byt j)=(i.toList==j.toList):=by rw[jk];cases i;cases j;simp
section
variable{X:Cx}{a b c:bM}{ta tb tc:TE}{pos:cO}
def iC{pins:@ae}{σ:St}{H:Hp}{s:aF}{Q:VK}{k k':Bool}(I:@I)(q:(c0,k))(e:k=k'):(e_,.bool k',s):=by subst e;exact(Q,.bl k,H,I,q)
def cg:(c6,.Eq,rEq):=by
 intro pins s σ H x y v u Q I J B h;let{hs,q}:=h;cases x with
 |non=>cases J;rw[fq,aTZ @cb,aT0 @cb,aT1 @cb,aT2 @cb]
 |bl i=>rw[l3,aT3 @cb,eq_bool (iC I q ai9),aT4 @cb]
 |int i=>rw[lZ,aT5 @cb,eq_int (iC I q ft),aT6 @cb]
 |str i=>rw[aX];rw[fq,aT7 @cb,aT8 @cb,aT9 @cb,eq_str (iC I q fu)]
 |byt i=>rw[aX];cases y with|byt j=>rw[cf,aT_ (iC I q ai_)]|_=>rw[dt]
 |_=>rw[jt]
def tO:(c6,.NotEq,rNe):=by
 intro pins s σ H x y v u Q I J B h;let{hs,q}:=h;cases x with
 |non=>cases J;rw[fq,aUa @cb,aUb @cb,aUc @cb,aUd @cb]
 |bl i=>rw[l3,aUe @cb,ne_bool (j5,ai9),aUf @cb]
 |int i=>rw[lZ,aUg @cb,ne_int (j5,ft),aUh @cb]
 |str i=>rw[aX];rw[fq,aUi @cb,aUj @cb,aUk @cb,ne_str (j5,fu)]
 |byt i=>rw[aX];cases y with|byt j=>rw[cf,aUl (j5,ai_)]|_=>rw[dt]
 |_=>rw[jt]
def jL:(c6,.Lt,Ab λi j=>.bl (decide (i<j))):=(jQ,lt_int q)
def B_:(mH,.LtE,i<=j):=(jQ,le_int q)
def j4:(mH,.Gt,j<i):=(jQ,gt_int q)
def yj:(mH,.GtE,j<=i):=(jQ,ge_int q)
def aZ(b:bM){op:K7}(h:op≠.In:=by decide)(h2:op≠@kf:=by decide):@pb:=by
 have e1:(bS,op,CmpOp.In):=by cases op<;>first|rfl|rw[a2,h]
 have e2:(bS,op,CmpOp.NotIn):=by cases op<;>first|rfl|rw[a2,h2]
 cases b<;>simp[K8,e1,e2]
def iD{op:K7}{r:R2}(N:(c6,op,r))(ha:@gj)(hb:@lI)(hm:@pb):PE X @vB @vn:=(jd,aQn @IJ hm)
def awZ(t:TE):TT:=(ev,λx H'=>∃k,x=.bl k/\Q k H')
def bj{op:K7}{r:R2}(N:(c6,op,r))(ha:@gj)(hb:@lI)(hm:@pb):PT X @vB (awZ @vn):=by intro pins s σ H Q I h;refine aQo (sk,bx (g8,_) λu s2⟨y,H2,I2,r2,q2⟩=>bx (N @P s2 σ H2 x y v u _ I2 G r2 q2) λc s3⟨z,H3,I3,D,k,e,q3⟩=>?_) hm;subst e;cases D;exact BA ⟨H3,I3,q3⟩
def HL:(W,a7)<2^63:=(lB,La)
def vals1{x:V}{us:@O}(r:bi [x] us):∃u,us=[u]/\@jN:=by cases r with|cons G r2=>cases r2;exact(am,G)
def vals2{x y:V}{us:@O}(r:bi [x,y] us):∃u w',us=[u,w']/\@jN/\RelV y w':=by cases r with|cons G r2=>cases r2 with|cons D q=>cases q;exact(ha,G,D)
def tP:(iE,"abs",∃i,xs=[@a3]/\(gT,@JR)):=by intro pins s σ H xs us Q I r h;let{i,rfl,q}:=h;rw[fP];exact call_abs_int λu tk=>(hR,@JR)
def aw0(hc:@du):(iE,"max",∃i j,xs=[@a3,@k3]/\(gT,if j>i then j else i)):=by
 intro pins s σ H xs us Q I r h;let{i,j,rfl,q}:=h;let{u,w',rfl,{t,rfl},{t',rfl}}:=vals2 r;refine max_two_ints @cn λh' tk k=>{_,H,I.kept k,?_,q};by_cases hj:j>i;.rw[aG,hj,hj];exact@eD
 rw[aj,af hj,af hj,@eD]
def aw1:(e0,.type "str",∃i,xs=[@a3]/\i.natAbs.log2<1920/\Q (.str (toString i)) H):=by intro pins s σ H xs us Q I r h;let{i,rfl,hz,q}:=h;rw[fP];exact aUm hz {.str _,H,@dj,@eD,q}
def aw2:(iE,"ord",∃x,xs=[@eo]/\@vO=1/\(eH,x.cps.getD 0 0)):=by intro pins s σ H xs us Q I r h;let{x,rfl,hz,q}:=h;rw[fP];exact ord_of_one hz (hR,_)
end
end L2
namespace L2
open PySem PySem.Spec PyProof.Rows
structure Ca(h:bV)(x dx C:aa)(mA:@aT):@u where
 obj:h.get? x=some (DR C dx)
 ns:h.Ns1 dx mA
 ne:dx≠x
def aw3{h:bV}{dx:aa}{mA:@aT}(n:h.Ns1 dx mA):∃od,h.get? dx=some od/\@F7:=by
 let{o,es,ep,N,hd,hk,_,hm}:=n;rw[ad,o,N,λname=>?_];have e:=hm @bG;unfold nsFind findBy at e;rw[<-Array.find?_toList]at e;unfold afB;rw[hd];dsimp only;split;.rename_i y q;rw[q]at e;exact dg some e
 .rename_i q;rw[q]at e;have a:(F,@E7):=by rw[asI];intro y hy;let{z,t,yT}:=hk y (aQD.mp hy);simp[aUn,yT]
  have J:¬@E7=@h:=(d,a,iA);rw[af J];exact dg some e
def Ca.look{h:bV}{x dx C:aa}{mA:@aT}(I:Ca h x dx C mA):∃od,aUo h x (DR C dx) C (some od)/\@F7:=let⟨od,N,hl⟩:=aw3 I.ns;{od,{I.obj,@d,@d,N},hl}
section
variable{prog:cE}{w:cn}{A:dQ}{E:@ac}{s:aF}{K:aM}{x dx C f:aa}{mA:@aT}{name:aq}{v:ah}
def aw4{expr:Bool}{Q:@ac}(X:@nB)(I:@As)(hg:Qn K C @bG=@h)(hh:@u2)(ha:uL K @ea @bG=some @r)(hv:mA @bG=some v)(F:aQE v=@h)(h:Q v @ic):(bc,as1 @gQ @bG expr):=(qa,aUp X J (as2 hg).1 (aUq hh ha @d (r,hl,hv)) F h)
def aw5{pl:@k5}{Q:(bg,ah×@O)}(X:@nB)(I:@As)(hg:Qn K C @bG=@h)(hf:(lp,@bG))(ht:@pa)(hv:mA @bG=@r)(h:Q (@b0,[@gQ]) s):(bc,GF @gQ @bG pl):=(qa,aUr X J (as2 hg).1 (as2 hg).2 hf (eW.mp ht) (by show(afB @bG od).map (·.isSome)=some @K;rw[hl,hv];rfl) h)
def aw6{ns:@aE}{Q:@le}(X:@nB)(I:@As)(hs:@BK)(hp:@Bb)(ht:as4 K C @bG=some @r)(hh:@u2)(hw:asU mA ns)(hsz:@aM<=a7)(h:∀h',Ca h' x dx C (λy=>(H,y,@bG,@dh,mA y))->Gu dx @am h'->Q () (en,@bk+2)):(bc,setAttr @gQ @bG v):=by let{od,J,hl}:=I.look;refine aUs X J hs (aUt (s:=@ic) (r:=@r) X J hp ht λb=>?_);let{cd,hc,U}:=aUu hh;have hx:(bx,x,{@ea,some dx,.plain,#[]}):=I.obj;rw[x,b5 (aV (aV (wpAny_loadPart hx (aV (aUv (s:=@ic) (aUw X hc) ?_)))))];rw[U];refine b5 (a:=some dx) (aV (b5 (aV ?_)));refine wpAny_nsSet1 (s:=@ic) I.ns λh' S eJ=>?_;let{D,z,B,j,n,q}:=S.count (aUx @bG v hw);rw[x,wpAny_lookBehind j (d,n,pastItsLine_dict (cU q (af,cX))) ?_];exact b5 (h _ {(eJ.2 _ (qj I.ne)).trans I.obj,S,I.ne} eJ)
def aw7{R:(bg,Qp)}{vs:@O}{j:@nf}(X:@nB)(hm:@Bc)(hi:@zN)(hf:aUy K @b0=some (.type "function"))(h:zD @eA (A.under (of,@ea::vs)) (.call @b0 ⟨.ref @bt::vs,j⟩) (aUz @bt R) {s with heap:=@Ly}):zD @eA A (.call @ea ⟨vs,j⟩) R s:=by let{hh,g,d,t,os}:=s;exact aUA (aUB X hm) (aUC X hi) (λself=>aUD X self hf) @aK h
end
def bJ(f:aq)(v:V):@cU->@cU|[]=>[(f,v)]|(g,x)::r=>(H,g,f,(g,v)::r,(g,x)::bJ f v r)
def aja(f g:aq)(v:V):∀fs:@cU,(bJ f v fs).lookup g=(H,g,f,@dh,fs.lookup g)
 |[]=>by
  show DW g [(f,v)]=_;by_cases h:g=f;.have hb:(c3,g,f):=eW.mpr h;simp only[DW,hb,ai h]
  .have hb:(bS,g,f):=q_.mpr h;simp only[DW,hb,af h]
 |(k,x)::r=>by
  have ih:=aja f g v r;rw[(@CS)];by_cases hk:k=f
  .rw[ai hk];by_cases h:g=k;.have hb:(c3,g,k):=eW.mpr h;simp only[DW,hb,ai (h.trans hk)]
   .have hb:(bS,g,k):=q_.mpr h;simp only[DW,hb,af (λe:g=f=>h (e.trans hk.symm))]
  .rw[af hk];by_cases h:g=k;.have hb:(c3,g,k):=eW.mpr h;simp only[DW,hb,af (λe:g=f=>hk (h.symm.trans e))]
   .have hb:(bS,g,k):=q_.mpr h;simp only[DW,hb];exact ih
def SG(f:aq)(v:V):∀fs:@cU,f∈@Hu/\∀g,g∈fs.map @aA->g∈@Hu
 |[]=>{by simp[bJ],λg h=>@a5}
 |(k,x)::r=>by
  let{i1,i2}:=SG f v r;rw[(@CS)];by_cases hk:k=f;.rw[ai hk];subst hk;exact{@v,λg h=>@c7}
  .rw[af hk];rw[aP,λg h=>?_];rw[s,cb,f6 _ i1]
   .rw[cb]at h⊢;rcases de.mp h with e|e;.exact de.mpr @g4
    .exact f6 _ (i2 g e)
def ajb(f:aq)(v:V):∀fs:@cU,(bJ f v fs).length<=@qn+1
 |[]=>by simp[bJ]
 |(k,x)::r=>by
  have ih:=ajb f v r;rw[(@CS)];by_cases hk:k=f;.rw[ai hk,cX,cX];omega
  .rw[af hk,cX,cX];omega
def km.some_of{v:V}{o:@gz}(r:km @dh o):∃u,(bJ,o)/\@da:=by cases o with|none=>rw[cQ]|some u=>exact(aD,u,r)
def km.none_of{o:@gz}(r:km @r o):o=@r:=by cases o with|none=>rfl|some u=>rw[cQ]
def aw8{v:V}{u:ah}(r:@da):aQE u=@h:=by cases v with|non=>cases(show u=xQ from r);rfl|bl b=>cases(show u=DQ b from r);rfl|int i=>rw[e9,K4 i t]|str x=>rw[e9,aft x t]|byt b=>rw[e9,aQi b t]|flt b=>rw[e9,aQj b t]|ref a=>cases(show u=cy a from r);rfl|ty n=>cases(show u=xS n from r);rfl
section
variable{P:cE}{w:cn}{H H':Hp}{h h':bV}{a C dx:aa}{fs fs':@cU}
def SH(hok:@cG)(e:@tr):∃mA,Ca h a dx C mA/\@Co/\@Ki/\@qn<=1000/\(P,dx,@rd):=by let{d,z,ne,ob,mA,n,r,q}:=(f2,(ad,fs),hok a _ e);exact{mA,⟨ob,n,ne⟩,r,q,z,d}
end
structure mm(K:aM)(C:aa):@u where
 pg:Qn K C aQF=@h
 hd:@u2
 po:@Bb
 sa:@BK
def mm.get{K:aM}{C:aa}(c:@fk)(f:aq):Qn K C f=@h:=c.pg
def fV(K:aM)(C:aa)(f:aq):@u:=@Am
def fV.taker{K:aM}{C:aa}{f:aq}(n:(ak,f)):as4 K C f=some @r:=by unfold as4;rw[show@Am from n];rfl
structure EM(K:aM)(C:aa)(m:aq)(f:aa):@u where
 at_:(lp,m)
 fn:@pa
 kp:@j3
section
variable{X:Cx}{pins:@ae}{σ:St}{H:Hp}{s:aF}{a C dx:aa}{fs:@cU}{f:aq}{v:V}{A:dQ}{E:@ac}
def aw9{b:Bool}{Q:@ac}(I:@I)(e:@tr)(c:@n2)(n:fV X.K C f)(l:fs.lookup f=some v)(h:∀u s',@wr->@da->Q u s'):(cP,as1 @W f b):=by rw[iY];let{u,hu,S}:=km.some_of (v:=v) (o:=mA f) (G,l,r f);exact aw4 @lZ O (c.get f) c.hd n hu (aw8 S) (h u _ @dj S)
def SI{m:aq}{g:aa}{pl:@k5}{Q:(bg,ah×@O)}(I:@I)(e:@tr)(c:@n2)(k:EM X.K C m g)(l:fs.lookup m=@r)(h:Q (.ref g,@cM) s):(cP,GF @W m pl):=by rw[iY];have hn:mA m=@r:=km.none_of (G,l,r m);exact aw5 @lZ O (c.get m) k.at_ k.fn hn h
def aw_{y:V}{u:ah}{Q:@le}(I:@I)(e:@tr)(c:@n2)(n:fV X.K C f)(hl:@qn<1000)(B:@dQ)(h:(oP,@GA)):(cP,setAttr @W f u):=by
 let{mA,O,r,G,_,N}:=SH @cd e;have hz:(fs.map @aA).length<=a7:=(jX,La);refine aw6 @lZ O c.sa c.po n.taker c.hd G hz λh' j W=>h _ ?_;have hd:∃o,(R,h'.get? dx):=let⟨o,_,_,F,_⟩:=j.ns;⟨o,F⟩;refine I.write (x:=a) (e:=dx) (cl,zE) (.inr N) (λb q hb z=>(iA,z)) hd ?_;refine{(D,O.ne,N),?_,O.ne,j.obj,_,j.ns,λg=>?_,@nq};rw[aQ,ajb f y fs]
 .show km ((bJ f y fs).lookup g) @FA;rw[aja];by_cases q:g=f;.rw[aG,q,q];exact B
  rw[aj,af q,af q,r g]
 .by_cases q:g=f;rw[s,q,(SG f y fs).1];.refine(SG f y fs).2 g (G g λz=>hg ?_);rw[aC,@FA];rw[af q];exact z
def Inv.made(I:@I):(jY,ag (lA,.own @bt) @bt (.ins C @al []),@Ly):=by have e1:(p5,BD,BD):=jc @am @d;have e2:((s.heap.push BD).push @w_).get? @bt=some @w_:=(gj,jc (s.heap.push BD) (o:=@w_) @d,wB);have e3:(s.heap.push BD).Ns @al @q6:={BD,#[],_,e1,@d,λe he=>(fl,he),@bm};rw[m_,.own @bt,s.heap.push BD,λb u q=>gB _ q,{_,e1}];refine L.laid (a:=@bt) (o:=.ins C @al []) (t':=@bk) (λb u q=>gB _ q) (Lb (wB _ _)) ?_;have ne:@al≠@bt:=il (Qq _);refine{(r,aA ne,ao),@aO,ne,e2,@q6,(aUE e3).at λo q=>gB _ q,λ_=>zE,λy hy=>absurd @d hy}
def axa{prog:cE}{w:cn}{env:jI}{e:bM}{f:aq}{pos:cO}{s:aF}{Q:@ac}(hb:DX e f env (cp e env)=cp e env)(h:(kU,cp e env,λo j=>aX @eA A (as1 o f @h) Q E j)):(bc,cp @BS env):=Attribute_any_ h (r,arm_eval_Attribute,hb)
end
def ajc(K:aM)(ta:TE)(f:aq):TE:=(fn,∃a C dx fs v,x=@W/\@B4/\@fk/\(ak,f)/\fs.lookup f=some v/\Q v H1)
def axb(K:aM)(ta tv:TE)(f:aq):TS:=λD σ H=>tv σ H λy H1=>ta σ H1 λx H2=>∃a C dx fs,x=@W/\(cA,H2 a,fs)/\@fk/\(ak,f)/\@qn<1000/\(dP,ag H2 a @GA)
section
variable{X:Cx}{o e value:bM}{f:aq}{pos sh xp:cO}{ta tv:TE}
def axc(he:PE X e ta)(hb:@HX):PE X @BS (ajc X.K ta f):=(oO,axa hb (ff,λu Y⟨x,H1,L,J,a,C,dx,fs,v,ex,M,c,n,l,q⟩=>?_),aw9 L M c n l λF s2 I2 S=>⟨v,H1,I2,S,q⟩)
def cT(ha:@rI)(hv:@Bg)(hs:(lU,@gu,.Attribute o f sh)):PS X (.Assign [.Attribute o f sh] @gu pos) (axb X.K ta tv f):=by intro pins s σ H D I h;refine plainObj_wpAny_Assign_Attribute (s5,λu Y⟨y,H1,L,B,q⟩=>bx (ha @P Y σ H1 _ L q) λz s2⟨x,H2,I2,J,a,C,dx,fs,ex,M,c,n,l,q2⟩=>?_) hs;subst ex;obtain rfl:z=cy a:=J;exact aw_ I2 M c n l B λs3 I3=>{σ,_,I3,q2}
def aSG{pl:@k5}{m:aq}{apos:cO}{args:@bR}{pins:@ae}{s:aF}{σ:St}{H:Hp}{Q:@ac}{te:TE}(he:@dC)(I:@I)(h:(hv,∃a C dx fs g,x=@W/\@B4/\@n2/\EM X.K C m g/\fs.lookup m=@r/\∀Y,(ar,H1,Y)->(gR,Lc pos (.ref g) @cM (kI pos (dc,args)) (DY pos (DZ [] @a0)),Q,Y)))(ht:(lk,(eq,e,m),args)=(do
 let z<-cp e X.env
 Gz apos.atName
 let(f,first)<-wz [z] (GF z m pl)
 Lc pos f first (kI pos (dn args X.env)) (DY pos (DZ [] X.env)))):(dJ,(lk,(eq,e,m),args),Q):=by refine as6 (pl:=pl) (ff,λu Y⟨x,H1,L,J,a,C,dx,fs,g,ex,M,c,k,l,q⟩=>?_) ht;subst ex;rw[bg];exact SI L M c k l (q Y L)
end
section
variable{X:Cx}{pins:@ae}{σ:St}{H:Hp}{s:aF}{A:dQ}{E:@ac}{Q:@ac}{c:ah}{b:Bool}
end
end L2
namespace L2
open PySem PySem.Spec PyProof.Rows
structure fw(k:Nat)(A:dQ):@u where
 hd:@jE
 dp:@q0+3*k+5<aQG
 un:@jC+16*k+200<gW
def fw.mono{j k:Nat}{A:dQ}(r:@lr)(h:j<=k):fw j A:={r.hd,by have:=r.dp;omega,by have:=r.un;omega}
def fw.deeper{k:Nat}{A:dQ}(r:fw @aV A)(env:jI):fw k (A.deeper env):=(p2,@q0+1+3*k+5,@jC+3+16*k+200)
def fw.in1{k:Nat}{A:dQ}(r:fw @aV A):fw k @l0:=(p2,@q0+3*k+5,@jC+1+16*k+200)
def axd{A:dQ}{C:aa}{us:@O}{j:@nf}:(A.under @uN).depth=@q0+1:=by first|rfl|simp[as7,Code.weight,Code.isCreation,Code.isGuard,Code.isCaller,aQH,as8,guardIds]
def axe{A:dQ}{C:aa}{us:@O}{j:@nf}:(A.under @uN).units=@jC+1:=by first|rfl|simp[as7,Code.cUnits,aQH,as8]
def fw.make{k:Nat}{A:dQ}(r:fw @aV A)(C:aa)(us:@O)(j:@nf):fw k (A.under @uN):={r.hd,by have:=r.dp;rw[axd];omega,by have:=r.un;rw[axe];omega}
def fw.depth{k:Nat}{A:dQ}(r:@lr):@q0<aQG:=by have:=r.dp;omega
def fw.units{k:Nat}{A:dQ}(r:@lr):@jC+64<gW:=by have:=r.un;omega
def yk:TA:=(hh,[])
def wV(ta:TE)(j:TA):TA:=(fn,j σ H1 λxs H2=>Q @lj H2)
section
variable{X:Cx}{e:bM}{es:@bR}{te:TE}{t:TA}{pos:cO}
def ac:PA X [] yk:=λ_ _ _ _ H Q I h=>afD {[],H,I,@ay,h}
def ab(ha:@dC)(hr:@rO)(hs:@gl:=by rfl):PA X @fv (wV te t):=by intro pos pins s σ H Q I h;rw[hs];rw[bS,spliced ((@K,@hJ)::kI pos @md)];refine Qr (bx (fI,_) @E9);exact bx (hr pos @P Y σ H1 _ L O) λus s2⟨xs,H2,I2,r2,q2⟩=>{@lj,H2,I2,.cons G r2,q2}
def SJ(t:TA):TE:=(sg,(il,(cV,p),ag H1 p @d9))
def axf(t:TA):TE:=(sg,(lE,xs))
def jC{j}(h:@rO):PE X (.Tuple es j pos) (SJ t):=(qK,wpAny_Tuple_spliced @Id,ag H1 @bF @d9,{z,us,r,{_,@c3,@d,_,@d}})
def bR(h:@rO):PE X (.List es pos) (axf t):=(qK,wpAny_List_spliced @Id,(cY,@bF,xs),{z,us,0,r,@c3})
end
abbrev Sp:=@F->Hp->(Y,VK,XK)
abbrev rR:=@ep->Hp->aF->XK->@ac
structure Ae(P:cE)(w:cn)(K:aM)(mg:@aT)(base:bV)(A:dQ)(outer:@ep)(s:aF)(H:Hp):@u where
 frames:A.frames=some @bf
 mod:Mod K mg @ba
 bs:(ix,base.get? b,@dr/\@bP)
 bsz:base.objs.size<=@al
 funs:s.heap.FunFrames @ba @bf
 frf:∀b∈uY @bf,@bP
 hok:fT P w H @am
 bare:Gy @nb
def CE(outer:@ep)(P:cE)(w:cn)(H:Hp)(s:aF)(Q:VK)(u:ah)(s':aF):@u:=∃v H',s'.os=s.os/\Gy s'.gens/\Un (uY @bf) [] H H' @am @gs/\fT P w H' @gs/\@da/\Q v H'
def CR(CX:rR)(outer:@ep)(P:cE)(w:cn)(H:Hp)(s:aF)(Q:VK)(E:XK)(r:Qp)(s':aF):@u:=match r with|.ok (.ret u)=>@Hk|.ok _=>False|.error e=>CX @bf H s E e s'
structure aU(P:cE)(w:cn)(K:aM)(mg:@aT)(base:bV)(CX:rR)(k:Nat)(f:aa)(fd:lD)(ps:@aE)(sp:Sp):@u where
 len:@Cs
 run:∀(A:dQ)(outer:@ep)(s:aF)(H:Hp)(args:Args)(us:@O)(vs:@F)(Q:VK)(E:XK),@lr->(kW,A)->Ld s fd args @kw->@jc->sp vs H Q E->zD (bv P w) A (.call @b0 args) (CR CX @bf P w H s Q E) s
def aU.mono{P:cE}{w:cn}{K:aM}{mg:@aT}{base:bV}{CX:rR}{j k:Nat}{f:aa}{fd:lD}{ps:@aE}{sp:Sp}(F:(nG,j,f))(h:j<=k):(nG,k,f):={F.len,λA outer s H args us vs Q E hr=>F.run A @bf s H args us vs Q E (hr.mono h)}
def Ae.make{P:cE}{w:cn}{K:aM}{mg:@aT}{base:bV}{A:dQ}{outer:@ep}{s:aF}{H:Hp}(e:(kW,A))(C:aa)(us:@O)(j:@nf):(kW,A.under @uN):={by first|exact e.frames|(simpa[as7,Code.envs,as8,pushEnvs]using e.frames),e.mod,e.bs,e.bsz,e.funs,e.frf,e.hok,e.bare}
section
variable{X:Cx}{pins:@ae}{σ:St}{H:Hp}{s s':aF}
def Inv.env0(I:@I):(rH,X.A):={I.ok.frames,I.ok.mod,I.bs,cU @wq I.sz,I.stack,I.stkFree,@cd,@gr}
def Inv.after{Q:VK}{u:ah}(I:@I)(h:CE @es @a8 X.w H s Q u s'):(e_,u,s'):=by let{v,H',os,bare,un,hok,r,q}:=h;let{hh,g,d,t,V}:=s';obtain rfl:V=s.os:=os;exact{v,H',I.call (h':=hh) (g':=g) (d':=d) (t':=t) (ch:=[]) un hok bare (λb z=>(fl,z)),r,q}
end
def M1(sp:Sp)(ka:@F)(E:XK)(t:TA):TE:=(ev,λvs H1=>sp @kV H1 Q E)
def M3(C:aa)(m:aq)(sp:Sp)(ka:@F)(E:XK)(ta:TE)(t:TA):TE:=(fn,∃a dx fs,x=@W/\@B4/\fs.lookup m=@r/\t σ H1 λvs H2=>sp (x::@kV) H2 Q E)
def HN(C:aa)(sp:Sp)(ka:@F)(E:XK)(t:TA):TE:=(ev,λvs H1=>(qB,(cV,x),(cV,dx),@oY))
def Binds(K:aM)(fd:lD)(ps:@aE)(ds:@O):@u:=∀(s:aF)(us:@O),@nB->(us++ds).length=@dF->Ld s fd @pY (ps.zip (us++ds))
def Binds.all{K:aM}{fd:lD}{ps:@aE}(h:∀us:@O,(ol,fd)):@lT:=λs us _ hl=>by rw[gk]at hl⊢;exact .of_eq (h us hl)
def Af(CX:rR)(X:Cx)(E:XK):@u:=∀(pins:@ae)(σ:St)(H:Hp)(s:aF)(e:ah)(s':aF),@I->CX @es H s E e s'->X.xe e s'
section
variable{X:Cx}{CX:rR}{k:Nat}{f C:aa}{fd:lD}{ps:@aE}{sp:Sp}{ka:@F}{ds:@O}{E:XK}{x m:aq}{p pos apos:cO}{e o:bM}{es:@bR}{ta:TE}{t:TA}
def M5{pins:@ae}{σ:St}{H:Hp}{s:aF}{Q:VK}{us:@O}{vs:@F}(F:@lC)(hr:@jS)(hb:@lB)(hd:@lQ)(hx:@lW)(I:@I)(r:@jc)(h:sp @kV H Q E):(d2,call @b0 us):=by have r2:bi @kV (us++ds):=r.append hd;have hl:(us++ds).length=@dF:=(G,r2.length,F.len _ _ _ _ h);refine as9 (Qt (F.run X.A @es s H @pY (us++ds) @kV Q E hr I.env0 (hb s us @lZ hl) r2 h) λr s' U=>?_);cases r with|error e=>exact hx @P σ H s e s' I U|ok O=>rw[lN]
def axg(F:@lC)(hr:@jS)(hg:@cF)(hm:(gQ,@b0))(hk:uM X.K @b0=@h)(hb:@lB)(hd:@lQ)(hx:@lW)(ha:@hp)(j:@cc:=by decide)(he:@gl:=by rfl)(dF:@ix:=by rfl):(gs,M1 sp ka E t):=by intro pins s σ H Q I h;rw[hK];rw[h1,hk,@Er];exact M5 F hr hb hd hx L r q
def axh{pl:@k5}(he:@rI)(c:@n2)(hm:EM X.K C m f)(F:@lC)(hr:@jS)(hb:@lB)(hd:@lQ)(hx:@lW)(ha:@hp)(dM:@gl:=by rfl)(dF:@ix:=by rfl)(ht:@Fb:=by rfl):(kT,@fv,ka,E,t):=by intro pins s σ H Q I h;rw[nn];subst ex;rw[bg];refine SI L M c hm l ?_;refine afE (first:=@cM) (h₀:=@fp) I.ok.mod.kin hm.kp (bx (ha pos @P Y σ H1 _ L q) λus s2⟨vs,H2,I2,r,q2⟩=>{I2.kIn,?_}) dM dF;exact M5 (us:=@W::us) (vs:=@W::vs) F hr hb hd hx I2 (.cons @d r) q2
def axi{pl:@k5}(he:@rI)(c:@n2)(hm:EM X.K C m f)(F:@lC)(hr:@jS)(hb:@lB)(hd:@lQ)(hx:@lW)(ht:@Fa:=by rfl):(kT,[],ka,E,yk):=by intro pins s σ H Q I h;rw[nn];subst ex;rw[bg];refine SI L M c hm l ?_;exact aQI (first:=@cM) L.kIn hm.kp (M5 (us:=@cM) (vs:=@cM) F hr hb hd hx L (dX,@d) q)
structure Mk(K:aM)(C f:aa):@u where
 makes:@Bc
 init:@zN
 fn:@pa
 kp:uM K @ea=@h
def ajd{pins:@ae}{σ:St}{H:Hp}{s:aF}{Q:VK}{us:@O}{vs:@F}(M:Mk X.K C f)(F:@lC)(hr:@j2)(hb:@lB)(hd:@lQ)(hx:@lW)(I:@I)(r:@jc)(h:(qB,(I,x),(I,dx),ag @Ks x (ad,[]))):(d2,call @ea us):=by
 have U:=h @bt @al @x5 @fK (il (Qq _));have I2:=Inv.made (C:=C) I;have r2:bi (V.ref @bt::@kV) @K1:=.cons @d (r.append hd);have hl:(cy @bt::us++ds).length=@dF:=by have e:=r2.length;rw[F.len _ _ _ _ U]at e;exact@gA
 refine as9 (aw7 (f:=f) @lZ M.makes M.init (eW.mp M.fn) (Qt (F.run _ @es _ _ ⟨cy @bt::us,[]⟩ @K1 _ _ E (hr.make C us []) (I2.env0.make C us []) (hb _ (cy @bt::us) I2.kIn hl) r2 U) λr s' lj=>?_));cases r with|error e=>exact hx @P σ _ _ e s' I2 lj|ok O=>cases O with|ret u=>let{v,H',I3,rv,z,q3}:=I2.after lj;subst z;exact{rv,(Q,V.ref @bt,H',I3,q3)}|next=>exact l5 lj|brk=>exact l5 lj|cont=>exact l5 lj
def axj(M:Mk X.K C f)(F:@lC)(hr:@j2)(hg:@cF)(hm:(gQ,@ea))(hb:@lB)(hd:@lQ)(hx:@lW)(ha:@hp)(j:@cc:=by decide)(he:@gl:=by rfl)(dF:@ix:=by rfl):(gs,HN C sp ka E t):=by intro pins s σ H Q I h;rw[hK];rw[h1,M.kp,@Er];exact ajd M F hr hb hd hx L r q
def axk(M:Mk X.K C f)(F:@lC)(hr:@j2)(hg:@cF)(hm:(gQ,@ea))(hb:@lB)(hd:@lQ)(hx:@lW)(j:@cc:=by decide):(gI,@iT,[],HN C sp ka E yk):=by intro pins s σ H Q I h;rw[hK];exact aQI @lZ M.kp (ajd (us:=[]) M F hr hb hd hx I @ay h)
end
section
variable{X:Cx}{CX:rR}{k:Nat}{f C:aa}{fd:lD}{ps ks:@aE}{sp:Sp}{E:XK}{x m:aq}{p pos apos aSQ:cO}{e o:bM}{es:@bR}{kws:List Qu}{te ta:TE}{t tk:TA}{nm:Option aq}
variable{g:@O->@O->@O}{gV:@F->@F->@F}
end
structure bg(N P:@aE)(j:kH):@u where
 kind:@wU=@la
 co:(F,j.isCoroutine)
 gen:(F,j.isGenerator)
 nd:N.Nodup
 pre:N.take P.length=P
 par:∀x∈P,@JI
 nofree:∀y∈j.names,y.2≠@dE
def aje{sQ:@tl}{x:aq}:(re,D6 sQ eE m x)|[],_,_=>rfl|(n,v)::r,m,h=>by unfold D6;rw[aje @Cm];split;rw[la];.rfl
def ajf{sQ:@tl}{x:aq}:(re,D7 sQ eE m x)
 |[],_,_=>rfl
 |(n,v)::r,m,h=>by
  unfold D7;rw[ajf @Cm];split;.rfl
  rw[la]
def ajg{sQ:@tl}{x:aq}{v:ah}:(rf,(g2,sQ x),D6 sQ (P.zip vs) m x)|[],_,_,_,_,h,_,_=>@a5|_::_,[],_,_,_,_,h,_=>@a5|p::P,w::vs,0,m,nd,Z,h2,hk=>by simp at Z h2;subst Z;subst h2;show D6 sQ @vr m p=_;unfold D6;rw[aje @FW,ai hk];simp|p::P,w::vs,i+1,m,nd,Z,h2,hk=>by show D6 sQ @vr m x=_;unfold D6;exact ajg (i:=i) (mJ.mp nd).2 @s8 @rn hk
def ajh{sQ:@tl}{x:aq}{v:ah}:(rf,sQ x≠some @k7,D7 sQ (P.zip vs) m x)|[],_,_,_,_,h,_,_=>@a5|_::_,[],_,_,_,_,h,_=>@a5|p::P,w::vs,0,m,nd,Z,h2,hk=>by simp at Z h2;subst Z;subst h2;show D7 sQ @vr m p=_;unfold D7;rw[ajf @FW,af hk];simp|p::P,w::vs,i+1,m,nd,Z,h2,hk=>by show D7 sQ @vr m x=_;unfold D7;exact ajh (i:=i) (mJ.mp nd).2 @s8 @rn hk
def start(N:@aE)(vs:@F):St:=vs.map some++qm (N.length-@fq) @r
def EN(CX:rR)(P:cE)(w:cn)(K:aM)(mg:@aT)(base:bV)(N:@aE)(j:aq)(ba:kH)(f:aa)(cd:ah)(A:dQ)(outer:@ep)(s:aF)(H:Hp)(E:XK):Cx where
 prog:=P
 w:=w
 K:=K
 mg:=mg
 base:=@ba
 A:=@E8
 N:=N
 s_0:=s
 H_0:=H
 env:=(iS,cd)
 outer:=@bf
 stack:=(iS,cd)::@bf
 ex:=[]
 calm:=@h
 fn:=@eX
 pn:=[]
 xe:=λe s'=>aX (bv P w) @E8 (leaving (iS,cd) e) (λ_ n=>CX @bf H s E e n) (λF n=>CX @bf H s E F n) s'
def aji{j:kH}{n:Nat}{x:aq}(h:@mO=some @db):∃c,(l6 n j.names []).lookup x=some c:=by have q:=aQJ j.names n [] @fN;exact aQK.mp q
def axl{CX:rR}{P:cE}{w:cn}{K:aM}{mg:@aT}{base:bV}{N ps:@aE}{j:aq}{ba:kH}{f:aa}{cd:ah}{A:dQ}{outer:@ep}{s Y:aF}{H:Hp}{E:XK}{us:@O}{vs:@F}(S:bg N ps ba)(hd:@jE)(e0:(kW,A))(hl:@fq=@dF)(r:@jc)(x:InCallC s @al (D6 @If @kw @q6) (l6 @bt @d3 []) (D7 @If @kw @q6) Y):Inv (EN CX P w K mg @ba N j ba f cd A @bf s H E) [] @sj H Y:=by
 have dF:@dF<=N.length:=by have:=dg lz S.pre;rw[eD]at this;omega
 let{Z,tk,rfl,hk}:=x.done;have I:∀b:aa,b∉(EN CX P w K mg @ba N j ba f cd A @bf s H E).ex:=λb z=>(fl,@Fd);refine{{e0.mod,S.kind,@d,@d,@L,λy z c Z h2=>?_,@nn,λy c _ h=>?_,λ_=>hd,aUF e0.frames,.inr @ds,@Lz,e0.bs,e0.bsz,λb _ _=>I b,@Lz,e0.funs,e0.frf},@d,e0.bare,Un.kept hk,{_,x.toInCall.ns,λi y v Z h2 h3=>?_},λy c h=>{_,x.cell y c h},e0.hok.fresh @L,λy c h=>?_,λp hp=>(fl,show p∈([]:@ae)from hp),e0.hok.kept hk,?_};.exact name_of_addr x.apart (rk Z) (rk h2)
 .have hy:(g6,@kR,@kR):=hy;rcases hy with hy|hy;.exact aji hy
  rw[ai,@d,S.nofree _ (rk hy)]
 .exact@Hn
 .have hi:i<@fq:=by
   unfold start at h2;by_cases hi:i<@fq;.exact hi
   .rw[uG @hd]at h2;rw[List.getElem?_replicate]at h2;split at h2<;>cases h2
  have ha:(C,vs,v):=by unfold start at h2;rw[ae2 @hd,be]at h2;cases e:vs[i]? with|none=>rw[e]at h2;cases h2|some a=>rw[e]at h2;cases h2;rfl
  let{u,hu,rv}:=r.get ha;have hp:(C,ps,y):=by rw[<-S.pre,List.getElem?_take_of_lt @e];exact Z
  have B:ps.Nodup:=(G,S.pre,S.nd.sublist (List.take_sublist _ _));rw[ab,u,rv];rcases S.par y (cZ hp)with k|k;rw[Q,{k,ajg B hp hu k}];.let{c,e}:=aji (n:=@bt) k;refine .inr {.inl k,c,e,?_};have q:=x.cell y c e;rw[ajh B hp hu (by show@kR≠_;rw[k];decide)]at q;exact q
 .exact e0.hok.fresh @Hn
 .unfold start;show _=N.length;rw[dj,au,List.length_replicate];omega
def axm{CX:rR}{P:cE}{w:cn}{K:aM}{mg:@aT}{base:bV}{k:Nat}{f:aa}{name j:aq}{anF:aQL}{body:@jk}{ba:kH}{dV kV L pm aL ct oc:ah}{z od:@eg}{M:@jr}{N ps:@aE}{sp:Sp}(G:(hQ,@IO))(W:(hK,j))(S:bg N ps ba)(len:@Cs)(ab4:∀(A:dQ)(outer:@ep)(s:aF)(H:Hp)(vs:@F)(Q:VK)(E:XK),(rl,(iS,aL),EN CX P w K mg @ba N j ba f aL A @bf s H E,body)):aU P w K mg @ba CX @aV f @IO ps sp:=by
 rw[P,len,λA outer s H args us vs Q E hr e0 hb r D=>?_];have hl:=len _ _ _ _ D;have B:@nB:=e0.mod.kin.keeps @Hq;have lim:s.heap.NoLimit:=e0.mod.nolimit.keeps @Hq;have F:∀y∈@kw,(g2,@sO)\/(@sO=some @db/\((l6 @bt @d3 []).lookup y.1).isSome=@h):=λ⟨n,v⟩hy=>by rcases S.par n (as_ hy).1 with q|q;rw[Q,q];rw[ac,{q,aQJ _ _ _ (.inl q)}]
 refine codeAny_call_function hr.depth (B _ _ G) @d S.co S.gen @d (aUG B W) (hb _ _ _ _ ?_);refine wpAny_newFunctionEnv_cells S.kind F λenv he Y x=>?_;subst he;rw[P,lim.keeps x.toInCall.keep,codeAny_func ?_];let{t,ht,U}:=ab4 A @bf s H vs Q E (hr.deeper _) D;have I:Inv (EN CX P w K mg @ba N j ba f aL A @bf s H E) [] @sj H Y:=axl S hr.hd e0 hl r x;refine qk (ht [] Y @sj H _ I U) (λO s' hs=>?_) λe s' hs=>hs;have fin:∀{σ':St}{H':Hp}{v:V}{u:ah},Inv (EN CX P w K mg @ba N j ba f aL A @bf s H E) [] σ' H' s'->@da->Q v H'->@Hk:=λ{σ' H' v u}J rv q=>⟨v,H',J.os,J.bare,J.base,J.hok,rv,q⟩;cases O with|ret u=>let{v,σ',H',J,rv,q}:=hs;exact fin J rv q|next=>let{σ',H',J,q}:=hs;exact fin (v:=V.non) (u:=xQ) J @d q|brk=>let{_,_,_,q}:=hs;exact l5 q|cont=>let{_,_,_,q}:=hs;exact l5 q
end L2
namespace L2
open PySem PySem.Spec PyProof.Rows
section
variable{X:Cx}{x:aq}{p pos:cO}{e:bM}{es:@bR}{t:TA}{id T:String}{r:@lz}
def tCB(r:@lz)(t:TA):TE:=(ev,λvs H1=>r vs H1 Q)
def bm(hc:kt X @mG r)(hg:@cF)(hm:X.mg x=@r)(hv:Gx x=some @mG)(ha:@hp)(hn:@w2:=by decide)(j:@cc:=by decide)(he:@gl:=by rfl)(dF:@ix:=by rfl):(gs,tCB r t):=(rV,aUH (la,@Jg) he dF)
def mX(hc:kt X (.type T) r)(hg:@cF)(hm:X.mg x=@r)(hv:Gx x=some (.type T))(ha:@hp)(hn:@w2:=by decide)(j:@cc:=by decide)(he:@gl:=by rfl)(dF:@ix:=by rfl):(gs,tCB r t):=(rV,DV (la,@Jg) he dF)
end
end L2
namespace HT
open PySem PyProof.Rows
def lexLt:@J->@J->@an|[],[]=>false|[],_::_=>true|_::_,[]=>false|x::xs,y::ys=>(H,x,y,lexLt xs ys,(ap,x,y))
def EO(x y:Int)(xs ys:@J):lexLt @lj (y::ys)=(H,x,y,lexLt xs ys,(ap,x,y)):=@d
def axn:(F,lexLt [] []):=@d
def axo(y:Int)(ys:@J):lexLt [] (y::ys)=@h:=@d
def axp(x:Int)(xs:@J):(F,lexLt @lj []):=@d
def SK(A:dQ)(s:aF)(a:Int)(t:Tok)(c:Int)(u:Tok):∃e,ata A s @rz @rM e/\(e=@h↔a=c):={a==c,aQM a t c u,@v}
def SM(A:dQ)(s:aF)(a:Int)(t:Tok)(c:Int)(u:Tok)(prog:cE)(w:cn)(E:@ac)(Q:@ac)(h:(gl,(ap,a,c))):(bc,Qv .Lt @rz @rM):=(aUI h:(bc,mR .Lt @rz @rM))
section
open PySem.SeqAt
open PySem.AutoSeq1(wpAny_loadPart')
open PySem.MeetsSeq PySem.MeetsSeq2 PySem.MeetsSeq3
def axq(l b:aa)(items items2:@cj)(n n2:Nat)(dd M:@eg)(D U:@jr)(ns ms:@J)(hi:@zg)(hj:@Ae):afF (Builtin.«tuple.__lt__» @Ak) (λ_ R s=>(bx,l,{cls:=@dR,dict:=dd,data:=@w3,slots:=D})/\@iJ=some @Hd/\(lC,@u0,s)):=.of_wp λprog w A R s h=>by
 rw[dG];rw[dH];have f2:=aQN;have z1:@bH=@aM:=(hl,hi.length);have z2:@l1=@rh:=(hl,hj.length);wp_walk using sR hl,sR hb,DP _ (λrest b s'=>b.1=@r/\s'=@vL/\∃(vs L:@O)(J F:@J),@bl=vs.zip L/\rm vs J/\rm L F/\J.length+@l1=@i0+@bH/\(lC,lexLt J F,@vL)) _;case turn=>rintro⟨y,x⟩rest b s'⟨G,rfl,vs,L,J,F,hz,j,I,bG,O⟩;cases j with|nil=>rw[List.zip_nil_left]at hz;cases hz|cons a t V=>cases I with|nil=>rw[List.zip_nil_right]at hz;cases hz|cons c u S=>rw[P7]at hz;injection hz with N ug;injection N with hy hx;subst hy hx;rw[EO]at O;simp only[cX]at bG;obtain⟨e,he,B⟩:=SK A.in1 ⟨hp,g,d,tk,os⟩ a t c u;refine aV (he prog w _ _ ?_);cases e with|true=>rw[ai (B.mp rfl)]at O;wp_walk;exact⟨rfl,rfl,_,_,_,_,ug,V,S,by omega,O⟩|false=>rw[af (λq=>absurd (B.mpr q) iA)]at O;have z:=SM A.in1 ⟨hp,g,d,tk,os⟩ a t c u prog w;wp_walk using z;exact⟨_,rfl,by simpa using O⟩
 case fin=>
  rintro⟨b1,b2⟩s'⟨G,rfl,vs,L,J,F,hz,j,I,bG,O⟩;simp only at G;subst G;have hv:lexLt J F=decide (items.size<items2.size):=by
   cases j with
   |nil=>cases I with|nil=>simp only[Qw]at bG;rw[axn];exact(cG (by omega)).symm|cons c u hw=>simp only[Qw,cX]at bG;rw[axo];exact(bq (by omega)).symm
   |cons a t hv=>cases I with|nil=>simp only[Qw,cX]at bG;rw[axp];exact(cG (by omega)).symm|cons c u hw=>rw[P7]at hz;cases hz
  rw[hv]at O;wp_walk;exact⟨_,rfl,by simpa[aUJ]using O⟩
 case h=>exact⟨rfl,rfl,items.toList,items2.toList,ns,ms,rfl,hi,hj,by omega,h⟩
end
section
variable{prog:cE}{w:cn}{A:dQ}{E:@ac}{s:aF}
def axr{l b:aa}{items items2:@cj}{ns ms:@J}{Q:@ac}(hl:K5 @am l @cH)(hb:K5 @am b @gv)(hi:@zg)(hj:@Ae)(hu:@tp)(h:(gl,@u0)):(bc,mR .Lt @bb @aH):=by let{{cls,dd,data,D},N,hc,n,hd}:=id hl;rw[fQ,hb];simp only at hc hd cN on;subst hc hd cN on;exact aQO (op:=.Lt) (cr,N) (cr,iu) atb aQP (aQQ _ _) (axq l b @cH @gv n n2 dd M D U ns ms hi hj) {N,iu,(qo,@u0,(gl,@u0))} hu
def axs{t b:aa}{vs L:@O}{Q:@ac}(ht:K5 @am t @iD)(hb:K5 @am b @wX)(hv:vs≠[])(Z:L=[]->Q @c1 s)(h2:L≠[]->Q @cq (jP,(k4,(vs++L).toArray)))(hsz:@fq+@ew<=a7):(bc,wA .Add @c1 @aH):=by
 rw[i1,ht];rw[fQ,hb];simp only at hc hd cN on;subst hc hd cN on;rw[E,@iD++@wX,(vs++L).toArray,@v];by_cases hw:L=[];.exact(n0,tuple_addW1 t b @iD @wX n n2 dd M D U @rr (by simp[hw]),{N,iu,Z hw})
 .refine(n0,tuple_addW2 t b @iD @wX n n2 dd M D U @rr @we (ai,eZ,eZ,hsz),{N,iu,?_});rw[e];exact h2 hw
def mY(n d:Nat):@eE->Nat|none=>d|some v=>if v<0 then(v+@aq).toNat else min v.toNat n
def M6(n d:Nat):mY n d @r=d:=@d
def Cb(n d k:Nat):mY n d (some @av)=min k n:=by show(if@av<0 then(@av+@aq).toNat else min (bk,k) n)=min k n;rw[(@bd),afH]
end
end HT
namespace L2
open PySem PySem.Spec PyProof.Rows
abbrev TO:=(kA,(bQ,@eE))
def PO(X:Cx)(e:Option bM)(t:TO):@u:=(rp,(bQ,@eE),(iO,evalPart e @a0,λu s'=>∃o H',@jY/\IsPart u o/\Q o H'))
def axt:TO:=(hh,@r)
def axu(t:TE):TO:=(ev,λx H1=>∃i,x=@a3/\Q (some i) H1)
def intsAre_of{ns:@J}:∀{us:@O},bi @bN us->rm us ns:=by induction ns with|nil=>intro us r;rw[xG]at r;cases r;exact@ay|cons n ns ih=>intro us r;rw[cb]at r;cases r with|cons G r2=>let{t,e}:=G;subst e;exact .cons n t (ih r2)
section
variable{X:Cx}{e:bM}{te:TE}{lo hi:Option bM}{tl th:TO}{pos p2:cO}
def vd:PO X @r axt:=by intro pins s σ H Q I h;rw[ati];exact b5 {@r,H,I,@dD,h}
def kS(h:@dC):PO X (some e) (axu te):=by intro pins s σ H Q I hw;rw[evalPart_some];refine bx @zK @E9;let{i,rfl,q}:=O;let{t,rfl}:=G;exact{some i,H1,L,@mS,q}
def SN(X:Cx)(r:V->@eE->@eE->Hp->VK->@u):@u:=∀(pins:@ae)(s:aF)(σ:St)(H:Hp)(x:V)(v n z:ah)(lo hi:@eE)(D:aa)(Q:VK),@I->@iY->s.heap.IsSliceOf D n z @dD->IsPart n lo->IsPart z hi->r x lo hi H Q->∃T id,@LA=pure (some @mG)/\s.TypeIs v T/\(d2,GH v @fE)
def tSl(r:@C6)(te:TE)(tl th:TO):TE:=λσ H Q=>(hv,tl σ H1 λl H2=>th σ H2 λu H3=>r x l u H3 Q)
def qx{r:@C6}(hr:SN X r)(he:@dC)(hl:PO X lo tl)(hu:PO X hi th):(fY,e,.Slice lo hi @r p2,tSl r te tl th):=by intro pins s σ H Q I h;refine afI (ff,@kz);refine aQT (bx (hl @P Y σ H1 _ L O) λn s2⟨l,H2,I2,pl,q2⟩=>bx (hu @P s2 σ H2 _ I2 q2) λz s3⟨u,H3,I3,j,q3⟩=>?_);rw[ati];refine@dH;rw[nw,(ar,H3,@Cg)];let{T,id,hT,ht,hg}:=hr @P @Cg σ H3 x v n z l u @fr Q I4 G (aQU ..) pl j q3;show aX @hN X.A (atj e (.Slice lo hi @r p2) v @xZ) @vR X.xe @Cg;exact atk (ops:=[@xZ,v]) ht hT hg @qu
def mn(xs:@F)(lo hi:@eE):@F:=(xs.drop @vf).take ((mr,hi)-@vf)
def axw(xs:@F)(lo hi:@eE):(iV,(mn xs lo hi).length):=by unfold mn;rw[eD,ik];omega
def axx(K:aM):R2:=(rd,xs,ys,@W,ys)
def bi.nil_iff{xs:@F}{us:@O}(r:@c6):us=[]↔xs=[]:=by cases r with|nil=>simp|cons _ _=>simp
def axy:(j9,axx X.K):=by intro pins s σ H x y v u Q I J B h;let{a,b,xs,ys,rfl,rfl,ha,hb,hx,hz,O,q2}:=h;cases J;cases B;let{aD,G,p1,_}:=I.tuple ha;let{j,r2,p2,_}:=I.tuple hb;refine HT.axs p1 p2 (λz=>hx (G.nil_iff.mp z)) (λz=>(Q,@W,H,I,O (r2.nil_iff.mp z))) @np (by rw[<-G.length,<-r2.length];exact hz);rw[gt,.tup (xs++ys),@wW,?_,q2 (λw=>z (r2.nil_iff.mpr w)) _ @fK];exact{(gc,dj),_,G.append r2,aQV _ _}
end
end L2
namespace L2
open PySem PySem.Spec PyProof.Rows
def ve(n:Nat)(i:Int):@fx:=if 0<=i then(da,i<n,i.toNat)else(da,-@aq<=i,(i+n).toNat)
def jM{α:@az}(xs:@as)(i:Int):Option α:=(ve @X i).bind λj=>xs[j]?
def ajk{n:Nat}{i:Int}{j:Nat}(h:ve n i=some j):atl i n=some j/\j<n/\-@aq<=i/\i<n:=by
 unfold ve at h;by_cases h0:0<=i
 .rw[a0,h0];by_cases Z:i<n;.rw[a0,Z];rw[E,i.toNat,j,bZ h];exact{(r,atm h0 Z,e),@e,@e,Z}
  rw[bM,(@cl)]
 .rw[bd,h0];by_cases Z:-@aq<=i;.rw[a0,Z];rw[E,(i+n).toNat,j,bZ h];exact{(r,atn @e Z,e),@e,Z,@e}
  rw[bM,(@cl)]
def SO{α:@az}{xs:@as}{i:Int}{v:α}(h:(bz,xs,i,v)):∃j,atl i @X=some j/\(ah,xs,v)/\j<@X/\-(u,@X)<=i/\@hS:=by unfold jM at h;cases e:ve xs.length i with|none=>rw[gg]|some j=>rw[e]at h;let{Z,h2,h3,h4}:=ajk e;exact⟨j,Z,h,h2,h3,h4⟩
def EQ{α:@az}{xs:@as}{j:Nat}{v:α}(h:(ah,xs,v)):(bz,xs,(u,j),v):=by have hj:j<@X:=(fk.mp h).1;have e:ve @X (u,j)=some j:=@Gt;unfold jM;rw[e];exact h
def ajl{α:@az}(xs:@as)(v:α):(bz,xs++[v],-1,v):=by
 have hl:(cF,xs,v)=@X+1:=@v;have e:ve (cF,xs,v) (-1)=some @X:=by unfold ve;rw[hl,(@dT),(@h8)];congr 1;omega
 unfold jM;rw[e];show(K,xs++[v],@X,v);simp
def axz(b:bM):@u:=∀o i,afJ b @K o i=ato [o,i] (GH o i)
def tQ(X:Cx)(r:R2):@u:=∀(value slice:bM)(pins:@ae)(s:aF)(σ:St)(H:Hp)(x y:V)(v u:ah)(Q:VK),(oT,afJ @kg @K v u=ato [v,u] (GH v u)->(d2,atj @gu @kg v u))
def HP(X:Cx)(id:String)(r:@fl):@u:=@Hw
section
variable{X:Cx}{a b:bM}{ta tb:TE}{pos:cO}
def tQ.or{r r':R2}(h:tQ X r)(h':tQ X r'):tQ X (λx y H Q=>r x y H Q\/r' x y H Q):=by
 intro value slice pins s σ H x y v u Q I J B q hs;rcases q with q|q;.exact h @gu @kg @P s σ H x y v u Q I J B q hs
 .exact h' @gu @kg @P s σ H x y v u Q I J B q hs
def bW{r:R2}(hr:tQ X r)(ha:@gj)(hb:@lI)(hs:axz b):(fY,a,b,@vn):=(jd,afI (s8,hr a b @P s2 σ H2 x y v u Q I2 J B q (hs _ _)))
def SQ(K:aM):R2:=(qx,aj K H p xs)
def SR(K:aM):R2:=(qx,(cc,p,xs))
def ajm:R2:=λx y H Q=>∃z i c,x=.str z/\y=@a3/\z.length<=a7/\jM z.cps.toList i=some c/\Q (.str ⟨#[c]⟩) H
def ajn:tQ X (SQ X.K):=by
 intro value slice pins s σ H x y v u Q I J B h hs;rw[i2];cases J;let{t,rfl}:=B;rw[fR];rw[fS];let{w,O,V}:=r.get h2;have hl:=r.length;have hn:=HL;rw[nb];by_cases h0:0<=i;.have hj:i.toNat=j:=(oj,h5);exact item_listR @l2 h0 @e @D8 fin hs
 .have hj:(i+@He).toNat=j:=(pK,h4);exact aQW (x:=w) pl.isList.typeIs atp.lookup (wpAny_getItem_list_neg (Q:=@Hx) @l2 @e (by rw[eZ]<;>omega) @e @D8 (al,fin)) hs
def ajo:tQ X (SR X.K):=by intro value slice pins s σ H x y v u Q I J B h hs;rw[i2];cases J;let{t,rfl}:=B;let{aD,r,pl,hz}:=@mF;rw[fS];let{w,O,V}:=r.get h2;have hl:=r.length;have hn:=HL;rw[nb];exact aQW (x:=w) pl.typeIs slot_tuple_getitem.lookup (getItem_tuple (j:=j) (Q:=@Hx) pl @e @e (h9,Z) (by simpa using O) (al,fin)) hs
def ajp:tQ X ajm:=by
 intro value slice pins s σ H x y v u Q I J B h hs;let{z,i,c,rfl,rfl,hz,he,q}:=h;rw[aX];rw[dq];rw[fS];have hl:z.cps.toList.length=z.length:=by simp[Str.length]
 rw[hl]at Z h4 h5;have hn:=HL;exact atk (atq s z t) slot_str_getitem.lookup (getItem_str (c:=c) (by have e1:(F,decide (i< -(u,2^63))):=@g5;have e2:(F,decide (i>=2^63)):=@g5;rw[e1,e2,aQX]) (by rw[Z];simpa using h2) {@x0,H,@dj,@eD,q}) hs
def SS(K:aM):R2:=λx y H Q=>SQ K x y H Q\/SR K x y H Q\/ajm x y H Q
def axA:tQ X (SS X.K):=ajn.or (ajo.or ajp)
def axB(aD:@O)(n j:Nat)(u:ah):nE (·.setIfInBounds j u) @gf=(dE,.seq (aD.set j u).toArray n):=by simp[nE]
def Inv.lst{pins:@ae}{σ:St}{H:Hp}{s:aF}{p:aa}{xs:@F}(I:@I)(h:(co,p)):∃(aD:@O)(n:Nat),@kM/\(bx,p,@gf)/\@X<=a7:=by let{z,aD,n,r,e}:=(c2,p,h);exact⟨aD,n,r,e,z⟩
def Inv.lstUpd{pins:@ae}{σ:St}{H:Hp}{s:aF}{p:aa}{xs ys:@F}{aD its':@O}{n z:Nat}{f:bA->bA}(I:@I)(h:(co,p))(N:(bx,p,@gf))(hf:f @gf=@EM)(r:bi ys its')(hz:@th)(t:Nat):(ar,(aH,p,ys),(l6,p,f,t)):=by have e:(s.heap.update p f).get? p=some @EM:=(r,Qy f N (by rw[hf]<;>rfl),hf);refine I.write (x:=p) (e:=p) (by rw[h];trivial) @aK (λb u hb q=>(kC,q)) {_,e} ?_;exact⟨hz,its',z,r,e⟩
def axC:@Hj:=λo i v H Q=>∃p xs k j,o=@ao/\i=@id/\(co,p)/\ve @X k=some j/\Q @Ej
def HQ:awK X axC:=by
 intro pins s σ H o i v z F u Q I B ri rv h;let{p,xs,k,j,rfl,rfl,hp,hj,q}:=h;cases B;let{t,rfl}:=ri;let{aD,n,r,N,hz}:=I.lst hp;let{Z,h2,h3,h4}:=ajk hj;have hl:=r.length;have hn:=HL;have I':(jY,@Ej,s.heap.update p (nE (·.setIfInBounds j u))):=I.lstUpd hp N (axB aD n j u) (r.set rv j) (gc,zw) @bk;by_cases h0:0<=k;.have hk:@gn=j:=(oj,h4);exact aUK N h0 @e (h9,h4) (gb,{_,I',q})
 .have hk:(k+@He).toNat=j:=(pK,h3);exact aUL N @e (h9,h3) @e (gb,{_,I',q})
def axD(lo hi:@eE)(n:Nat):(zF lo hi @r n).1=(A,HT.mY n 0 lo)/\(zF lo hi @r n).2.1=(A,HT.mY n n hi)/\(zF lo hi @r n).2.2=1:=by
 refine{?_,?_,@d};.cases lo with|none=>simp[zF,HT.mY]|some i=>rw[lf]
 .cases hi with|none=>simp[zF,HT.mY]|some i=>rw[lf]
def axE(aD:@O)(lo hi:@eE):GI @aR lo hi @r=((aD.drop @Fl).take (HT.mY @oH @oH hi-@Fl)).toArray:=by let{Z,h2,h3}:=axD lo hi @iE;unfold GI;rw[Z,h2,h3];simp only[sliceRange_one,pick_run,eZ]<;>rfl
def ajq(K:aM):@C6:=λx lo hi H Q=>∃a xs,x=@W/\@bO/\(ka,mn xs lo hi)
def axF:SN X (ajq X.K):=by intro pins s σ H x v n z lo hi D Q I J hs pl j h;let{a,xs,rfl,hx,q}:=h;cases J;let{aD,r,ht,hz}:=I.list hx;have bG:=r.length;refine{"list",_,atp.lookup,ht.isList.typeIs,?_};refine(rg,hs,j,@dD);rw[axE,<-bG];rw[gt,.lst (mn xs lo hi),@wW,?_,@n6];exact{cU (axw xs lo hi) hz,_,0,(r.drop @vf).take ((mr,hi)-@vf),@c3}
def tR:V->@an|.non=>true|.bl _=>true|.int _=>true|.str _=>true|_=>false
def mZ:V->V->@an|.non,.non=>true|.bl a,.bl b=>a==b|.bl a,.int b=>(fM,a)==b|.int a,.bl b=>a==(fM,b)|.int a,.int b=>a==b|.str a,.str b=>a==b|_,_=>false
def axG{A:dQ}{s:aF}{y x:V}{u v:ah}(B:@dQ)(J:@iY)(fy:tR y=@h)(D:tR x=@h):ata A s u v (mZ y x):=by cases y with|non=>rw[mZ,aUM _,aUN b,aUO b t,aUP b t]|bl a=>rw[mZ,aUQ a,aUR a b,aUS a b t,aUT a b t]|int a=>rw[m0,aUU a t',aUV a t' b,aQM a t' b t,aQg a t' b t]|str a=>rw[m0,aUW a t',aUX a t' b,aQh a t' b t,aUY a t' b t]|_=>rw[al,show@hE from fy,iA]
def oO(x:V)(u:ah):@an:=match u with|.none=>mZ @cI x|.bool b=>mZ @f3 x|.int i _=>mZ @a3 x|.str z _=>mZ (.str z) x|_=>false
def M7{x y:V}{u:ah}(r:@dQ)(f:tR y=@h):oO x u=mZ y x:=by cases y with|non=>rw[cS]|bl b=>rw[cS]|int i=>rw[cT]|str z=>rw[cT]|_=>rw[al,show@hE from f,iA]
def HR{x:V}:(kp,@c6->@yF->us.any (oO x)=xs.any λy=>mZ y x)|_,_,.nil,_=>rfl|y::xs,u::us,.cons r t,f=>by rw[P_,dJ]at f;rw[wu,wu,M7 r f.1,HR t f.2]
def ER{A:dQ}{s:aF}{x:V}{v:ah}(J:@iY)(D:tR x=@h):(kp,@c6->@yF->∀u∈us,ata A s u v (oO x u))|_,_,.nil,_=>λu hu=>by cases hu|y::xs,u::us,.cons r t,f=>λF hu=>by rw[P_,dJ]at f;rcases de.mp hu with rfl|hu;rw[s,M7 r f.1,axG r J f.1 D];.exact ER J D t f.2 F hu
def wW(x:V)(xs:@F):@an:=xs.any λy=>mZ y x
def M_(K:aM)(neg:Bool):R2:=λx y H Q=>∃p xs,y=@ao/\(aj K H p xs\/(cc,p,xs))/\tR x=@h/\@yF/\(c0,if neg then ! wW x xs else wW x xs)
def axH:(c6,.In,M_ X.K @K):=by
 intro pins s σ H x y v u Q I J B h;let{p,xs,rfl,U,D,fs,q}:=h;cases B;rcases U with U|U;.rw[fR];refine SeqAt.in_listAt (oO x) @l2 @vG @ux;rw[(@xv),HR r fs];exact q
 rw[no,SeqAt.in_tupleAt (oO x) pl @vG @ux]
def axI:(c6,@kf,M_ X.K @h):=by
 intro pins s σ H x y v u Q I J B h;let{p,xs,rfl,U,D,fs,q}:=h;cases B;rcases U with U|U;.rw[fR];refine SeqAt.notIn_listAt (oO x) @l2 @vG @ux;rw[(@xv),HR r fs];exact q
 rw[no,SeqAt.notIn_tupleAt (oO x) pl @vG @ux]
def axJ:(sK,@Ff):=by
 intro pins s σ H xs us Q I r h;let{p,ys,rfl,U,q}:=h;rw[d7];cases J;have hn:=HL;rcases U with U|U;.rw[fT];have bG:=r'.length;exact Calls.call_len_list @l2 @rs @Ex
 .rw[fU];have bG:=r'.length;exact len_tuple pl @rs @Ex
def SU:(e0,@kp,∃p ys,xs=[@ao]/\@Ff/\(nx,(dh,ys))):=by
 intro pins s σ H xs us Q I r h;let{p,ys,rfl,U,q}:=h;rw[d7];cases J;have fin:∀(aD:@O),bi ys aD->@th->∀(h':bV)(c':Nat),(∀b o',@iJ=some o'->@di=some o')->(m7,@al,@aR)->(e_,@cq,@iO):=λaD r' hz h' c' kp e=>(Q,@cq,_,I.laid (t':=@bk) kp @L (show(hw,_,_,.lst ys)from⟨hz,aD,c',r',e⟩),@n6);rcases U with U|U;.rw[fT];have bG:=r'.length;let{o,N,hc,n,hd}:=@l2;exact aQ0 p @aK N hc hd (rh,kp,e) @rs
 .rw[fU];have bG:=r'.length;let{o,N,hc,n,hd}:=pl;exact aQ0 p @dU N hc hd (rh,kp,e) @rs
def Na:(e0,@dR,∃p ys,xs=[@ao]/\((aj X.K H p ys/\(nx,ag H l @hU))\/(b_ X.K H p ys/\Q @ao H))):=by
 intro pins s σ H xs us Q I r h;let{p,ys,rfl,h}:=h;rw[d7];cases J;rcases h with⟨U,q⟩|⟨U,q⟩;.rw[fT];have bG:=r'.length;refine call_tuple_list @l2 (λh' kp=>?_) @rs;rw[cq,I.kept (t':=@bk) kp];have I2:(jY,ag H h'.objs.size @hU,h'.push (k4,@aR)):=L.laid (t':=@bk) @m5 @L (qn,@hU,{hz,aD,r',aQV _ _});exact(Q,.ref h'.objs.size,_,I2,q _ @wB)
 .rw[fU];exact call_tuple_same pl (Q,@ao,H,I,q)
def SV(K:aM)(T:String)(x:V)(H:Hp):@u:=match x with|.str _=>T="str"|.int _=>T="int"|.ref p=>(T="list"/\∃xs,aj K H p xs)\/(T="tuple"/\∃o,(R,K.lookup p)/\@iB=@dR/\o.dict=@r)\/(T="dict"/\((∃kvs,(bj,@b9))\/∃kvs,(bj,@eZ)))\/(T="set"/\∃S n,(bj,.set S n))|_=>False
def ajr{pins:@ae}{σ:St}{H:Hp}{s:aF}{T:String}{x:V}{v:ah}(I:@I)(r:@iY)(ty:SV X.K T x H):s.TypeIs v T/\∀a,v=@W->∃ob,(bx,a,ob)/\ob.dict=@r:=by
 cases x with
 |str z=>rw[bT];cases(show T="str"from ty);exact{atq s z t,@x9}
 |int i=>rw[bT];cases(show T="int"from ty);exact{atr s i t,@x9}
 |ref p=>
  cases r;rcases ty with⟨rfl,xs,U⟩|⟨rfl,o,hk,hc,hd⟩|⟨rfl,hk⟩|⟨rfl,S,n,hk⟩;.let{aD,_,pl,_}:=I.list U;rw[P,pl.isList.typeIs,λa e=>?_];cases e;let{o,n,e,c,hd,_}:=pl;exact⟨o,e,hd⟩
  .rw[P,{o,I.kIn p o hk,hc},λa e=>?_];cases e;exact{o,I.kIn _ o hk,hd}
  .have z:∃o,(fX,p)/\o.ExactDict:=by
    rcases hk with⟨kvs,hk⟩|⟨kvs,hk⟩;.rw[i5];exact⟨o,e,ex⟩
    .rw[i5];exact⟨o,e,ex⟩
   let{o,e,ex}:=z;rw[kb];cases e2;exact⟨o,e,ex.2.1⟩
  .let{o,_,_,_,e,ex,_}:=(c2,p,hk);rw[kb];cases e2;exact⟨o,e,ex.2.1⟩
 |_=>exact l5 ty
def axK(K:aM)(T:String)(r:@fl)(to:TE):TE:=(qh,r x [] H1 Q)
def tBM(K:aM)(T:String)(r:@fl)(to:TE)(t:TA):TE:=(qh,t σ H1 λxs H2=>r x xs H2 Q)
variable{o e:bM}{es:@bR}{to:TE}{t:TA}{name:aq}{apos mG:cO}{T id:String}{r:@fl}
def Ag(pa:aQ1 T)(slot:Slot T @bG id)(n:@Bu)(hm:HP X id r)(N:@rJ)(q:(ib,@bG):=by rfl)(j:@zZ:=by rfl):(oo,[],axK X.K T r to):=by intro pins s σ H Q I h;refine wpAny_Call_method0_late q j @JC;let{Z,h2}:=ajr L G ty;exact{T,id,pa,slot,n,Z,h2,afK @d (PySem.evalArgs_none (hm @P Y σ H1 x [] v [] Q L G @ay O))}
def eR(pa:aQ1 T)(slot:Slot T @bG id)(n:@Bu)(hm:HP X id r)(N:@rJ)(ha:@hp)(q:(ib,@bG):=by rfl)(vK:(rN,(dc,@fv),(e::es).length):=by rfl)(j:@zZ:=by rfl)(hs:@gl:=by rfl)(z:(F,(kI mG @md).any @aA):=by rfl):(oo,@fv,tBM X.K T r to t):=by intro pins s σ H Q I h;refine wpAny_Call_method_late q vK j @d @JC;let{Z,h2}:=ajr L G ty;refine{T,id,pa,slot,n,Z,h2,?_};have M:=ha mG @P Y σ H1 _ L O;rw[hs]at M⊢;refine afK (by show(@K||(kI mG @md).any @aA)=@K;rw[z]<;>rfl) (att ?_);exact bx M λus s2⟨vs,H2,I2,r2,q2⟩=>hm @P s2 σ H2 x vs v us Q I2 G r2 q2
end
end L2
namespace L2
open PySem PySem.Spec PyProof.Rows
def HU(X:Cx)(id:String)(r:@fl):@u:=@Hw
def bi.one:∀{x:V}{us:@O},bi [x] us->∃u,us=[u]/\@jN|_,_,.cons r .nil=>(am,r)
def bi.zero:∀{us:@O},bi [] us->us=[]|_,.nil=>rfl
def bi.dropLast{xs:@F}{us:@O}(h:@c6):bi xs.dropLast us.dropLast:=by induction h with|nil=>rw[bp]|cons r t ih=>cases t with|nil=>rw[bp]|cons q t'=>rw[cO,r]
def bi.eraseIdx:(pl,xs.eraseIdx i,us.eraseIdx i)|_,_,_,.nil=>@ay|_,_,0,.cons _ t=>t|_,_,i+1,.cons r t=>.cons r (bi.eraseIdx i t)
def bi.rep{xs:@F}{us:@O}(h:@c6):∀k:Nat,bi (jR,xs) (jR,us)|0=>@ay|k+1=>by rw[Lf,Lf,sO,sO];exact bi.append h (bi.rep h k)
def axM{α:@az}(l:@as):l.eraseIdx @jF=l.dropLast:=by induction l with|nil=>rfl|cons a r ih=>cases r with|nil=>rfl|cons b r=>rw[E,@uW-1,((b::r).length-1)+1,by have Z:@uW=r.length+2:=rfl;have h2:(b::r).length=r.length+1:=rfl;omega];rw[e,List.eraseIdx_cons_succ,ih];all_goals rfl
def ajs{α:@az}:∀(l:@as)(i:Nat),(g_,(l.eraseIdx i).length)|[],_=>@L|_::_,0=>Gs _|_::r,i+1=>aQ2 (ajs r i)
def foldl_rep(aD:@O):∀(k:Nat)(acc:@O),(sW,acc.toArray,k,(acc++(jR,aD)).toArray)|0,acc=>@v|k+1,acc=>by rw[E,acc.toArray++@aR,(acc++aD).toArray,@v];rw[ag,(acc++aD)++(jR,aD),acc++(qm @aV aD).flatten,(aA,Lf,sO,eM)];rw[<-e2,<-foldl_rep aD k (acc++aD),<-e,Lf,zo]
section
variable{X:Cx}{pins:@ae}{σ:St}{H:Hp}{s:aF}{l b:aa}{xs ys zs:@F}
def Inv.lset{aD its':@O}{n:Nat}{f:@cj->@cj}{t':Nat}(I:@I)(D:@hT)(e:(bx,l,@gf))(hf:f @aR=its'.toArray)(hv:bi ys its')(hz:@th):(ar,(dh,ys),(l6,l,nE f,t')):=by have q:=aUZ e f;rw[hf]at q;refine I.write (x:=l) (e:=l) (d,D,eY) @aK (λb' u hb hu=>(Qz @am (nE f) (qj hb)).trans hu) {_,q} ?_;exact{hz,its',_,hv,q}
def Inv.lnew{aD:@O}{t':Nat}(I:@I)(hv:bi ys aD)(hz:@th):(ar,(aH,@al,ys),(jO,(dE,.seq @aR),t')):=I.laid @xk @L {hz,aD,0,hv,@c3}
def Inv.fresh(I:@I):(I,@al):=@fK
def Inv.lstM(I:@I)(D:@hT):(sp,@kM/\@X=@oH/\(bx,l,@gf)):=by let{z,aD,n,r,e}:=(c2,l,D);exact⟨z,aD,n,r,r.length,e⟩
def SW{n:Nat}(h:n<=a7):(F,Lg n):=by unfold Lg;exact@g5
end
section
variable{X:Cx}
def axN:@fl:=λx vs H Q=>∃l xs y,(lV,y,@X<a7,Q @cI (dh,xs++[y]))
def gF:HU X "list.append" axN:=by intro pins s σ H x vs v us Q I J rv h;let{l,xs,y,rfl,rfl,D,hz,q}:=h;cases J;rw[d8];rw[ck];refine D8 F.slot_list_append @jd F.entry_list_append (F.args_list_append_2 _ _) (PySem.list_append l @aR n u @lg) {e,?_};rw[hI,aD++[u],r.append (dX,S)];rw[dj,uJ];omega
def axO:@fl:=(pp,(ag,b,zs))
def ajt:HU X "list.extend" axO:=by intro pins s σ H x vs v us Q I J rv h;rw[fV];cases J;rw[d8];cases S;rw[ck];rw[i6];have hsz:@xq<=a7:=(c9,eZ,eZ);rw[kY];rw[lv,aU0 l @aR n b @l5 n2 L @lg @e];rw[hI,aD++j,r.append r2];rw[dj];omega
def axP:@fl:=λx vs H Q=>∃l xs y,x=@bb/\vs=[]/\@hT/\(K,xs,@X-1,y)/\Q y (dh,xs.dropLast)
def Ah:HU X "list.pop" axP:=by
 intro pins s σ H x vs v us Q I J rv h;let{l,xs,y,rfl,rfl,D,hy,q}:=h;cases J;have j:=rv.zero;subst j;rw[ck];let{u,hu,S}:=r.get hy;have O:(K,@aR,@iE-1,u):=by show(K,@aR,@oH-1,u);rw[<-D9,<-hl];exact hu
 refine D8 aQ7 @jd aQ8 (F.args_list_pop_1 _) (aU1 l @aR n u O @lg) {e,?_};rw[kE,aD.dropLast,r.dropLast,S];.show aD.toArray.eraseIdxIfInBounds (@iE-1)=aD.dropLast.toArray;rw[eZ,aQ9,axM]
 .rw[asQ];omega
def axQ:@fl:=λx vs H Q=>∃l xs i k y,(lV,@a3,-(2^63)<=i,i<2^63/\atl i @X=some k/\(K,xs,k,y)/\Q y (dh,xs.eraseIdx k))
def aju:HU X "list.pop" axQ:=by
 intro pins s σ H x vs v us Q I J rv h;let{l,xs,i,k,y,rfl,rfl,D,Z,h2,hk,hy,q}:=h;cases J;rw[d8];let{t,rfl}:=S;rw[ck];let{w,hw,V}:=r.get hy;refine D8 aQ7 @jd aQ8 (F.args_list_pop_2 _ _) (aU2 l @aR n i t k w (aQ_ Z h2) (h9,hk) (G,D9,hw) @lg) {e,?_};rw[kE,aD.eraseIdx k,r.eraseIdx k,V];.show aD.toArray.eraseIdxIfInBounds k=(aD.eraseIdx k).toArray;rw[aQ9]
 rw[aQ,ajs xs k]
def ajv:R2:=λx y H Q=>∃l b xs zs,x=@bb/\y=@aH/\@hT/\(ag,b,zs)/\@X+@cX<=a7/\(ka,xs++zs)
def m_:(j9,ajv):=by intro pins s σ H x y v u Q I J B h;rw[fV];cases J;cases B;rw[ck];rw[i6];refine aU3 e e2 ?_ (c9,eZ,eZ);have M:@aR++@l5=(aD++j).toArray:=@v;rw[M];exact(qf,r.append r2,(af,dj))
def axR:R2:=λx y H Q=>∃l k xs,x=@bb/\y=@id/\@hT/\-(2^63)<=k/\k<2^63/\@X*@gn<=a7/\(ka,(qm @gn xs).flatten)
def axS{α:@az}(xs:@as)(k:Nat):(qm k xs).flatten.length=k*@X:=by induction k with|zero=>simp|succ k ih=>rw[Lf,sO,dj,ih,KW,KC]
def axT:iZ X (wA .Mult) axR:=by
 intro pins s σ H x y v u Q I J B h;let{l,k,xs,rfl,rfl,D,Z,h2,hz,q}:=h;cases J;let{t,rfl}:=B;rw[ck];have bG:@Aa<=a7:=(h9,hz);have G:¬@Aa>(2^63-1)/8:=(fr,(W,a7)<=(2^63-1)/8,@Z);have S:¬(! aU4 k)=@h:=(d,aQ_ Z h2,iA);have L:¬Lg @Aa=@h:=(d,SW bG,iA);have JG:(pb,(L,aD.toArray.isEmpty,0,@gn),@gn):=by have f0:∀m:Nat,(pb,m,m):=λm=>(eO,foldl_rep aD m [],Bt);rw[f0];cases aD with|nil=>simp|cons a r'=>rw[af @v]
 refine wpAny_binaryOp_repeat_ref (T:="list") (U:="int") @Z @jd (λs'=>atr s' k t) noFill_list_mul F.fills_int_mul aRa repeat_list F.slot_int_index.lookup (D8 aRa (atr s k t) F.entry_int_rmul (F.args_int_rmul_2 _ _) (int___rmul___int_list k t l @aR n) {e,@d,@jd,D8 F.slot_list_mul @jd F.entry_list_mul (F.args_list_mul_2 _ _) (aU5 l @aR n k t S G L) {e,?_}});rw[JG];exact(qf,r.rep @gn,(ai,axS,zv,hz))
end
section
variable{prog:cE}{w:cn}{A:dQ}{E:@ac}{s:aF}
end
section
variable{X:Cx}
end
end L2
namespace L2
open PySem PySem.Spec PyProof.Rows
def bi.ints:∀{ns:@J}{us:@O},bi @bN us->rm us ns|[],us,h=>by rw[xG]at h;cases h;exact aU6|n::ns,us,h=>by rw[cb]at h;cases h with|cons r t=>let{k,rfl}:=r;exact aU7 n k (bi.ints t)
def ajw:∀{us:@O}{ns:@J},rm us ns->bi @bN us|_,_,.nil=>(d,xG,Paired.nil)|_,_,.cons n t h=>(d,cb,Paired.cons (show RelV (V.int n) (K4 n t)from@qQ) (ajw h))
def bi.bls:∀{bs:@cs}{us:@O},bi (bs.map V.bl) us->us=bs.map DQ|[],us,h=>by rw[xG]at h;cases h;rfl|b::bs,us,h=>by rw[cb]at h;cases h with|cons r t=>cases r;rw[bi.bls t,cb]
def bi.ref1{a:aa}{us:@O}(r:bi [V.ref a] us):us=[cy a]:=by cases r with|cons r t=>cases t;cases r;rfl
section
variable{prog:cE}{w:cn}{A:dQ}{E:@ac}{s:aF}{l:aa}{aD:@O}{ns:@J}{Q:@ac}
def axU(hh:@jE)(hl:s.heap.IsList l @aR)(hi:rm aD ns)(h:@Hz):@GH:=(r7,PySem.sum_intListG hh hl λh' tk t' hk=>?_)
end
section
variable{X:Cx}
def axV(K:aM):@lz:=(o0,(dF,@bN))
def HV(hc:@du):(jl,"sum",axV X.K):=by intro pins s σ H vs us Q I r h;let{a,ns,rfl,hs,q}:=h;rw[fW];rw[b9];exact axU @cn hl.isList rv.ints @HA
def axW(K:aM):@lz:=(rB,vs=[V.ref a]/\(dF,@bN)/\@aM<64/\∀(J:@J)(p:aa),J.Perm ns->J.Pairwise @ki->@dK->Q @ao (aH,p,@jt))
def axX{n:Nat}(h:n<64):n<=a7:=(af,La)
def SX:(jl,"sorted",axW X.K):=by intro pins s σ H vs us Q I r h;let{a,ns,rfl,hs,j,q}:=h;rw[fW];rw[b9];have hi:=rv.ints;refine aU8 hl.isList hi (d,hi.length,j) λN J Z h2 h3=>?_;let{ep,yH}:=aRd @am aD N;have bG:(J.map @aJ).length<=a7:=(bO,h2.length_eq,axX j);exact(Q,@m4,(aH,@bt,@jt),(oZ,{bG,N.toList,ep,ajw Z,yH}),q J _ h2 h3 @x5)
end
section
variable{X:Cx}
def axY(K:aM):@fl:=λx xs H Q=>∃(a:aa)(ys:@F)(y:V)(j:Nat)(z:V),x=@m7/\xs=[y]/\(dF,ys)/\tR y=@h/\ys.all tR=@h/\(ah,ys,z)/\mZ z y=@h/\(∀(m:Nat)(z':V),m<j->(K,ys,m,z')->(F,mZ z' y))/\(eH,j)
def ajx{ys:@F}(f:ys.all tR=@h){j:Nat}{z:V}(h:(ah,ys,z)):tR z=@h:=iR.mp f z (cZ h)
def SY:HP X "list.index" (axY X.K):=by
 intro pins s σ H x xs v us Q I J V h;let{a,ys,y,j,z,rfl,rfl,hs,fy,L,hz,C5,ck,q}:=h;cases J;cases V with
 |cons B rt=>
  rename_i uy ut;cases rt;let{aD,rv,{{cls,dd,data,D},n,N,hc,oU,hd},bG}:=I.list hs;simp only at hc hd;subst hc hd;let{u,hu,S}:=rv.get hz;let{yG,hje}:=fk.mp hu;have hvl:=rv.length;have hj:j<@iE:=by simpa using yG
  have eI:=La;refine D8 afL (cr,N) aU9 (aU_ _ _) (SeqAt.list_indexAt a @aR n dd D uy (oO y) j hj @e ?_ ?_) {N,λF M=>ER B fy rv L F (by simpa using M),?_};.rw[ah,(@aR)[j],u,by simpa using hje];rw[e1,M7 S (ajx L hz)];exact C5
  .intro m hm U;have jw:m<@oH:=by simpa using hm
   have W:m<@dG:=@e;have O:(K,ys,m,ys[m]):=bX W;let{G,li,Y}:=rv.get O;let{_,hme}:=fk.mp li;rw[ah,(@aR)[m],G,by simpa using hme];rw[e1,M7 Y (ajx L O)];exact ck m _ U O
  .exact{(a7,j),H,@dj,@eD,q}
end
section
variable{X:Cx}
end
def axZ{prog:cE}{w:cn}{A:dQ}{E:@ac}{s:aF}{l:aa}{items:@cj}{Q:@ac}(hl:@Af)(h:∀z:aF,z=(jP,@p7)->(z.heap.IsListIter @al l 0/\z.heap.IsList l @cH)->@Jz->Q @cq z):(bc,Qk @bb):=by
 have bn:(c7,l):=by let{_,e,_}:=hl;exact@cp
 exact as0 hl (h _ @d {@jj,hl.push _} (il bn))
def ax0{prog:cE}{w:cn}{A:dQ}{bs:@cs}{aD:@O}(e:aD=bs.map DQ):TruthOf @cW w A (λi v=>(C,@aR,v)) (λi=>@o5):=λi v s Q E hv U=>by
 have F:(C,aD,v):=@rr;rw[e,be]at F;let{b,hb,rfl}:=atv.mp F;have hg:@o5=b:=by rw[dy,hb]<;>rfl
 have lj:Q @o5 s:=U;rw[hg]at lj;exact BA lj
def any_range:∀bs:@cs,(br bs.length).any (λi=>@o5)=bs.any id|[]=>rfl|b::bs=>by rw[cX,KG,wu,afM,wu,<-any_range bs];all_goals rfl
def all_range:∀bs:@cs,(br bs.length).all (λi=>@o5)=bs.all id|[]=>rfl|b::bs=>by rw[cX,KG,P_,BG,P_,<-all_range bs];all_goals rfl
section
variable{X:Cx}
def ax1(K:aM):@lz:=λvs H Q=>∃(a:aa)(bs:@cs),vs=[@m7]/\(dF,bs.map V.bl)/\(c0,bs.all id)
def Nb(hc:@du):(jl,"all",ax1 X.K):=by
 intro pins s σ H vs us Q I r h;let{a,bs,rfl,hs,q}:=h;rw[fW];rw[b9];have hb:=rv.bls;refine call_all_walk (axZ hl.isList λz e2 st aI=>?_);subst e2;refine{_,_,_,_,_,_,_,@d,afN (A:=@r9) @cn _ a aI @aR,st,ax0 hb,λh' tk hk=>?_};refine{.bl _,H,I.kept λb o B=>hk b o (λfY=>?_) (gB _ B),?_,q};.rcases de.mp fY with e1|fY;rw[ai,e1▸dS B,xT _];.cases fY
 .show DQ _=DQ _;rw[<-all_range,hb,eZ,au]
end
mutual
inductive Dp(K:aM)(H:Hp):(Y,V,D_)|non:Dp K H @cI @dD|bl(b:Bool):Dp K H @f3 (.bool b)|int(i:Int):Dp K H @a3 @a3|str(x:aq):Dp K H @eo @eo|lst{a:aa}{xs:@F}{ds:List D_}:@bO->Cc K H xs ds->Dp K H @W (.list ds)|tup{a:aa}{xs:@F}{ds:List D_}:@fc->Cc K H xs ds->Dp K H @W @x_
inductive Cc(K:aM)(H:Hp):(Y,@F,List D_)|nil:Cc K H [] []|cons{v:V}{vs:@F}{d:D_}{ds:List D_}:Dp K H v d->Cc K H vs ds->Cc K H (v::vs) (d::ds)
end
section
variable{X:Cx}{pins:@ae}{σ:St}{H:Hp}{s:aF}
mutual
def Dp.reads(I:@I):∀(d:D_)(v:V)(u:ah),Dp X.K H v d->@da->∃as,Reads @am u d as
 |.none,_,_,h,r=>(mA,Reads.none)
 |.bool b,_,_,h,r=>(mA,Reads.bool b)
 |.int i,_,_,h,r=>(so,Reads.int i t)
 |.str x,_,_,h,r=>(so,Reads.str x t)
 |.list ds,_,_,h,r=>by cases h with|lst hs ha=>cases r;let{aD,rv,{o,n,N,hc,_,hd},_}:=I.list hs;let{as,hr}:=(nz,aD,ha,rv);exact{_,Reads.list N hc hd hr}
 |.tuple ds,_,_,h,r=>by cases h with|tup hs ha=>cases r;let{aD,rv,{o,N,hc,n,hd},_}:=I.tuple hs;let{as,hr}:=(nz,aD,ha,rv);exact{_,Reads.tuple N hc hd hr}
 |.dict _,_,_,h,_=>@ch
def Dp.readsAll(I:@I):(pq,List D_,Cc X.K H vs ds,ReadsAll @am us ds as)|[],_,_,h,r=>(mA,aVa)|d::ds,_,_,h,r=>by cases h with|cons Z h2=>rw[ju,Dp.reads I d _ _ Z G,(nz,_,h2,r2),aVb O q2]
end
end
section
variable{X:Cx}
def ax2(K:aM):R2:=λx y H Q=>∃d e,Dp K H x d/\Dp K H y e/\QA d=@h/\QA e=@h/\(c0,Lh d e)
def ax3(K:aM):R2:=λx y H Q=>∃d e,Dp K H x d/\Dp K H y e/\QA d=@h/\QA e=@h/\(c0,! Lh d e)
def ax4(hu:@o9+64<gW):(c6,.Eq,ax2 X.K):=(rJ,SeqAt.compareEq_shaped G r2 n j hu (Q,.bl _,H,I,q))
def ax5(hu:@o9+64<gW):(c6,.NotEq,ax3 X.K):=(rJ,SeqAt.compareNe_shaped G r2 n j hu (Q,.bl _,H,I,q))
end
end L2
namespace L2
open PySem PySem.Spec PyProof.Rows
abbrev ajy(h:bV)(c:aa)(v:@gz):@u:=h.IsCell c v
def ax6(ba j:kH):kH:={ba with names:=ba.names.map (tk,k==@dE&&@wU==@la,(n,@db))}
def kT(cells:@cN):@hi->@cN->@cN|[],acc=>acc|(n,k)::r,acc=>if k==@dE then kT cells r ((n,@AZ)::acc)else kT cells r acc
def ajz(env:jI)(f:aq×ql->@cN->mQ (ForInStep @cN))(hf:∀n k c,f (n,k) c=if k==@dE then(do
 let a<-atw env n;
 pure (.yield ((n,a)::c)))else pure (.yield c)):∀(names:@hi)(acc:@cN),(∀y∈names,y.2=@dE->@Kf)->forIn @eT acc f=pure (kT env.cells @eT acc)
 |[],acc,_=>(O,aRf)
 |(n,k)::r,acc,h=>by
  rw[List.forIn_cons,hf];have ih:=λacc=>ajz env f hf r acc @Cj;unfold kT;by_cases hk:(c3,k,Li);.rw[aG,hk,hk];let{c,hc}:=h (n,k) mP @jB;rw[E,atw env n,pure c,by unfold atw;rw[hc]];rw[e];rw[ag,(env.cells.lookup n).getD 0,c,(O,hc)];rw[e2];exact ih _
  rw[aj,af hk,af hk,ih _]
def ax7{ba:kH}{env:jI}(h:(lL,@Kf)):aRg ba env=pure (kT env.cells @d3 []):=by simp only[aRg];rw[ajz env _ (λn k c=>@d) @d3 [] h];rfl
def mem_lookup{α:@az}:∀{l:(a6,aq,α)}{n:aq}{c:α},(n,c)∈l->∃c',l.lookup n=some c'
 |(k,v)::r,n,c,h=>by
  rw[GJ];cases hb:n==k with
  |true=>exact@eD
  |false=>
   rcases de.mp h with e|h;.cases e;simp at hb
   .exact mem_lookup h
def Nc{cells:@cN}:∀{names:@hi}{acc:@cN}{n:aq}{c:aa},(n,c)∈@Aq->(n,c)∈acc\/((n,@dE)∈@eT/\c=@AZ)
 |[],_,_,_,h=>@fN
 |(m,k)::r,acc,n,c,h=>by
  unfold kT at h;split at h
  .rename_i hk;have hk:k=@dE:=@jB;rcases Nc h with h|⟨Z,h2⟩
   .rcases de.mp h with e|h;.cases e;exact(a_,hk▸mP,@d)
    rw[Q,h]
   rw[ac,{f6 _ Z,h2}]
  .rcases Nc h with h|⟨Z,h2⟩;rw[Q,h];rw[ac,{f6 _ Z,h2}]
def S0{cells:@cN}:∀{names:@hi}{acc:@cN}{p:aq×aa},p∈acc->p∈@Aq
 |[],_,_,h=>h
 |(m,k)::r,acc,p,h=>by
  unfold kT;split;.exact S0 (f6 _ h)
  .exact S0 h
def S1{cells:@cN}:∀{names:@hi}{acc:@cN}{n:aq},(n,@dE)∈@eT->(n,@AZ)∈@Aq
 |(m,k)::r,acc,n,h=>by
  unfold kT;rcases de.mp h with e|h;.cases e;exact S0 mP
  .split;.exact S1 h
   .exact S1 h
def HY:∀{names:@hi}{h:bV}{acc:@cN}{x:aq}{c:aa},@Il->(x,c)∈acc\/((x,@db)∈@eT/\@go<=c/\ajy (Ea h @eT) c @r)
 |[],_,_,_,_,h=>@fN
 |(n,k)::r,h,acc,x,c,hm=>by
  unfold l6 at hm;unfold Ea;split at hm
  .rename_i hk;rw[ai hk];have hk:k=@db:=@jB;rw[<-(@F8)]at hm;rcases HY hm with hm|⟨Z,h2,h3⟩
   .rcases de.mp hm with e|hm;.cases e;exact .inr {hk▸mP,@L,_,afO r _ _ _ @c3,@d}
    rw[Q,hm]
   .rw[wB]at h2;exact .inr {f6 _ Z,afP h2,h3}
  .rename_i hk;rw[af hk];rcases HY hm with hm|⟨Z,h2,h3⟩;rw[Q,hm];rw[ac,{f6 _ Z,h2,h3}]
def Nd:∀{names:@hi}{n:Nat}{acc:@cN}{p:aq×aa},p∈acc->p∈l6 n @eT acc
 |[],_,_,_,h=>h
 |(m,k)::r,n,acc,p,h=>by
  unfold l6;split;.exact Nd (f6 _ h)
  .exact Nd h
def S2:∀{names:@hi}{n:Nat}{acc:@cN}{x:aq},(x,@db)∈@eT->∃c,(x,c)∈l6 n @eT acc
 |(m,k)::r,n,acc,x,h=>by
  unfold l6;rcases de.mp h with e|h;.cases e;exact{n,Nd mP}
  .split;.exact S2 h
   .exact S2 h
def S3:∀{names:@hi}{h:bV}{acc:@cN}{x y:aq}{c:aa},(∀p∈acc,p.2<@go)->(∀x y c,(x,c)∈acc->(y,c)∈acc->x=y)->@Il->(y,c)∈l6 @go @eT acc->x=y
 |[],_,_,_,_,_,_,hi,Z,h2=>hi _ _ _ Z h2
 |(n,k)::r,h,acc,x,y,c,hl,hi,Z,h2=>by
  unfold l6 at Z h2;split at Z
  .rename_i hk;rw[ai hk]at h2;rw[<-(@F8)]at Z h2;refine S3 (h:=h.push _) @cu (λx y c a b=>?_) Z h2
   .rw[wB];rcases de.mp hp with rfl|hp;.exact Qq _
    .exact atx (hl p hp)
   .rcases de.mp a with e|a<;>rcases de.mp b with F|b;.cases e;cases F;rfl
    .cases e;exact(i1,hl _ b)
    .cases F;exact(i1,hl _ a)
    .exact hi _ _ _ a b
  .rename_i hk;rw[af hk]at h2;exact S3 hl hi Z h2
def ax8{M:K6}{A:dQ}{E:@ac}{s:aF}{ba:kH}{z:aa}{q:@cN}{j:aq}{func:@eg}{code:ah}{D:jI}{B:aa}{Q:(bg,jI)}(h:Q (newEnv ba @al z (l6 @bt @d3 q) j func code (some D) B) @EL):(jB,aRh ba z q [] j func code (some D) B):=by simp only[aRh,aRi,iQ];rw[x,wpAny_alloc ?_];rw[x,wpAny_layCells _ (λn k c=>@d) @d3 q _ _ ?_];rw[show({s with heap:=@qq}:aF).heap.objs.size=@bt from wB ..];rw[aRf];exact aV (e7,h)
def S4{j:kH}:∀{names:@hi}{x:aq}{k:ql},(names.map (tk,k==Li&&@wU==@la,(n,aty))).lookup x=some k->∃k',names.lookup x=some k'/\(k=k'\/(k'=@dE/\k=@db))
 |[],_,_,h=>@a5
 |(n,q)::r,x,k,h=>by
  have ih:=@S4 j r x k;have h':DW x ((L,@At&&@sk,(n,aty),(n,q))::(r.map _))=some k:=h;cases hx:x==n with
  |true=>
   simp only[GJ,hx];by_cases hc:(bv,@At,@sk);.rw[ai hc]at h';simp only[GJ,hx]at h';cases h';simp only[dJ,eW]at hc;exact(aD,q,(a_,hc.1.1,@d))
   .rw[af hc]at h';simp only[GJ,hx]at h';cases h';exact(am,@aK)
  |false=>
   simp only[GJ,hx];by_cases hc:(bv,@At,@sk);.rw[ai hc]at h';simp only[GJ,hx]at h';exact ih h'
   .rw[af hc]at h';simp only[GJ,hx]at h';exact ih h'
structure H_(N:@aE)(j ba:kH)(own:@li):@u where
 kind:ba.kind=@la
 uniq:∀y∈ba.names,@sO=some y.2
 ix:∀p∈own,(K,N,p.2,p.1)
 free:(lL,(g6,@x2,@x2))
 own:∀y∈ba.names,y.2=@k7\/y.2=@db->@JY\/y.1∉N
def bu(σ:St):@o->St|[]=>σ|v::vs=>(bu σ vs).set v @r
def S5(σ:St):∀vs:@o,(bu σ vs).length=@wp|[]=>rfl|v::vs=>by unfold bu;rw[zw,S5 σ vs]
def S6{σ:St}{i:Nat}{x:V}:∀{vs:@o},(C,@d6,some x)->(C,σ,some x)/\i∉vs
 |[],h=>{h,@v}
 |v::vs,h=>by
  unfold bu at h;by_cases hi:v=i;.subst hi;by_cases hv:v<(bu σ vs).length;rw[bM,afw hv];rw[bM,ny @rr]
  .rw[Qb hi]at h;let{Z,h2}:=S6 h;exact{Z,by simp only[de,not_or];exact{λe=>hi @gA,h2}}
abbrev Cx.blk(X:Cx)(s:aF)(H:Hp)(ba:kH)(j:jI)(B:@aa):Cx:={X with s_0:=s,H_0:=H,env:=j,outer:=@es,ex:=B,fn:=λx=>ba.names.lookup x==some @db,pn:=[],xe:=@i8}
section
variable{X:Cx}{pins:@ae}{σ:St}{H:Hp}{s:aF}
def ax9{ba:kH}{own:@li}{B:@aa}(I:@I)(ok:@vl)(S:X.N.Nodup)(G:∀b∈B,(bD,H,b)/\b<@al):Inv (k9,@zo,@al) [] (bu σ @mQ) H @EL:=by
 rw[k4];generalize J:uN ba @zo @al @a0=j;have kp:∀b o,@dr->(R,(Ea @qq @d3).get? b):=λb o e=>afO _ _ _ _ @eY;have W:@oU=@al:=@zu;have gH:j.cells=@zo:=@zu;have D:j.scope=ax6 ba @qv:=@zu;rw[<-wB @am @pS]at gH;have L:∀{y c},(y,c)∈@v3->(ep,y)/\(c7,c):=λ{y c}hm=>by
  rcases Nc hm with hm|⟨Z,rfl⟩;.cases hm
  .let{c,hc}:=Fu _ Z @d;rw[hc];let{w,z}:=I.cell _ _ hc;exact(al,z.lt)
 have mem:∀{y c},@iw->((ep,y)/\(c7,c))\/(@bt<=c/\ajy (Ea @qq @d3) c @r):=λ{y c}e=>by rw[gH]at e;rcases HY (rk e)with hm|⟨_,h2,h3⟩;rw[Q,L hm];.rw[wB]at h2;exact(a_,h2,h3)
 have look:∀{y},@kR=some @dE->∃c,@iw/\(ep,y):=λ{y}hl=>by
  have hy:(y,Li)∈@d3:=rk hl;let{c',F}:=mem_lookup (Nd (names:=@d3) (n:=@E1) (S1 (cells:=X.env.cells) (acc:=[]) hy));rw[<-gH]at F;rw[ab,c',F];rw[gH]at F;rcases HY (rk F)with hm|⟨Z,_,_⟩;.exact(L hm).1
  .have:=ok.uniq _ Z;rw[hl]at this;cases this
 have O:(X.blk s H ba j B).Ok:=by
  refine{I.ok.mod,by show j.scope.kind=_;rw[D];exact ok.kind,by show j.globals=_;rw[<-J];exact I.ok.glob,by show j.builtins=_;rw[<-J];exact I.ok.blt,by show@al<=@oU;rw[W];exact@L,λy z c e1 e2=>?_,@nn,λy c z e=>?_,I.ok.hd,I.ok.frames,@aK,λb hb=>{?_,λy c e z=>?_},I.bs,cU @wq I.sz,λb o e hb=>?_,λb hb z=>?_,I.stack,I.stkFree};.have e1:@iw:=e1;have e2:j.cells.lookup z=some c:=e2;rw[gH]at e1 e2;refine S3 @cu (λy z c a b=>I.ok.inj y z c (L a).1 (L b).1) (rk e1) (rk e2);rw[wB];exact atx (L (y:=p.1) (c:=p.2) hp).2
  .show∃c,@iw;have key:∀k,j.kindOf y=some k->(k=@db\/k=@dE)->∃c,@iw:=λk hk ia=>by
    unfold Env.kindOf at hk;rw[D]at hk;let{k',e,r}:=S4 hk;have:k'=@db\/k'=@dE:=by
     rcases r with rfl|⟨rfl,_⟩;.exact ia
     rw[ac,@d]
    rcases this with rfl|rfl;.let{c,hm}:=S2 (n:=@E1) (acc:=@v3) (rk e);let{c',F}:=mem_lookup hm;exact{c',(d,gH,F)}
    .let{c,Z,_}:=look e;exact⟨c,Z⟩
   rcases hy with hy|hy;.exact key _ hy @aK
   .exact key _ hy @dU
  .have z:(c3,@kR,some aty):=z;have z:@kR=some @db:=@rp;have e:@iw:=e;rw[gH]at e;rcases HY (rk e)with hm|⟨_,h2,_⟩
   .rcases Nc hm with hm|⟨Z,_⟩;.cases hm
    .have q:=ok.uniq _ Z;rw[z]at q;cases q
   .rw[wB]at h2;exact afP h2
  rw[b4,b≠@oU,W,il (G b hb).2]
  .have e:@iw:=e;rcases mem e with⟨Z,_⟩|⟨Z,_⟩;.exact(G b hb).1.2.2.2.2.1 y c Z z
   .have h2:@bt<=b:=(G,z,Z);exact(i1,o9 (G b hb).2 (afP h2))
  .rcases(G b hb).1.2.2.2.1 with z|z;.exact I.ok.noex b o e z
   rw[ai,o9 @cp (cU @wq z),xT _]
  .rcases de.mp (I.stkSub b z)with z|z;.exact(G b hb).1.2.1 z
   .exact(G b hb).1.2.2.1 z
 refine{O,@d,@gr,Un.kept kp,{@q6,?_,λi y V e1 e2 e3=>?_},λy c e=>?_,?_,λy c e=>?_,@cu,I.hok.kept kp,(d,S5,I.len)};rw[b4,Heap.Ns _ @oU _,W,aVc (aVd ..) λb o e=>afO _ _ _ _ e]
 .let{e2,aI}:=S6 e2;have N:@GO:=by
   have key:∀k,j.scope.names.lookup y=some k->k=@k7\/k=@db\/k=@dE->@GO:=λk hk ia=>by
    have vL:=hk;rw[D]at hk;let{k',e,r}:=S4 hk;have no:¬(k'=@k7\/k'=@db):=λhh=>by
     rcases ok.own _ (rk e) hh with F|F;.let{p,hp,M}:=bf.mp F;have e3:=ok.ix p hp;have:p.1=y:=M;rw[this]at e3;exact aI (bf.mpr {p,hp,Su S e3 e1})
     .exact F (cZ e1)
    rcases r with rfl|⟨rfl,rfl⟩
    .rcases ia with rfl|rfl|rfl;rw[ai,@aK,no];.exact absurd @dU no
     .exact{e,.inr vL}
    .exact{e,.inl vL}
   have e3:EK j.scope y:=e3;rcases e3 with e3|e3|e3;.exact key _ e3 @aK
   .exact key _ e3 @nt
   .exact key _ e3 (az,@d)
  rw[fK];have U:EK @qv y:=(ok.free _ (rk N.1) @d).elim (λk=>(jJ,k)) (λk=>(az,k));let{w,r,q}:=hl i y V e1 e2 U;rw[ad,w,r,(a_,N.2,?_)];let{c,Z,h2}:=look N.1;rcases q with⟨k,_⟩|⟨_,c',F,z⟩;.have k:(g2,@x6):=k;rcases ok.free _ (rk N.1) rfl with k'|k'<;>rw[show@x6=_ from k']at k<;>cases k
  .rw[h2]at F;cases F;exact{c,Z,z.keeps kp}
 .have e:@iw:=e;rcases mem e with⟨Z,_⟩|⟨_,z⟩;.let{w,z}:=I.cell y c Z;exact{w,z.keeps kp}
  .exact{_,z}
 rw[b4,(I,@oU),W,@fK]
 .have e:@iw:=e;rcases mem e with⟨Z,_⟩|⟨Z,_⟩;.exact I.freeC y c Z
  .exact I.hok.fresh (afP Z)
 rw[ai,@Kl,@v]
def ax_{E:@ac}{D:aa}{xs:@F}{y:V}{v:ah}{Q:@ac}(I:@I)(hD:(co,D))(hz:@X<a7)(r:RelV y v)(h:∀s',(ar,(aH,D,xs++[y]),s')->Q @dD s'):(gx,(lu,"list.append",[@fE,v])):=by let{iP,aD,n,ri,e}:=(c2,D,hD);have hl:=ri.length;refine append_at (hsz:=@lg) e λh' W j=>?_;refine h @iO (I.write (t':=@bk) (by rw[hD];trivial) @aK (λb u hb q=>(iA,q)) {_,j} {(gc,dj),aD++[v],n+1,ri.append (dX,r),?_});rw[j];simp
def Ia(X:Cx)(M:@bR)(t:TT):@u:=(oX,forIn M @h λc r=>if r=@h then do
 let ok<-Qj c X.env (cp c X.env);
 pure (afQ ok)else pure (afQ r))
def kU:TT:=(hh,@h)
def ga:Ia X [] kU:=λ_ _ _ H _ I h=>wpAny_tests_nil ⟨H,I,h⟩
def ES{c:bM}{t:TT}(h:PT X c t):Ia X [c] t:=λpins s σ H Q I hw=>wpAny_tests_one @zL
end
def ET{α:@az}{t:mQ α}{Q Q':(bg,α)}{M:K6}{A:dQ}{E:@ac}{s:aF}(h:aX M A t Q @i8 s)(hQ:@F5):aX M A t Q' E s:=qk h hQ λ_ _ z=>l5 z
def aya{prog:cE}{w:cn}{A:dQ}{R:(bg,Qp)}{s:aF}{oq target iter:bM}{M:@bR}{ba:kH}{pos:cO}{it acc:ah}{env:jI}(I:(bg,Nat))(turn:∀n s,I n s->aX (bv @cW w) A (zB it) (λr j=>match r with
 |none=>R (.ok .next) j
 |some v=>(ju,afz @ny it v,λ_ F=>(ju,GB @ny env v,λ_ z=>(ju,forIn M @h λc r=>if r=@h then do
  let ok<-Qj c env (cp c env);
  pure (afQ ok)else pure (afQ r),λok B=>(L,ok,(ju,cp oq env,λx O=>(ju,(lu,"list.append",[acc,x]),λ_ N=>∃m,m<n/\I m N,O),B),∃m,m<n/\I m B),z),F),j)) (Lj @eA A env @AP) s)(n:Nat)(h:I n s):zD @eA A (.compLoop (mz,@ny) 0 it acc env) R s:=by
 refine codeAny_loop @d I (λn s q=>?_) n h;show aX _ A ((compTurn (mz,@ny) 0 it acc env).onRaise (λx=>do
  noteFrame x env;
  theTreesLotGoes x)) _ _ s;refine wpAny_noted ?_;rw[compTurn_list];rw[x,asZ (aV (hI,turn n s q,λr j D=>?_))];cases r with|none=>exact b5 D|some v=>rw[x,(hI,D,λ_ F L=>?_)];rw[x,(hI,L,λ_ z G=>aV (hI,G,λok B J=>?_))];cases ok with|false=>exact b5 (al,J)|true=>exact aV (aV (hI,J,λx O U=>aV (hI,U,λ_ N S=>(e7,(al,S)))))
section
variable{X:Cx}
def Nf(G:TI)(g:TG)(tt:TT)(te:TE)(vs:@o):TE:=λσ H Q=>G σ H λJ H1=>∀D,@eM->(l3,∀i m H,W i m H->(J.stop i H/\Q @fE H)\/(J.go i H/\∃F:@fy,@vP/\∀x H',@C1->@ox))
def ajA{pins:@ae}{s:aF}{σ:St}{H:Hp}{Q:VK}{oq tg iter:bM}{M:@bR}{ba:kH}{own:@li}{pos sh:cO}{G:TI}{g:TG}{tt:TT}{te:TE}{use:Option (ah->mQ Unit)}{Qf:@ac}(hc:@du)(S:X.N.Nodup)(I:@I)(hi:@u9)(ok:@vl)(hg:@CN)(ht:@CO)(he:@CM)(hs:@vH)(h:Nf G g tt te @mQ σ H Q)(OT:∀D C s' m H',@jY->Q @fE H'->s'.heap.Ns C m->(bD,H',C)->atz @hN X.A X.xe use Qf @fE C (.ok .next) s'):(dJ,aRj @ok ba @a0 sh (newList []) @K (bt,iter) use,Qf):=by
 rw[k4];refine wpAny_comprehension_free (use:=use) @d hs (ax7 Fu) ok.kind (λy hy e=>(r,ok.uniq y hy,e)) (qR,λxv Y hx=>bx hx λitv s2 h2=>?_);let{it,B,L,J,H2,e,I2,T,pZ,f2,q}:=h2;subst e;refine afR (ax8 ?_) (dA,0<=a7);generalize hD:s2.heap.objs.size=D;have OU:H2 D=@r:=I2.hok.fresh (Lb hD);let{W,{m0,U},turn}:=q D OU;generalize sg:({s2 with heap:=@LC}:aF)=s3;have I3:(ar,@nV,s3):=by rw[<-sg];refine I2.laid (t':=s2.toks) @m5 (Lb hD) {@aO,[],0,@ay,?_};rw[<-hD];exact@c3
 have h3:s3.heap=@LC:=by rw[<-sg]
 have sz:∀b∈B,b<s2.heap.objs.size:=λb hb=>by let{o,e,_}:=T.obj _ _ pZ b hb;exact@cp
 have O:∀b∈B,(bD,@nV,b)/\b<@fr:=λb hb=>by have bn:=sz b hb;rw[P,{?_,(f2 b hb).2},(ai,h3,wB,atx bn)];rw[aA (G,hD,il bn)];exact(f2 b hb).1
 have OR:L 0 s3.heap:=T.keep _ _ _ pZ λb _ o e=>(d,h3,@eY);have I4:=ax9 I3 ok S O;have pg:=hg s3 @nV @fr @xb B;have pt:=ht s3 @nV @fr @xb B;have pe:=he s3 @nV @fr @xb B;show zD _ _ (.compStart @ok 0 @eI @fE @Ei) @IX @LB;have nfp:∀b∈B,(ag H2 D (.lst [])) b=@r:=λb hb=>(O b hb).1.1;generalize hce:@Ei=ce at I4 pg pt pe⊢;have cL:ce.locals=@fr:=by subst hce;rfl
 generalize hH3:@nV=H3 at I3 I4 pg pt pe U nfp O;generalize sj:(@LB:aF)=s4 at I4⊢;have OV:L 0 s4.heap:=T.keep _ _ _ OR λb _ o e=>(G,sj,afO _ _ _ _ @eY);have C0:∀{σ':St}{H':Hp}{s':aF},Inv @kX [] σ' H' s'->@m6->∀b∈B,lN @kX [] H' b:=λ{σ' H' s'}I' hn b hb=>{hn b hb,(I'.ok.exf b hb).1,I'.ok.exfs b hb,.inl hb,λx c e=>(I'.ok.exf b hb).2 x c e,λp hp=>(fl,@Kl)};have anN:zD @hN X.A (.compLoop @ok 0 @eI @fE ce) @IX s4:=by
  refine aya (λn s'=>(tm,W i n H')) ?_ m0 ⟨0,H3,I4,OV,nfp,U⟩;rintro n s5⟨i,H5,I5,AM,n5,w5⟩;rcases turn i n H5 w5 with⟨stop,N⟩|⟨go,F,hNx,step⟩
  .have td:=T.done @kX @d @d @d hc i [] s5 _ H5 @i8 I5 (C0 I5 n5) AM stop;refine ET td λr s6⟨hr,I6⟩=>?_;subst hr;have V:(ar,H5,s6):=I3.call' (ch:=B) I6.os I6.base I6.hok I6.bare λb hb=>⟨(O b hb).1.2.2.2.1,(O b hb).1.2.1,(O b hb).1.2.2.2.2.1,(O b hb).1.2.2.2.2.2⟩;have nC:H5 @fr=@r:=by have z:H5 ce.locals=@r:=I6.free;rw[cL]at z;exact z
   let{m,hn,_}:=I6.loc;have hn:s6.heap.Ns ce.locals m:=hn;rw[cL]at hn;exact OT D @fr s6 m H5 V N hn (I3.fpOk @L nC)
  .have ti:=T.item @kX @d @d @d hc i [] s5 _ H5 @i8 I5 (C0 I5 n5) AM go;refine ET ti λr s6⟨u,hr,h6⟩=>?_;subst hr;refine ET h6 λ_ s7⟨x,H7,V,r7,y7,st7,n7⟩=>?_;have I7':=V.pinned (C0 V n7) (T.obj _ _ st7);refine ET (pg _ s7 _ H7 x u _ I7' r7 (step x H7 y7)) λ_ s8⟨σ8,H8,I8,hw8,q8⟩=>?_;refine ET (pt _ s8 σ8 H8 _ I8 q8) λb s9⟨H9,I9,q9⟩=>?_;have fin:∀{s':aF}{H':Hp},Inv @kX ([]++HJ B s7.heap) σ8 H' s'->F H'->∃m,m<n/\(tm,W i m H'):=λ{s' H'}I' nx=>by
    let{m',hm,w'}:=hNx H' nx;have anP:∀b∈B,∀o,(R,s7.heap.get? b)->(R,s'.heap.get? b)/\@p2:=λb hb o e=>let z:=I'.pin (b,o) @Bv;{z.1,@aF};have hl:(bu σ @mQ).length=σ8.length:=(cw,hw8,S5);refine{m',hm,@A,H',(I'.unpinned (pins:=[])).weak hl (λj v e=>?_),T.keep _ _ _ st7 λb hb o e=>(anP b hb o e).1,@f2,w'};.rw[<-hw8]at e;exact(S6 e).1
    .let{o,e,_}:=T.obj _ _ st7 b hb;exact(anP b hb o e).2
   cases b with|false=>simp only[mO,kG]at q9⊢;exact fin I9 q9|true=>simp only[iQ]at q9⊢;refine ET (pe _ s9 σ8 H9 _ I9 q9) λz FA⟨yv,JI,I10,r10,acc,aFi,aFj,nx⟩=>?_;exact ax_ (X:=@kX) I10 aFi aFj r10 λqP I11=>fin I11 nx
 exact codeAny_compStart_list anN (T.self X.A 0 _ _ _ OV anN)
def gM{oq tg iter:bM}{M:@bR}{ba:kH}{own:@li}{pos:cO}{G:TI}{g:TG}{tt:TT}{te:TE}(hc:@du)(S:X.N.Nodup)(hi:@u9)(ok:@vl)(hg:@CN)(ht:@CO)(he:@CM)(hs:@vH:=by intro _;rfl):PE X @ok @Ih:=by intro pins s σ H Q I h;rw[eval_ListComp];refine ajA hc S I hi ok hg ht he hs h λD C s' m H' I' q hn f=>{m,hn,λV W=>?_};let{f0,f1,f2,O,j,Y}:=f;exact(Q,@fE,H',I'.turned (t':=s'.toks) (λb o hb e=>(iA,e)) f0 f1 O j Y,q)
def yl{i:Nat}{y:aq}{py:cO}{oq tg iter:bM}{M:@bR}{ba:kH}{own:@li}{pos n:cO}{G:TI}{g:TG}{tt:TT}{te:TE}(hc:@du)(S:X.N.Nodup)(hy:(C,X.N,y))(cP:(g2,@x6))(J:K9 @ok (some @AY) n.line @a0=pure @h)(hi:@u9)(ok:@vl)(hg:@CN)(ht:@CO)(he:@CM)(hs:@vH:=by intro _;rfl):PS X (.Assign [@AY] @ok n) (MV @Ih (kn i)):=by
 intro pins s σ H D I h;rw[exec_Assign_Name_used _ _ _ _ J];rw[x,asZ (aV ?_)];show aX _ X.A (do
  let _<-aRj (.ListComp oq [⟨tg,iter,M,0⟩] ba pos) ba X.env (firstIterPos [⟨tg,iter,M,0⟩] pos) (newList []) false (cp iter X.env) (some (GB (.Name y py) X.env))) _ _ s;have h:Nf G g tt te @mQ σ H (λx H1=>kn i x σ H1 D.nx):=h;rw[x,bx (ajA (Qf:=λ_ s'=>SP X @P D .next s') hc S I hi ok hg ht he hs h λL C s' m H' I' q hn f=>?_) λ_ s' U=>(e7,U)];rw[bB,GB @AY @a0 (.ref L)];refine aQt (aiV (v:=V.ref L) I' S hy (.inl cP) @d (λs2 I2⟨a,W,ha⟩=>?_) (.inr cP));let{f0,f1,f2,O,j,Y}:=f;have N:C≠a:=by rcases ha with z|z;rw[s,z,f1];.exact λe=>j y a z @gA
 rw[ad,m,hn.sameBut W N,λh3 F=>?_];exact{_,H',I2.turned (t':=s2.toks) (λb o hb e=>(F.2 b hb).trans e) f0 f1 O j Y,q}
end
def S7{lo:Int}{n:Nat}{g:TG}{tt:TT}{te:TE}{vs:@o}{σ:St}{H1:Hp}{D:aa}{j:@fy}(Pv:@iM)(h0:@o6)(hs:∀i H,i<n->@fV->g @sL @d6 H λI H2=>@sn)(hd:∀H,Pv n H->j H):(er,@C2,@C3,@Do,@ox):=by rw[ab,λi m H=>m=n-i/\i<=n/\@fV,{n,@v,@aO,h0}];rintro i m H⟨rfl,hi,p⟩;by_cases bn:i<n;rw[iT,λH' p'=>@Ed,hs i _ bn p];.have e:i=n:=@e;subst e;exact(bC,@L,hd H p)
def Ng{K:aM}{a:aa}{xs:@F}{g:TG}{tt:TT}{te:TE}{vs:@o}{σ:St}{H1:Hp}{D:aa}{j:@fy}(Pv:@iM)(h0:@o6)(hl:@KS)(hs:∀i x H,@dl->@fV->@EP)(hd:@z7):(er,@py,@pz,@pD,@ox):=by rw[ci,@A0];rw[lw,@xB,hs i x _ @qT p,{xs,q,@L}]
def ajB(N:@aE)(j ba:kH)(own:@li):@an:=(match ba.kind with|.function=>true|_=>false)&&(ba.names.all λy=>decide (@sO=some y.2))&&(own.all λp=>decide (K,N,p.2,p.1))&&(ba.names.all λy=>match y.2 with|.free=>(match@x2 with|some .cell=>true|some .free=>true|_=>false)|.local=>@Ey|.cell=>@Ey|_=>true)
def fc{N:@aE}{j ba:kH}{own:@li}(h:ajB N j ba own=@h):H_ N j ba own:=by
 unfold ajB at h;simp only[dJ,iR,bU]at h;let{{{Z,h2},h3},h4}:=h;refine{?_,h2,h3,λy hy e=>?_,λy hy e=>?_}
 .split at Z;.assumption
  .cases Z
 .have q:=h4 y hy;simp only[e]at q;split at q<;>first|exact .inl (by assumption)|exact .inr (by assumption)|cases q
 .have q:=h4 y hy;rcases e with e|e<;>(simp only[e,mN,bU]at q;exact q)
end L2
namespace L2
open PySem PySem.Spec PyProof.Rows
section
variable{prog:cE}{w:cn}{A:dQ}{R:(bg,Qp)}{s:aF}{oq t0 i0 t1 i1:bM}{aSU aSV:@bR}{ba:kH}{pos:cO}{it acc:ah}{env:jI}
end
section
variable{X:Cx}
end
end L2
namespace L2
open PySem PySem.Spec PyProof.Rows
section
variable{κ:@az}[DecidableEq κ]
def cB(kvs:@cV)(k:κ):@ag:=(kvs.find? @wh).map @bA
def iE(kvs:@cV)(k:κ)(v:V):@cV:=(L,@ri,kvs.map (lJ,v),kvs++[(k,v)])
def tS{p:κ×V}{r:@cV}{k:κ}(e:p.1=k):cB (p::r) k=some p.2:=by simp[cB,o7,e]
def tT{p:κ×V}{r:@cV}{k:κ}(e:¬p.1=k):cB (p::r) k=cB r k:=by simp[cB,o7,e]
def Ib(k:κ):∀kvs:@cV,@ri=(f5,k)
 |[]=>rfl
 |p::r=>by
  rw[wu];rw[dz];.simp only[tS e,bq e,aRk,aRi]
  .rw[tT e,cG e,asG];exact Ib k r
def ajC(k j:κ)(y:V):∀kvs:@cV,cB @A1 j=(cB kvs j).map λx=>(H,j,k,y,x)
 |[]=>rfl
 |p::r=>by
  have ih:=ajC k j y r;rw[cb];by_cases h:p.1=k
  .rw[ai h];by_cases e:p.1=j;.rw[tS (p:=(p.1,y)) e,tS e,Gm,ai (e.symm.trans h)]
   .rw[tT (p:=(p.1,y)) e,tT e,ih]
  .rw[af h];by_cases e:p.1=j;.rw[tS (p:=p) e,tS e,Gm,(cG,h (e.trans z))]
   .rw[tT (p:=p) e,tT e,ih]
def ajD(k j:κ)(y:V):∀kvs:@cV,@rt->cB (kvs++[(k,y)]) j=(H,j,k,some y,cB kvs j)
 |[],_=>by by_cases e:k=j;rw[aT,@gA,tS (p:=(k,y)) e];rw[s,(cG,e @pW),tT (p:=(k,y)) e]
 |p::r,hn=>by
  rw[KS];have hk:¬p.1=k:=λz=>by rw[tS z]at hn;cases hn
  rw[tT hk]at hn;have ih:=ajD k j y r hn;by_cases e:p.1=j;.rw[tS e,tS e,(cG,hk (e.trans z))]
  .rw[tT e,tT e,ih]
def ajE(kvs:@cV)(k j:κ)(y:V):cB @zx j=(H,j,k,some y,cB kvs j):=by
 unfold iE;by_cases a:@ri=@h
 .rw[ai a,ajC];rw[Ib]at a;rw[eA];.let{x,hx}:=aQK.mp a;rw[ai e,e,hx,Gm,(@ax)]
  .rw[af e];cases cB kvs j with|none=>rfl|some x=>rw[Gm,af e]
 .rw[af a];refine ajD k j y kvs ?_;rw[Ib]at a;cases q:cB kvs k with|none=>rfl|some x=>rw[q]at a;exact(a @d).elim
def Nh(kvs:@cV)(k:κ)(v:V):(iE kvs k v).length<=@a7+1:=by
 unfold iE;split;.rw[au];omega
 .rw[dj,cX,Qw];omega
def Ni{kvs:@cV}{k:κ}(v:V)(h:@rt):iE kvs k v=kvs++[(k,v)]:=by unfold iE;rw[Ib,h];exact@dT
def km.isSome_eq{o:@ag}{u:@gz}(r:km o u):@pF=u.isSome:=by
 cases o with
 |none=>cases u with|none=>rfl|some _=>rw[cQ]
 |some _=>cases u with|none=>rw[cQ]|some _=>rfl
def km.getD{o:@ag}{u:@gz}{d:V}{d':ah}(r:km o u)(j:RelV d d'):RelV (o.getD d) (u.getD d'):=by
 cases o with
 |none=>cases u with|none=>exact j|some _=>rw[cQ]
 |some _=>cases u with|none=>rw[cQ]|some _=>exact r
def KV.val{kvs:@cV}{vs:@lA}(r:@fa)(k:κ):km @gN (Eb vs k):=by
 unfold KV at r;induction r with
 |nil=>exact zE
 |@cons p q ps G h t ih=>
  let{Z,h2}:=h;rw[dz]
  .have F:q.1=k:=@wY;have b:Eb (q::G) k=some q.2:=by simp[Eb,o7,F]
   rw[tS e,b];exact h2
  rw[nl,Eb (q::G) k,Eb G k,by simp[Eb,o7,F]]
def KV.any{kvs:@cV}{vs:@lA}(r:@fa)(k:κ):@ri=vs.any @wh:=by unfold KV at r;induction r with|nil=>rfl|cons h t ih=>rw[wu,wu,ih,h.1]
def KV.repl{kvs:@cV}{vs:@lA}(r:@fa)(k:κ){y:V}{u:ah}(B:@dQ):KV @A1 (vs.map (lJ,u)):=by
 unfold KV at r⊢;induction r with
 |nil=>rw[bp]
 |@cons p q ps G h t ih=>
  rw[cb,cb];refine .cons ?_ ih;let{Z,h2}:=h;rw[dz];.rw[aG,e,@wY];exact⟨Z,B⟩
  rw[aj,af e,(cG,e (Z.trans z)),⟨Z,h2⟩]
def KV.put{kvs:@cV}{vs:@lA}(r:@fa)(k:κ){y:V}{u:ah}(B:@dQ):KV @zx (stored vs k u):=by
 unfold iE stored;rw[r.any k];by_cases e:(vs.any @wh)=@h;.rw[aG,e,e];exact r.repl k B
 rw[aj,af e,af e,Paired.snoc r (al,B)]
def KV.length{kvs:@cV}{vs:@lA}(r:@fa):@Kb:=Paired.length r
end
def vf{P:cE}{w:cn}{k:aW}{u:ah}(r:RelV @e4 u):(g9 P w).is k u=@h:=by cases k with|inl i=>rw[mW,K4 i t,awn P w i t]|inr x=>rw[mW,aft x t,awo P w x t]
def ajF{P:cE}{w:cn}:∀{ks:@fw}{us:@O},bi (ks.map kV) us->ItemsAre @ei ks us|[],_,r=>by rw[xG]at r;cases r;exact@ay|k::ks,_,r=>by rw[cb]at r;cases r with|cons h t=>exact .cons (vf h) (ajF t)
abbrev KT(H:Hp):(Y,@c_,@is):=Paired λp q=>@Fi
def KT.val{H:Hp}{kvs:@c_}{xs:@is}(r:@nl)(k:@fw):km @gN @vo:=@I0
def KT.repl{H:Hp}{kvs:@c_}{xs:@is}(r:@nl)(k:@fw){y:V}{u:ah}(B:@dQ):KT H @A1 (xs.map (putAt k u)):=by
 induction r with
 |nil=>rw[bp]
 |@cons p q ps G h t ih=>
  rw[cb,cb];refine .cons ?_ ih;let{Z,h2,h3}:=h;unfold putAt;rw[dz];.rw[aG,e,@wY];exact⟨Z,h2,B⟩
  rw[aj,af e,(cG,e (Z.trans z)),⟨Z,h2,h3⟩]
def KT.put{H:Hp}{kvs:@c_}{xs:@is}(r:@nl)(k:@fw){b:aa}{y:V}{u:ah}(hb:@zr)(B:@dQ):KT H @zx (atA xs k b u):=by
 rw[E,@ri,(oC xs k).isSome,(aA,Ib,(r.val k).isSome_eq,BH)];unfold iE atA;rw[e];by_cases q:(oC xs k).isSome=@h;.rw[aG,q,q];exact r.repl k B
 rw[aj,af q,af q,@Fm]
def KT.keeps{H H':Hp}{kvs:@c_}{xs:@is}(r:@nl)(ht:@Ga):KT H' kvs xs:=(sq,ht _ _ @aF)
section
variable{P:cE}{w:cn}{H:Hp}{h:bV}{a:aa}
def ajG{u:HO}(ok:@cG)(e:Rd H a u):e_ P w H h a u:=e.ok ok
def EU{kvs:@bp}(ok:@cG)(e:Rd H a @b9):@BI:=(f2,@b9,ajG ok e)
def S8{kvs:@bp}(ok:@cG)(e:@ll):@BI:=EU ok @g4
def ym{ks:@fw}(ok:@cG)(e:(P,a,@xj)):(BB @ei).is h ks a:=by rw[jb,@xj];exact{o,@aR,n,Z,h2,h3,(ga,ajF r)}
def Ic{kvs:@c_}(ok:@cG)(e:Rd H a @eZ):@FB:=(r_,(f2,@eZ,ajG ok e),@c_,@is,KT H l m,(BB @ei).is h x.1 @bw,ym ok (G,U.1,U.2.1))
def Nj{kvs:@c_}(ok:@cG)(e:@tq):@FB:=Ic ok @g4
end
def tU(H:Hp)(a:aa)(y:V)(r:@ag):@u:=(∃kvs k,Rd H a @b9/\y=@e4/\r=@gN)\/∃kvs k b,Rd H a @eZ/\y=@aH/\@zr/\r=@gN
def Ie(H:Hp)(a:aa)(y v:V)(H':Hp):@u:=(∃kvs k,@ll/\y=@e4/\@yT/\H'=@Jq)\/∃kvs k b,@tq/\y=@aH/\@zr/\@a7<a7/\H'=ag H a (.dT (iE kvs k v))
def tU.k{H:Hp}{a:aa}{kvs:@bp}{k:aW}(e:@ll):tU H a @e4 @gN:=.inl (Q,kvs,k,@g4,@d)
def Ie.k{H:Hp}{a:aa}{kvs:@bp}{k:aW}{v:V}(e:@ll)(hl:@yT):Ie H a @e4 v @Jq:=.inl {kvs,k,e,@d,hl,@d}
section
variable{X:Cx}{pins:@ae}{σ:St}{H:Hp}{s:aF}{a:aa}{y v:V}{u r:ah}{o:@ag}{A:dQ}{E:@ac}
def Inv.big(I:@I):(c7,nB):=by have h:(c7,iU):=(I.mod.glob.keeps I.bk).lt;exact afm @Z h
def ayb{Q:@ac}(hu:@ho)(I:@I)(g:tU H a y @dh)(B:@dQ)(h:@Gb):(cP,GH @W u):=by
 rcases g with⟨kvs,k,e,n,l⟩|⟨kvs,k,b,e,n,M,l⟩;.subst n;rw[d_];rw[ea,Eb vs k,@DU];exact aRl (vf B) dd.mapOf hw @Ca
 .subst n;cases(show u=cy b from B);rw[fX];rw[ea,@vo,@DU];let{p,hp,b7}:=atv.mp hw;refine aRm @sP @uo dd hp ?_;rw[b7];exact@Ca
def ayc{Q:@ac}(hu:@ho)(I:@I)(g:tU H a y o)(B:@dQ)(h:(na,@pF)):(cP,mR .In u @W):=by
 rcases g with⟨kvs,k,e,n,l⟩|⟨kvs,k,b,e,n,M,l⟩;.subst n;rw[d_];refine aRn (vf B) hd dd.mapOf ?_;rw[<-(@m8),<-l];exact h _ @dj
 .subst n;cases(show u=cy b from B);rw[fX];refine wpAny_in_heap @sP @uo hd dd ?_;have q:=@m8;rw[BH]at q;rw[<-q,<-l];exact h _ @dj
def ayd{Q:@ac}(hu:@ho)(I:@I)(g:tU H a y o)(B:@dQ)(h:(na,!@pF)):(cP,mR @kf u @W):=by
 rcases g with⟨kvs,k,e,n,l⟩|⟨kvs,k,b,e,n,M,l⟩;.subst n;rw[d_];refine aRo (vf B) hd dd.mapOf ?_;rw[<-(@m8),<-l];exact h _ @dj
 .subst n;cases(show u=cy b from B);rw[fX];refine aRp @sP @uo hd dd ?_;have q:=@m8;rw[BH]at q;rw[<-q,<-l];exact h _ @dj
def Ig{h':bV}{t':Nat}{ob:HO}(I:@I)(j:yg (H a))(hs:Gu a @am h')(he:@Lh)(new:(hw,ag H a ob,a,ob)):(jZ,ag H a ob):=I.write (x:=a) (e:=a) j @aK (λb q hb z=>(hs.2 b hb).trans z) he new
def ajH{P:cE}{w:cn}{H':Hp}{h':bV}{kvs:@bp}{vs:@rV}(z:@a7<=a7)(hd:(bS,a,nB))(rel:@fa)(dd:h'.DictOf @ei a vs):e_ P w H' h' a @b9:=⟨z,hd,vs,rel,dd⟩
def aye{H':Hp}{Q:@le}(hu:@ho)(I:@I)(g:Ie H a y v H')(B:@dQ)(rv:RelV v r)(h:∀s',@jY->Q () s'):(cP,afy @W u r):=by
 rcases g with⟨kvs,k,e,n,l,D⟩|⟨kvs,k,b,e,n,M,l,D⟩;.subst n D;let{z,hd,vs,rel,dd}:=S8 @cd e;rw[g5];rw[kW];refine wpAny_setItem_pairs (hsz:=hz) (vf B) dd λh' j hs=>h _ ?_;have he:@Lh:=let⟨q,_,_,U,_⟩:=j;⟨q,U⟩;exact Ig I (cl,zE) hs he (ajH hl hd (rel.put k rv) j)
 .subst n D;cases(show u=cy b from B);let{z,hd,xs,rel,dd}:=Nj @cd e;rw[iW];rw[kW];refine(ps,@sP,@uo);rw[jc];refine(o9,hl,(rel.put k M rv).keeps λc ys ec=>?_);rw[iL];exact ec
end
section
variable{X:Cx}{pins:@ae}{σ:St}{H:Hp}{s:aF}{a:aa}{kvs:@bp}{k:aW}{u:ah}{A:dQ}{E:@ac}
def ayf{Q:@ac}(I:@I)(e:Rd H a @b9)(h:∀t s',@wr->Q (.int @a7 t) s'):(cP,(lu,"len",@cM)):=by rw[d_];refine call_len_dict hd dd (by rw[<-rel.length];rw[La]at z;omega) ?_;rw[<-rel.length];exact h _ _ @dj
end
def Nk(i:bM):@u:=∀z F,afJ i @K z F=ato [z,F] (GH z F)
def S9{prog:cE}{w:cn}{A:dQ}{E:@ac}{s:aF}{env:jI}{value slice:bM}{pos:cO}{T id:String}{Q:@ac}(hl:@LA=pure (some @mG))(hs:Nk @kg)(h:(kU,cp @gu env,λo j=>aX @eA A (cp @kg env) (λi z=>z.TypeIs o T/\aX @eA A (GH o i) Q E z) E j)):(bc,cp (.Subscript @gu @kg pos) env):=by refine afI (i6,h,λo j D=>(i6,D,λi z G=>?_));let{hT,G}:=G;unfold atj;rw[aJ];rw[getitemInPython_of_ne hT.not_modules];rw[x,Gv hT hl ?_];have fin:aX @eA A (afJ @kg @K o i) (λr B=>aX @eA A (letTemporaryGo @gu o r>>=λ_=>pure r) Q E B) E z:=(d,hs o i,wpAny_operating (i6,G,λr B J=>aV (wpAny_letTemporaryGo (b5 J))));first|exact b5 (aV fin)|exact aV (b5 (aV fin))|exact aV fin
def ayg{X:Cx}{pins:@ae}{σ:St}{H:Hp}{s:aF}{a:aa}{y:V}{o:@ag}(I:@I)(g:tU H a y o):s.TypeIs @W "dict":=by
 rcases g with⟨kvs,k,e,_,_⟩|⟨kvs,k,b,e,_,_,_⟩;.let{_,_,vs,_,dd}:=EU @cd e;exact dd.typeIs
 .let{_,_,xs,_,dd}:=Ic @cd e;exact dd.typeIs
def ayh(td ty:TE):TE:=(tj,∃a v,x=@W/\tU H2 a y @dh/\Q v H2)
def ayi(ty td:TE):TE:=(qj,@pF)
def ayj(ty td:TE):TE:=(qj,!@pF)
def ayk(td ty tv:TE):TS:=(o8,∃a H4,x=@W/\Ie H3 a y v H4/\(dP,H4))
section
variable{X:Cx}{o i e value:bM}{pos sh xp:cO}{td ty tv:TE}
def vg(hu:@rN)(N:@lu)(hi:@ht)(hs:Nk i):(fY,o,i,ayh td ty):=(oO,(s3,λF s2⟨y,H2,I2,B,a,v,ex,g,q2⟩=>?_),{ayg I2 g,ayb hu I2 g B @LD})
def ayl(hu:@rN)(hi:@ht)(N:@lu):PC X .In i o (ayi ty td):=(q7,ayc hu I2 g B (qA,z.isSome))
def Ih(hu:@rN)(hi:@ht)(N:@lu):PC X @kf i o (ayj ty td):=(q7,ayd hu I2 g B (qA,! z.isSome))
def Cd(hu:@rN)(N:@lu)(hi:@ht)(hv:@Bg)(hs:@KL):(sS,ayk td ty tv):=by intro pins s σ H D I h;refine(rw,λF s3⟨y,H3,I3,B,a,H4,ex,g,q3⟩=>?_);subst ex;rw[bg];exact aye hu I3 g B rv λs4 I4=>⟨σ,H4,I4,q3⟩
end
def aym{P:cE}{w:cn}{H:Hp}(h:bV)(hb:@z_):(nc,@gV):={@aO,q_.mpr (qj (il hb)),[],@ay,aVe h}
def ayn{P:cE}{w:cn}{H:Hp}(h:bV)(hb:@z_):(nc,@f4):=@Jh
def ayo:TE:=λ_ H Q=>(lD,@gV)
section
variable{X:Cx}{pos:cO}
def Ii:PE X (.Dict [] [] pos) ayo:=λpins s σ H Q I h=>wpAny_Dict_empty (Q,@cq,_,I.laid (a:=@al) (o:=@gV) (t':=@bk) @xk @L (aym @am I.big),h _ @fK)
end
structure M2(X:Cx)(o:bM)(m:aq)(apos:cO)(e f:bM)(mG:cO):@u where
 base:(ib,m)
 few:(rN,(dc,[e,f]),([e,f]:@bR).length)
 line:@zZ
 trees:kI mG (dc,[e,f])=[(@K,@hJ),(@K,(bt,f))]
section
variable{X:Cx}{pins:@ae}{σ:St}{H:Hp}{s:aF}{a:aa}{y d:V}{u r:ah}{o:@ag}{A:dQ}{E:@ac}
end
section
variable{X:Cx}{o e f:bM}{apos mG:cO}{td ty tx:TE}
end
section
variable{X:Cx}{pins:@ae}{σ:St}{H:Hp}{s:aF}{a:aa}{kvs:@bp}{A:dQ}{E:@ac}
end
section
variable{X:Cx}{pins:@ae}{σ:St}{H:Hp}{s:aF}{a:aa}{y:V}{u:ah}{A:dQ}{E:@ac}
end
end L2
namespace L2
open PySem PySem.Spec PyProof.Rows
section
variable{prog:cE}{w:cn}{A:dQ}{E:@ac}
end
section
variable{X:Cx}
end
end L2
namespace L2
open PySem PySem.Spec PyProof.Rows
def ajI:Gx "reversed"=some (.type "reversed"):=@aG
section
variable{X:Cx}{pins:@ae}{σ:St}{H:Hp}{s:aF}{h':bV}
def Inv.turnedL{t':Nat}{ch:@aa}(I:@I)(k:(cd,b∉ch,@dr,@di))(hf:∀b∈ch,(bD,H,b)):@yM:=by rw[jq];refine I.step (g':=@nb) (d':=@ws) (ch:=ch) @IK @EH (mZ,k b o hc e) (λ_ _ _ _ n=>n) @Kj (λ_ _ e=>e) (λ_ _ _ e=>e) @Lv @kZ @x1 @gr;rw[l0,@H6];rw[ml]
def Inv.turnedNew{t':Nat}{ch:@aa}{T:aa}{ob:HO}(I:@I)(k:(cd,b∉ch,@dr,@di))(hf:∀b∈ch,(bD,H,b))(hT:@al<=T)(new:(hw,ag H T ob,T,ob)):(jZ,ag H T ob):=by
 have hn:@ld:=I.hok.fresh hT;rw[jq];refine I.step (g':=@nb) (d':=@ws) (ch:=ch) @IK @EH (mZ,k b o hc e) (λb o _ e n=>?_) @Kj (λb xs e=>?_) (λb o u e=>?_) (λb ps e=>{#[],?_}) @kZ @x1 @gr;rw[aK,il (o9 @cp hT),n];rw[s,(fR,hn),e];rw[s,(fR,hn),e];.rw[(fR,hn),e];simp
 .let{o,es,ep,N,r}:=hm;exact{o,es,ep,@H6,r}
 .by_cases hb:b=T;rw[jo];.rw[(@dV)]at e;rw[m5,λc q=>@oD,λc xs q=>@oD];rcases hc with z|z;rw[s,z,j b u e];.exact j c _ z
def Inv.lock{d:aa}{u:HO}(I:@I)(h:(a4,u))(j:@wV):∃od,(ar,@tN,s):=by
 have x:=I.hok d u h;have ex:∃od,(bx,d,od):=by cases u with|lst xs=>let{_,_,_,_,e}:=x;exact{_,e}|dK kvs=>rw[gE]|dT kvs=>rw[gE]|dN kvs=>rw[gE]|set S n=>let{o,_,_,_,e,_}:=x;exact⟨o,e⟩|ins C dx fs=>let{_,_,_,e,_}:=x;exact{_,e}|ext φ=>let{_,{_,e},_}:=x;exact{_,e}|_=>exact l5 j
 let{od,e}:=ex;have new:e_ @a8 X.w @tN @am d @mu:=by rw[P,e,x.stay (λb v _ q=>q) (λb q=>?_) λb xs q=>?_];rw[lm];rw[lm]
 exact{od,I.write (x:=d) (e:=d) (t':=@bk) (h':=@am) (d,h,j) @aK (λb v _ q=>q) ⟨od,e⟩ new}
def Inv.nofrz{d:aa}{u:HO}(I:@I)(h:(a4,u))(j:@wV):@Gc:=λo' F e=>by have q:=I.base.frzs d o' F e;rw[h]at q;cases q;exact j
def Inv.unlock{d:aa}{od:bA}{u:HO}(I:@I)(h:(a4,@mu))(hn:@Gc):(ar,(ex,u),s):=by
 have j:∀b o,@ez->(∀o' F,o≠.frz o' F)->b≠d:=λb o e aI z=>by rw[z,h]at e;cases e;exact aI _ _ @d
 have neN:∀b,@bP->b≠d:=λb e z=>by rw[z,h]at e;cases e
 refine{I.ok,I.os,@gr,(pM,λb o e n hx=>?_,λb xs e=>?_,λb o x e=>?_,λb ps e=>?_),@hx,@wu,?_,@sM,@cu,λb o e=>?_,I.len};rw[aK,neN b @pt,@pt];.have q:=@EY;rw[aA (lq,b)];exact q
 .have q:=I.base.frzs b o x e;rw[aA (λz=>by rw[z]at e;exact hn _ _ e)];exact q
 .let{m,q}:=I.base.tbls b ps e;exact{m,(D,(lq,b),q)}
 rw[aK,neN _ @gq,@gq];rw[aK,neN c @lO,@lO];.let{e,n,r}:=I.pin p hp;exact{e,(D,neN _ n,n),r}
 .by_cases hb:b=d;.rw[hb,ao]at e;cases e;rw[hb];let{_,x}:=(c2,d,h);exact x.stay (λc v _ q=>q) @Ez @EA
  .rw[(@dV)]at e;exact(I.hok b o e).stay (λc v _ q=>q) @Ez @EA
end
def ayp(t:TS):TS:=λD σ H=>(qD,t {(l7,D.nx σ' @ou),λv H'=>(bl,d,@mu)/\D.rt v @ou,(l7,D.bk σ' @ou),(l7,D.ct σ' @ou)} σ @tN)
def ayq(t:TE):TE:=λσ H Q=>(qD,t σ @tN λv H'=>(bl,d,@mu)/\Q v @ou)
section
variable{X:Cx}
def ayr{st:aY}{t:TS}(h:PS X st t):PS X st (ayp t):=by intro pins s σ H D I hw;let{d,u,hd,j,hw}:=hw;let{od,L}:=I.lock hd j;rw[lW,λf Y q=>?_];cases f with|next=>rw[hN]|brk=>rw[hN]|cont=>rw[hN]|ret v=>let{x,σ',H',I2,r,e,q}:=q;exact{x,σ',_,@Gh,r,q}
def ajJ{e:bM}{t:TE}(h:PE X e t):PE X e (ayq t):=by intro pins s σ H Q I hw;let{d,u,hd,j,hw}:=hw;let{od,L}:=I.lock hd j;rw[lW,λv Y⟨x,H1,I2,r,e2,q⟩=>?_];exact{x,_,I2.unlock e2 (I.nofrz hd j),r,q}
def Ij{tg:bM}{pins:@ae}{σ:St}{H:Hp}{s:aF}{R:@rx}{J:It}{L:(Y,Nat,bV)}{tk:Nat}(I:@I)(o:bA)(T:u_ @a8 X.w X.K tg J [@al] @al L)(st:L 0 (s.heap.push o))(q:R J H):Sy X @P σ tg R @cq (jO,o,tk):=by refine{@al,[@al],L,J,H,@d,I.kept λb ob e=>@eY,T,st,@f2,q};rw[E,b,@al,@gG];subst e;exact I.fpOk @L @fK
end
section
variable{X:Cx}{tg:bM}
end
def vh(K:aM)(a:aa)(n:Nat):It:={λi H=>i<n/\∃(xs:@F)(x:V),@bO/\(K,xs,@aw-i,x),λi H x H'=>H'=H/\∀xs,@bO->(K,xs,@aw-i,x),λi _=>n<=i}
def ays{P:cE}{w:cn}{K:aM}{tg:bM}(a it:aa)(n:Nat):(g7,vh K a n,i<=n/\h.IsRevIter it a (@aq-1-(W,i)))where
 mem:=@v
 obj:=λi h st b hb=>by rw[dv];subst e;let{_,o,e,c,d}:=st;exact{o,e,(lb,d)}
 keep:=λi h h' st k=>{st.1,st.2.at λo e=>k it @v o e}
 item:=by intro X B hw J hc i pins s σ H E I hf st hg;subst B hw J;let{cM,xs,x,U,hx}:=hg;rw[dE];rw[da];rw[aV];let{_,hit}:=st;rw[ah,@aq-1-(A,i),(A,@aw-i),@e];rw[e1]at hit;refine wpAny_pyNext_rev_item hit @ke (x:=u) @rq @sN;rw[ag,(A,@aw-i)-1,@aq-1-(A,@A),@e];rw[e2]at st';rw[cq,@zi];rw[fM];exact(nT,I.list_inj hy U,⟨cM,st'⟩)
 done:=by intro X B hw J hc i pins s σ H E I hf st hg;subst B hw J;rw[aV];let{cM,hit}:=st;have yI:n<=i:=hg;rw[ah,@aq-1-(A,i),-1,@e];rw[e1]at hit;exact wpAny_pyNext_rev_end @cn hit @oy
 self:=λA i s Q E st h=>atC st.2 h
def ayt(K:aM)(ta:TA):TI:=(h3,∃(a:aa)(xs:@F),vs=@cM/\@n8/\R (vh K a @X) H1)
section
variable{X:Cx}{tg:bM}
def S_{e:bM}{ta:TA}{p pos:cO}(hg:Gl X "reversed")(hm:(fq,"reversed"))(ha:PA X [e] ta)(hs:@oz:=by rfl):(ml,"reversed",[e],ayt X.K ta):=by intro pins s σ H R I h;refine(h4,ajI,hs,@d);let{a,xs,e,U,q}:=O;subst e;cases G with|cons r D=>cases D;cases r;rw[eb];have hl:=rv.length;rw[ah,@uH,@rR-(A,0),@yJ];refine aRs @kh (atC (l:=a) (i:=@uH) @jj ?_);refine(jD,ays a _ @X,{@aO,?_});rw[<-e1];exact@jj
end
def Ik(x:aq):It:={λi _=>i<@gx,λi H v H'=>H'=H/\∃c,(C,x.cps,c)/\v=@x0,λi _=>@gx<=i}
def ajK{P:cE}{w:cn}{K:aM}{tg:bM}(it:aa)(x:aq)(t:Tok)(ty:String)(n:ty="str_ascii_iterator"\/ty="str_iterator"):(g7,Ik x,@Ii)where
 mem:=@v
 obj:=@Ax
 keep:=λi h h' st k=>let⟨o,N,r⟩:=st;{o,k it @v o N,r}
 item:=by
  intro X B hw J hc i pins s σ H E I hf st hg;subst B hw J;rw[aV];have W:Walks @a8 X.w X.A it [it] [it] @gx (SignAt x) (λi h=>@Ii):=by rcases n with e|e;rw[s,e,Walks.strAscii @cn it x t];rw[s,e,Walks.strWide @cn it x t]
  have ck:(F,(nZ,ty)):=by
   rcases n with e|e;.rw[e];decide
   .rw[e];decide
  refine@IF;let{c,u,q,rfl}:=hv;rw[mF];let{oi,e,cc,dd}:=id st';exact(am,B8 (s:=@mV) e cc dd ck (mW,@x0,{u,@d},{@d,c,q,@d},st'))
 done:=by
  intro X B hw J hc i pins s σ H E I hf st hg;subst B hw J;rw[aV];have hx:x.cps[i]?=@r:=aRt hg;rcases n with e|e;.rw[e]at st;exact wpAny_pyNext_ascii_end @cn st hx @oy
  .rw[e]at st;exact wpAny_pyNext_wide_end @cn st hx @oy
 self:=λA i s Q E st h=>by
  rcases n with e|e;.rw[e]at st;exact wpAny_pyIter_striter_ascii st h
  .rw[e]at st;exact wpAny_pyIter_striter_wide st h
def ayu(te:TE):TI:=λσ H R=>te σ H λv H1=>∃x,v=@eo/\R (Ik x) H1
def ayv{X:Cx}{tg e:bM}{te:TE}(he:@dC):PI X tg e (ayu te):=by
 intro pins s σ H R I h;refine bx (he @P s σ H _ I h) λv Y⟨y,H1,L,G,x,ex,q⟩=>?_;subst ex;let{t,rfl}:=G;cases ha:x.cps.all (·<128);.exact wpAny_pyIter_wide ha (jD,ajK _ x t "str_iterator" @dU,@jj)
 .exact wpAny_pyIter_ascii ha (jD,ajK _ x t "str_ascii_iterator" @aK,@jj)
section
variable{prog:cE}{w:cn}{A:dQ}{E:@ac}{s:aF}
def Ta{d:aa}{o:bA}{es:@f_}{ep:Nat}{Q:@ac}(hd:(bS,d,nB))(N:(fX,d))(hc:o.ExactDict)(j:@hn)(hQ:Q @cq (jP,(kX,"dict_keyiterator",#[@cD,.int 0 0,.int @ft 0,.int ep 0]))):(bc,Qk @cD):=by have hT:s.TypeIs @cD "dict":={o,N,@h5};refine aRu hT aRv (Gw aRv hT F.entry_dict_iter ?_ (F.args_dict_iter_1 _));unfold Builtin.«dict.__iter__»;rw[aJ];unfold aVf;rw[x,wpAny_notOrdered_dict hT ?_];rw[bS,pure (cy d)];refine@dH;rw[bt,aRw d];unfold aRw;rw[af (d,hd,iA)];rw[bJ];rw[x,afT N j ?_];rw[x,atD N j ?_];rw[x,afR (b5 (e,"dict_keyiterator",_,(cr,@c3),Lk.lookup,?_))];simpa[DU]using hQ
def ajL{it d:aa}{i n ep:Nat}{od:bA}{es:@f_}{en:rn}{Q:(bg,@gz)}(hit:@Ij)(ib:(bx,d,od))(AR:od.data=@mj)(hsz:@ft=n)(hx:(C,es,en))(hQ:∀h',h'.IsKeyIter it d @A n ep->Gu it @am h'->Q (some @sH) @iO):(bc,zB @eI):=by let{o,N,hc,hd}:=id hit;unfold zB;rw[lT];rw[bJ];rw[aJ];rw[aJ];rw[fm];rw[x,aRA N hd ?_];rw[jM];simp only[J,mO,kG];rw[bS,(ee,cy d==xQ)];rw[mQ];rw[bJ];rw[x,afT ib AR ?_];rw[af (aX,hsz)];rw[bJ];rw[x,atD ib AR ?_];rw[af @v];refine@dH;let{j,JJ}:=Array.getElem?_eq_some_iff.mp hx;simp only[show¬((i:Int)<0)from by omega,kG,afH,Array.getElem?_eq_getElem j];rw[aJ];rw[fm];rw[x,aRC @pG ?_];rw[bt,setField @eI 1 (DU (@aL+1))];rw[x,aRD N hd @v ?_];have D:(s.heap.update it @Fz).IsKeyIter it d @A n ep:={_,Qy _ N (Obj.isFreed_of_fields (aRF hd _)),(Obj.cls_mapFields ..).trans hc,by rw[aRF hd];simp[DU]};rw[x,xR ?_];rw[x,aRC (s:={s with heap:=s.heap.update it @Fz}) D.typeIs ?_];rw[bB,pure es[i].key];rw[JJ];exact(e7,(am,b5 (hQ _ D (QC ..))))
def Tb{it d:aa}{i n ep:Nat}{od:bA}{es:@f_}{Q:(bg,@gz)}(hh:@jE)(hit:@Ij)(ib:(bx,d,od))(AR:od.data=@mj)(hsz:@ft=n)(yI:n<=i)(hQ:∀h',Heap.ExtBut it @am h'->Q @r @iO):(bc,zB @eI):=by let{o,N,hc,hd}:=id hit;unfold zB;rw[lT];rw[bJ];rw[aJ];rw[aJ];rw[fm];rw[x,aRA N hd ?_];rw[jM];simp only[J,mO,kG];rw[bS,(ee,cy d==xQ)];rw[mQ];rw[bJ];rw[x,afT ib AR ?_];rw[af (aX,hsz)];rw[bJ];rw[x,atD ib AR ?_];rw[af @v];refine@dH;have j:@ft<=i:=(d,hsz,yI);simp only[show¬((i:Int)<0)from by omega,kG,afH,aRt j];rw[aJ];rw[fm];rw[bt,setField @eI 0 @dD];rw[x,aRD N hd @v ?_];show aX _ _ (newExc (.type "StopIteration") []>>=_) _ _ _;rw[aJ];simp only[newExc,newTuple];rw[x,afR ?_ (by size_fits)];refine aV (m:=aRG _ _) (aRH (a:=xQ) (by first|rfl|(simp only[aRG];rfl)) ?_);refine afR ?_ (by size_fits);simp only[raiseNew];rw[x,wpAny_handled ?_];rw[show A.in1.handled=@r from hh];rw[x,b5 (wpAny_throw ?_)];rw[x,K2 (T:="StopIteration") (b:=@h) (cr,@c3) isSubtype_stop ?_];exact b5 (hQ _ (((QC ..).extBut.push _).push _))
end
def ayw{κ:@az}{kvs:@cV}{vs:@lA}(h:@fa):∀{i:Nat}{k:κ}{v:V},(C,kvs,(k,v))->∃u,(C,vs,(k,u))/\@da:=by unfold KV at h;induction h with|nil=>intro i k v e;simp at e|@cons a b n l₂ r t ih=>intro i k v e;cases i with|zero=>simp only[atF,aRI]at e;subst e;rw[ad,b.2,?_,r.2];simp only[atF];exact dg some (ae1 r.1.symm @d)|succ j=>simp only[afc]at e⊢;exact ih e
def ayx{α β:@az}{G:(Y,α,β)}{n:@as}{l₂:List β}(h:Paired G n l₂):∀{i:Nat}{a:α},(C,n,a)->∃b,(C,l₂,b)/\G a b:=by induction h with|nil=>intro i a e;simp at e|@cons a b n l₂ r t ih=>intro i J e;cases i with|zero=>simp only[atF,aRI]at e;subst e;exact(aD,b,r)|succ j=>simp only[afc]at e⊢;exact ih e
def ajM{k:aW}{u:ah}(h:ye k u=@h):RelV @e4 u:=by
 rcases wT h with⟨i,t,rfl,rfl⟩|⟨x,t,rfl,rfl⟩;.exact@qQ
 .exact@qQ
section
variable{X:Cx}{pins:@ae}{σ:St}{H:Hp}{s:aF}{d:aa}{o:bA}
def Inv.frzK{kvs:@bp}(I:@I)(h:(gh,@b9)):(rm,∃(es:@f_)(ep:Nat)(vs:@rV),@eQ=@mj/\@ft=@a7/\@fa/\s.heap.DictAt @hu d vs ep):=by let{hd,z,hs,vs,D,o',es,ep,N,hx,n,r}:=(c2,d,h);rw[hd]at N;cases N;refine{hs,hd,hx,es,ep,vs,n,?_,D,o,es,hd,hx,n,r};have l1:=r.2.1.length;have l2:@Kb:=Paired.length D;rw[xU]at l1;omega
def Inv.frzT{kvs:@c_}(I:@I)(h:(gh,@eZ)):(rm,∃(es:@f_)(ep:Nat),@eQ=@mj/\@ft=@a7/\∀(i:Nat)(k:@fw)(v:V),(C,kvs,(k,v))->∃(en:rn)(q:aa),(C,es,en)/\@sH=@bi/\(cC,q,k.map kV)):=by
 let{hd,z,hs,xs,j,o',es,ep,N,hx,n,he,_}:=(c2,d,h);rw[hd]at N;cases N;refine{hs,hd,hx,es,ep,n,?_,λi k v e=>?_};.have l1:(fK,@ft):=size_of_entries he;have l2:(fK,@a7):=Paired.length j;omega
 .let{b,hb,e1,e2,_}:=ayx j e;have q:=entry_at he i;rw[hb]at q;exact(Q,_,b.2.1,q,e2)
end
def vk(d:aa)(o:bA)(kvs:@bp):It:=(kl,(gh,@b9)/\@yN,∃k v,(C,kvs,(k,v))/\x=@e4,(gh,@b9)/\@tu)
def ajN(d:aa)(o:bA)(kvs:@c_):It:=(kl,(gh,@eZ)/\@yN,∃(k:@fw)(v:V)(q:aa),(C,kvs,(k,v))/\x=@bi/\(cC,q,k.map kV),(gh,@eZ)/\@tu)
def Nl{o:bA}{es xn:@f_}{ep xo:Nat}(h:@hn)(h':@eQ=.dict xn xo):xn=es/\xo=ep:=by rw[h]at h';cases h';exact@ds
section
variable{P:cE}{w:cn}{K:aM}{tg:bM}{d:aa}{o:bA}{es:@f_}{ep:Nat}
def ayy{kvs:@bp}(it:aa)(ib:@hn):(pX,vk d o kvs)where
 mem:=@v
 obj:=@GX
 keep:=@E0
 item:=by intro X B hw J hc i pins s σ H E I hf st hg;subst B hw J;rw[ed];rw[aV];rw[jh];rw[fi];rw[jX];let{u,hu,S}:=ayw D N;have hl:@a7=@fq:=Paired.length D;rw[hl]at st;refine wpAny_pyNext_dict_item st hm hu λkey h' yT st' W=>?_;rw[cq,@J3];let{oi,e,c,dd}:=id st';rw[ad,key,@d,(lI,dd,@e4,ajM (show ye k key=@h from yT),{@d,k,v,N,@d},?_)];show h'.IsKeyIter it d @A @a7 _;rw[hl];exact st'
 done:=by intro X B hw J hc i pins s σ H E I hf st hg;subst B hw J;rw[ed];rw[aV];rw[jh];rw[fi];exact Tb @cn st G n hsz hi @Eq
 self:=λA i s Q E st h=>aRJ st h
def ayz{kvs:@c_}(it:aa)(ib:@hn):(pX,ajN d o kvs)where
 mem:=@v
 obj:=@GX
 keep:=@E0
 item:=by intro X B hw J hc i pins s σ H E I hf st hg;subst B hw J;rw[ed];rw[aV];rw[jj];rw[fi];rw[jX];let{en,q,JJ,yT,U}:=kO i k v N;refine ajL st G n hsz JJ @sN;rw[cq,@J3];let{oi,e,c,dd}:=id st';exact(aD,@sH,(lI,dd,@bi,yT,{@d,k,v,q,N,@d,U},st'))
 done:=by intro X B hw J hc i pins s σ H E I hf st hg;subst B hw J;rw[ed];rw[aV];rw[jj];rw[fi];exact Tb @cn st G n hsz hi @Eq
 self:=λA i s Q E st h=>by refine aRu st.typeIs aRK (Gw aRK st.typeIs F.entry_dict_keyiterator_iter ?_ (F.args_dict_keyiterator_iter_1 _));rw[bS,ret @eI];exact b5 (e,"dict_keyiterator",_,st.typeIs,Lk.lookup,h)
end
def ayA(td:TE):TI:=λσ H R=>td σ H λx H1=>∃d o,x=@cD/\((∃kvs,H1 d=some (.frz o @b9)/\R (vk d o kvs) H1)\/∃kvs,H1 d=some (.frz o @eZ)/\R (ajN d o kvs) H1)
section
variable{X:Cx}{tg e:bM}{td:TE}{apos mG:cO}
def Td(he:PE X e td):PI X tg e (ayA td):=by
 intro pins s σ H R I h;refine bx (he @P s σ H _ I h) λu Y⟨x,H1,L,J,d,o,ex,q⟩=>?_;subst ex;obtain rfl:u=cy d:=J;rcases q with⟨kvs,hd,q⟩|⟨kvs,hd,q⟩;.let{hs,G,hx,es,ep,vs,n,hsz,D,hm}:=L.frzK hd;rw[l7,ayy _ n];rw[hsz]<;>rfl
 .let{hs,G,hx,es,ep,n,hsz,kO}:=L.frzT hd;rw[l7,ayz _ n];rw[hsz]<;>rfl
end
def Ai(K:aM)(a:aa):It:={λi H=>∃(xs:@F)(x:V),@bO/\@dl,λi H v H'=>∃T x,v=.ref T/\@ld/\H'=ag H T (bV,x)/\@Ap,λi H=>∃xs:@F,@bO/\@tt}
def ayB{P:cE}{w:cn}{K:aM}{C6:@bR}{kk:Nat}{xp:cO}(a e it:aa):(sj,Ai K a,[e,it],e,(∃old,IsEnum h e it (A,i) old)/\h.IsListIter it a i/\e≠it)where
 mem:=@v
 obj:=λi h st b hb=>by let{{old,he},{o,N,hc,hd},_}:=st;have F:b=e\/b=it:=@gG;rcases F with z|z;rw[s,z,{_,he,λv q=>@wg}];rw[s,z,{o,N,λv q=>(gE,hd)}]
 keep:=λi h h' st k=>let⟨⟨old,he⟩,hi,aI⟩:=st;{{old,k e @v _ he},hi.at (mY,it),aI}
 item:=by
  intro X B hw J hc i pins s σ H E I hf st hg;subst B hw J;let{{old,he},hit,aI}:=st;rw[fO];rw[dE];rw[da];have FE:(c7,e):=dS he;have uk:(c7,it):=by let{_,q,_}:=hit;exact dS q
  refine wpAny_pyNext_enum_item he hit @ke (x:=u) @rq aI λh' N D hT hsz hk=>?_;rw[am,wpAny_letOwnedTupleGo_enum (s:=(en,@bk+1)) N λV yH W=>?_];rw[k6,(hg,i),u,FE];rw[lB,(lA,(bV,x)),(bV,x),[(hg,i),u],@eD,S];have L:(ar,(lA,(bV,x)),{s with heap:=V,toks:=@bk+1}):=I.turnedNew (ch:=[e,it]) (λb ob hb q=>(W.2 b @AF).trans (hk b ob @AF @AF q)) hf @L new;refine{@cq,_,L,@d,{_,x,@d,@fK,@d,λys hy=>(d,I.list_inj hy U,hx)},{{u,?_},D.at λo q=>(W.2 it (qj aI)).trans q,aI},@f2};.rw[ah,(A,@A),@aL+1,@e];rw[e1];exact yH
  .have G:b<@al:=by have F:b=e\/b=it:=@gG;rcases F with z|z;rw[s,z,FE];rw[s,z,uk]
   rw[aA (il G)];exact(hf b hb).1
 done:=by intro X B hw J hc i pins s σ H E I hf st hg;subst B hw J;let{{old,he},hit,aI}:=st;let{xs,U,hx}:=hg;rw[dE];rw[aV];have hl:=rv.length;exact wpAny_pyNext_enum_end @cn he hit @ke @aS λh' M=>(al,(io,λb o hb q=>M b o hb q))
 self:=λA i s Q E st h=>let⟨⟨_,he⟩,_⟩:=st;aRL he h
def ayC(K:aM)(ta:TA):TI:=(h3,∃a xs,vs=@cM/\@n8/\R (Ai K a) H1)
def qy{X:Cx}{e:bM}{ta:TA}{p pos xp:cO}{C6:@bR}{kk:Nat}(hg:Gl X "enumerate")(hm:(fq,"enumerate"))(ha:PA X [e] ta)(hs:@oz:=by rfl):(ou,"enumerate",[e],ayC X.K ta):=by
 intro pins s σ H R I h;refine(h4,boot_enumerate,hs,@d);let{a,xs,ex,U,q}:=O;subst ex;cases G with
 |cons r D=>
  cases D;cases r;rw[eb];refine call_enumerate_list @kh λh' he hit hsz hk=>aRL he ?_;have I2:(ar,H1,{Y with heap:=h'}):=@JT;refine{@nK,[@nK,@bF],_,_,H1,@d,I2,ayB a @nK @bF,{{@dD,he},hit,Nat.succ_ne_self _},@f2,q};have F:b=@nK\/b=@bF:=@gG;have fG:@bF<=b:=by rcases F with z|z;rw[dU];rw[s,z,@L]
  exact@Lx
def ayD:Gx "zip"=some (.type "zip"):=@aG
def qz(K:aM)(a b:aa):It:={λi H=>∃(xs ys:@F)(x y:V),@bO/\@r3/\@dl/\@tM,λi H v H'=>∃T x y,v=.ref T/\@ld/\H'=@zq/\@Ap/\∀ys,@r3->@tM,λi H=>∃xs ys:@F,@bO/\@r3/\(@tt\/@dG<=i)}
def ayE{P:cE}{w:cn}{K:aM}{C6:@bR}{kk:Nat}{xp:cO}{a b z TI TO i1 i2:aa}(D:ZipApart z TI TO i1 i2 a b):(sj,qz K a b,@Dh,z,IsZip h z TI TO @dD/\IsPair h TI (.ref i1) (.ref i2)/\(∃x y,IsPair h TO x y)/\h.IsListIter i1 a i/\h.IsListIter i2 b i)where
 mem:=@v
 obj:=λi h st c hc=>by
  let{hz,n,{x,y,U},{o1,e1,_,d1},{o2,e2,_,d2}}:=st;have F:c=z\/c=TI\/c=TO\/c=i1\/c=i2:=by simpa using hc
  rcases F with q|q|q|q|q;rw[ge,hz];rw[ge,n];rw[ge,U];rw[s,q,{o1,e1,λv q=>(gE,d1)}];rw[s,q,{o2,e2,λv q=>(gE,d2)}]
 keep:=λi h h' st k=>by let{hz,n,{x,y,U},Z,h2}:=st;exact{k z @v _ hz,k TI @v _ n,{x,y,k TO @v _ U},Z.at (mY,i1),h2.at (mY,i2)}
 item:=by
  intro X B hw J hc i pins s σ H E I hf st hg;subst B hw J;let{hz,n,{M,y0,U},Z,h2}:=st;let{xs,ys,x,y,FF,FG,hx,hy}:=hg;let{aD,rv,p,_}:=I.list FF;let{j,OW,p2,_}:=I.list FG;rw[da];let{G,li,Y}:=OW.get hy;have ic:z<@al:=dS hz;refine wpAny_pyNext_zip_item D hz n U Z h2 @ke p2.isList (x:=u) (y:=G) @rq (by simpa using li) λh' z' TO' lg ju hT hsz hk=>?_;rw[am,wpAny_letOwnedTupleGo_zip (s:=@iO) z' λV O W=>?_];rw[k6,u,G,ic];rw[lB,@JK,.tup [x,y],[u,G],S,Y];have L:(jY,@JK,V):=I.turnedNew (t':=@bk) (ch:=@Dh) (λc o hb q=>(W.2 c @qc).trans @IY) hf @L new;refine{@cq,_,L,@d,{_,x,y,@d,@fK,@d,λl hl=>(d,I.list_inj hl FF,hx),λl hl=>(d,I.list_inj hl FG,hy)},{O,?_,{u,G,?_},?_,?_},λc AS=>?_};.exact(iK,D.TIz,hk _ _ D.TIz D.TITO D.TIi1 D.TIi2 n)
  .exact(iK,D.TOz,TO')
  .exact lg.at λo q=>(iK,D.i1z,q)
  .exact ju.at λo q=>(iK,D.i2z,q)
  .have bn:(c7,c):=by
    have F:c=z\/c=TI\/c=TO\/c=i1\/c=i2:=by simpa using AS
    rcases F with q|q|q|q|q;rw[s,q,ic];rw[s,q,dS n];rw[s,q,dS U];.rw[q];let{_,e1,_}:=Z;exact dS e1
    .rw[q];let{_,e2,_}:=h2;exact dS e2
   rw[aA (il bn)];exact(hf c AS).1
 done:=by
  intro X B hw J hc i pins s σ H E I hf st hg;subst B hw J;let{hz,n,{M,y0,U},Z,h2}:=st;let{xs,ys,FF,FG,N}:=hg;let{aD,rv,p,_}:=I.list FF;let{j,OW,p2,_}:=I.list FG;have l1:=rv.length;have l2:=OW.length;have he:(@aR)[i]?=@r\/(@l5)[i]?=@r:=by rcases N with q|q;rw[Q,@aS];rw[ac,@aS]
  exact wpAny_pyNext_zip_end @cn D hz n U Z h2 @ke p2.isList he λh' hk=>(al,I.turnedL (t':=@bk) (ch:=@Dh) (λc o hb q=>@IY) hf)
 self:=λA i s Q E st h=>aRM st.1 h
def ayF(K:aM)(ta:TA):TI:=(h3,∃a b xs ys,vs=[@W,@aH]/\@n8/\aj K H1 b ys/\R (qz K a b) H1)
def Nm{X:Cx}{e e2:bM}{ta:TA}{p pos xp:cO}{C6:@bR}{kk:Nat}(hg:Gl X "zip")(hm:(fq,"zip"))(ha:PA X [e,e2] ta)(hs:(dc,[e,e2])=(@K,@hJ)::(dc,[e2]):=by rfl)(dF:(F,(kI pos (dc,[e2])).any @aA):=by rfl):(ou,"zip",[e,e2],ayF X.K ta):=by
 intro pins s σ H R I h;refine(h4,ayD,hs,dF);let{a,b,xs,ys,ex,FF,FG,q}:=O;subst ex;cases G with
 |cons r D=>
  cases D with
  |cons r' D=>
   cases D;cases r;cases r';let{aD,rv,p1,_}:=L.list FF;let{j,OW,p2,_}:=L.list FG;have S:a<@bF:=p1.lt;have N:b<@bF:=p2.lt;refine call_zip_2 p1.isList p2.isList λh' hz n U Z h2 hsz hk=>aRM hz ?_;have I2:(ar,H1,{Y with heap:=h'}):=@JT;refine{@zU,[@zU,@bF+2,@bF+3,@bF,@nK],_,_,H1,@d,I2,ayE (aVg @bF a b S N),{hz,n,{_,_,U},Z,h2},λc AS=>?_,q};have F:c=@zU\/c=@bF+2\/c=@bF+3\/c=@bF\/c=@nK:=by simpa using AS
   have fG:@bF<=c:=by rcases F with z|z|z|z|z;rw[dU];rw[dU];rw[dU];rw[s,z,@L];rw[dU]
   exact@Lx
end L2
section
namespace Bits
open PySem PyProof.Rows
end Bits
end
section
namespace TL
open PySem PySem.Builtin PySem.Builtin.Str PySem.StrLaws
abbrev tl(x:aq):@o:=x.cps.toList
def ajO(x y:aq):tl (x++y)=tl x++tl y:=by show(x++y).cps.toList=_;rw[Str.cps_append,Array.toList_append]
def Il(S:@o):@q2->@o|[]=>[]|[p]=>p|p::q::r=>p++(S++Il S (q::r))
def ajP(y:aq):∀oB:@aE,tl (atG y oB)=Il (tl y) (oB.map tl)|[]=>rfl|[_]=>rfl|x::z::r=>by show tl (x++y++atG y (z::r))=tl x++(tl y++Il (tl y) ((z::r).map tl));rw[ajO,ajO,ajP y (z::r),eM]
def ayG(y:aq)(oB:@aE):QD y oB=atG y oB:=glued_eq_join y oB
end TL
end
namespace L2
open PySem PySem.Spec PyProof.Rows
def Te:∀{ys:@aE}{us:@O},bi @Dv us->StrsAre us ys|[],_,.nil=>@ay|y::ys,_,.cons r t=>by let{k,rfl}:=r;exact .cons y k (Te t)
section
variable{X:Cx}{pins:@ae}{σ:St}{H:Hp}{s:aF}{Q:VK}
end
section
variable{X:Cx}
def ayH:HP X "str.join" @IW:=by
 intro pins s σ H x xs v us Q I J j h;let{a,p,ys,rfl,rfl,hp,hz,h}:=h;rw[aX];cases j with
 |cons G j=>
  cases j;cases G;rcases hp with hp|hp;.let{aD,r,{o,n,N,hc,_,hd},_}:=I.list hp;exact aVh (items:=@aR) ⟨o,N,hc,n,hd⟩ (d,afW,Te r) hz @HC
  .let{aD,r,ht,_}:=I.tuple hp;exact aVi (items:=@aR) ht (d,afW,Te r) hz @HC
end
section
variable{X:Cx}{o e:bM}{to te:TE}
def tM1(r:@fl)(to te:TE):TE:=λσ H Q=>to σ H λx H1=>(∃a,x=.str a)/\te σ H1 λy H2=>r x [y] H2 Q
def ayI{id:String}{name:aq}{apos pos:cO}{r:@fl}(slot:Slot "str" @bG id)(ty:@Bu)(zC:HP X id r)(N:@rJ)(he:@dC)(hs:@oz:=by rfl)(q:(ib,@bG):=by rfl)(j:@JN:=by rfl):(gI,(eq,o,@bG),[e],tM1 r to te):=by intro pins s σ H Q I h;refine PySem.Call_method1 q hs j (lr,@kz);let{{a,rfl},O}:=O;let{t,rfl}:=_root_.id G;refine{"str",_,F.plainAttrs_str,slot,ty,atq _ _ _,@x9,afK @d (att (Qr ?_))};exact(qO,λu s2⟨y,H2,I2,r2,q2⟩=>afD (zC @P s2 σ H2 _ [y] _ [u] Q I2 G (dX,r2) q2))
def ayJ{apos pos:cO}(N:@rJ)(he:@dC)(hs:@oz:=by rfl)(q:(ib,"join"):=by rfl)(j:@JN:=by rfl):(gI,(eq,o,"join"),[e],tM1 @IW to te):=ayI F.slot_str_join F.type_str_join ayH N he hs q j
end
end L2
namespace L2
open PySem PySem.Spec PyProof.Rows
section
variable{X:Cx}
end
end L2
namespace Att
open PySem PySem.W PySem.Calls PyProof.Rows
section
variable{prog:cE}{w:cn}{A:dQ}{E:@ac}{s:aF}{K:Frag}
end
end Att
namespace L2
open PySem PySem.Spec PyProof.Rows
end L2
namespace L2
open PySem PySem.Spec PyProof.Rows
end L2
namespace L2
open PySem PySem.Spec PyProof.Rows
def iF(s:aY)(j:Nat):aY:=match s with|.ClassDef _ _ _ body _ _ _ _ _ _ _=>body.getD j @Di|_=>@Di
def rS(s:aY):aQL:=match s with|.FunctionDef _ a _ _ _ _ _ _ _ _=>a|_=>{posonlyargs:=[],args:=[],vararg:=@r,kwonlyargs:=[],kw_defaults:=[],kwarg:=@r,defaults:=[]}
def qA(s:aY):@jk:=match s with|.FunctionDef _ _ b _ _ _ _ _ _ _=>b|_=>[]
def a9(s:aY):kH:=match s with|.FunctionDef _ _ _ _ _ _ j _ _ _=>j|_=>{kind:=@la,names:=[],isGenerator:=@K,isCoroutine:=@K}
abbrev a8:rR:=λ_ _ _ _ _ _=>@lM
abbrev E0:XK:=@m3
def EV{X:Cx}:Af a8 X E0:=λ_ _ _ _ _ _ _ h=>h.elim
structure a_(K:aM)(x j:aq)(st:aY)(f:aa)(fd:lD):@u where
 ex:∃(oc:ah)(od:@eg)(kV L pm:ah)(z:@eg)(aL ct:ah)(M:@jr),fd=@vE/\(hQ,fd)/\(hK,j)
 kp:@j3
section
variable{P:cE}{w:cn}{K:aM}{mg:@aT}{base:bV}
def a_.ok{x j:aq}{st:aY}{f:aa}{fd:lD}{N ps:@aE}{k:Nat}{sp:Sp}(F:(o,x,j,st))(S:(bf,N,ps,st))(len:@Cs)(ab4:∀(aL:ah)(A:dQ)(outer:@ep)(s:aF)(H:Hp)(vs:@F)(Q:VK)(E:XK),(rl,BF j (a9 st) @al f aL,(EN a8 P w K mg @ba N j (a9 st) f aL A @bf s H E).nox,qA st)):(ae,@aV,ps,sp):=by rw[jp];refine axm G W S len λA outer s H vs Q E hr D=>?_;let{t,h,q}:=ab4 aL A @bf s H vs Q E hr D;exact⟨t,h.nox,q⟩
def a_.binds{x j:aq}{st:aY}{f:aa}{fd:lD}{ps:@aE}(F:(o,x,j,st))(h:(kJ,@vE)):@lT:=by rw[jp];exact .all (h kV L pm z aL ct)
def Tf{x j:aq}{st:aY}{f:aa}{oc:ah}{od z:@eg}{M:@jr}{kV L pm aL ct:ah}(l:(hQ,@vE))(c:(hK,j))(k:@j3):a_ K x j st f @vE:={{oc,od,kV,L,pm,z,aL,ct,M,@d,l,c},k}
end
def jD{A:dQ}{k:Nat}(hr:@lr):@ho:=nz (Nat.add_le_add_left (@Z:1<=64) _) hr.units
def dA{n:Nat}(h:n<=1000):n<a7:=nz h @Z
section
variable{X:Cx}
def pv(i:Nat){x:aq}{pos:cO}(S:@jO:=by rfl)(hv:@uG:=by first|exact ak rfl|exact al (ak rfl)|exact al (al rfl))(hd:@cc:=by decide)(W:@yX:=by decide):PE X @mK (EL i):=aiY S hv hd W
def ayK:(sL,@ll):=by intro pins s σ H xs us Q I r h;rw[dI];let{u,rfl,S}:=vals1 r;cases S;exact ayf I @dN λt s' I'=>{.int @a7,H,I',@qQ,q}
end
def cI{A B:@u}(h:B):(L,@K,A,B):=(d,af iA,h)
def cq{A B:@u}(h:A):(L,@h,A,B):=(d,(@ax),h)
def bF{c A B:@u}[Decidable c](Z:c->A)(h2:¬c->B):if c then A else B:=by by_cases h:c;rw[aT,h,Z h];rw[bk,h,h2 h]
def ae(H H':Hp):@u:=∀b o,@ez->(R,H' b)
def ae.refl(H:Hp):ae H H:=λ_ _ h=>h
def ae.trans{H H1 H2:Hp}(a:@cB)(b:@jb):@jH:=λc o h=>b c o (a c o h)
def ae.free{H H':Hp}(e:@ab){l:aa}(h:H' l=afX):H l=afX:=by cases q:H l with|none=>rfl|some o=>rw[cV,e l o q]
def ae.seq{K:aM}{H H':Hp}{a:aa}{xs:@F}(e:@ab)(h:@bO):aj K H' a xs:=(o7,e _ _ h,e _ _ h)
section
variable{κ:@az}[DecidableEq κ]
end
def fX{xs:@F}{z:Int}{j:Nat}{v:V}(e:z=(u,j))(h:(ah,xs,v)):(bz,xs,z,v):=(cl,EQ h)
def ae.made{H H1:Hp}{x dx C:aa}(nx:H x=afX)(nd:H dx=afX)(k:(cd,(R,(ag @Ks x (ad,[])) b),b≠x,H1 b)):@cB:=λb o e=>k b o (ai,(fR,nx),(fR,nd),e) (du e nx)
end L2
end
section
namespace L2
open PySem PySem.Spec PyProof.Rows
open PySem.W(WData Codec OpenSpec Well WellAll ReadsW ReadsAllW)
mutual
inductive Dw(K:aM)(H:Hp):(Y,V,jW)|non:Dw K H @cI @dD|bl(b:Bool):Dw K H @f3 (.bool b)|int(i:Int):Dw K H @a3 @a3|str(x:aq):Dw K H @eo @eo|byt(b:Array UInt8):Dw K H (.byt b) (.bytes b.toList)|lst{a:aa}{xs:@F}{ds:@el}:@bO->tV K H xs ds->Dw K H @W (.list ds)|tup{a:aa}{xs:@F}{ds:@el}:@fc->tV K H xs ds->Dw K H @W @x_
inductive tV(K:aM)(H:Hp):(Y,@F,@el)|nil:tV K H [] []|cons{v:V}{vs:@F}{d:jW}{ds:@el}:Dw K H v d->tV K H vs ds->tV K H (v::vs) (d::ds)
end
def ajR{K:aM}{H:Hp}:∀ns:@J,tV K H @bN (ns.map aRN)|[]=>@ay|n::r=>.cons @dd (ajR r)
def ajS{K:aM}{H:Hp}:∀(ns:@J)(xs:@F),tV K H xs (ns.map aRN)->xs=@bN|[],xs,h=>@nL|n::r,xs,h=>by cases h with|cons Z h2=>cases Z;rw[ajS r _ h2]<;>rfl
section
variable{P:cE}{w:cn}{K:aM}{H:Hp}{h:bV}{R:aRO}{cl:aq->@eg}
def ayL{a:aa}{xs:@F}(hok:@cG)(B:@g7)(q:@bO):(qE,@kp):=by
 rcases q with q|⟨o,aD,n,e,hc,_,hd,_,hv⟩;.let{_,aD,n,hv,e}:=(f2,.lst xs,q.ok hok);exact{aD,_,n,hv,e,@d,@d}
 .exact{@wx,o,n,hv,B _ _ e,hc,by simp[hd]}
def ayM{a:aa}{xs:@F}(hok:@cG)(B:@g7)(q:@fc):(qE,@dR):=by
 rcases q with q|⟨o,aD,n,e,hc,hd,_,hv⟩;.let{_,aD,hv,o,e,hc,n,hd}:=(f2,@d9,q.ok hok);exact⟨aD,o,n,hv,e,hc,hd⟩
 .exact{@wx,o,n,hv,B _ _ e,hc,by simp[hd]}
mutual
def Dw.reads(hok:@cG)(B:@g7):∀(d:jW)(v:V)(u:ah),Dw K H v d->@da->∃as,ReadsW R cl h u d as
 |.none,_,_,x,r=>(mu,aVj)
 |.bool b,_,_,x,r=>(mu,aVk b)
 |.int i,_,_,x,r=>(mw,aVl i t)
 |.str s,_,_,x,r=>(mw,aVm s t)
 |.bytes b,_,_,x,r=>(mw,aVn _ t)
 |.list ds,_,_,x,r=>by cases x with|lst hs ha=>rw[lA,ayL hok B hs,aVo N hc hd hr]
 |.tuple ds,_,_,x,r=>by cases x with|tup hs ha=>rw[lA,ayM hok B hs,aVp N hc hd hr]
 |.float _,_,_,x,_=>@nH
 |.dict _,_,_,x,_=>@nH
 |.bytearray _,_,_,x,_=>@nH
 |.set _,_,_,x,_=>@nH
 |.frozenset _,_,_,x,_=>@nH
 |.obj _ _,_,_,x,_=>@nH
def Dw.readsAll(hok:@cG)(B:@g7):(pq,@el,tV K H vs ds,ReadsAllW R cl h us ds as)|[],_,_,x,r=>(mu,aVq)|d::ds,_,_,x,r=>by cases x with|cons Z h2=>rw[ju,Dw.reads hok B d _ _ Z G,Dw.readsAll hok B ds _ _ h2 r2,aVr O q2]
end
end
mutual
def qB:jW->@an|.none=>true|.bool _=>true|.int _=>true|.str _=>true|.bytes _=>true|.list xs=>tW xs|.tuple xs=>tW xs|_=>false
def tW:@el->@an|[]=>true|x::r=>qB x&&tW r
end
def ajT{α:@az}{f:α->jW}(h:∀a,qB (f a)=@h):∀l:@as,tW @q8=@h|[]=>rfl|x::r=>by show(bv,qB (f x),tW (r.map f));rw[h x,ajT h r]<;>rfl
def Aj:∀(c:Lm)(a:c.denote),qB (c.enc a)=@h|.unit,_=>rfl|.bool,_=>rfl|.int _ _,_=>rfl|.nat _ _,_=>rfl|.u8,_=>rfl|.bytes _ _,_=>rfl|.text _ _ _ _,_=>rfl|.list _ _ c,a=>ajT (λx=>Aj c x) a|.pair c d,a=>by show(bv,@Ag,qB (d.enc a.2)&&@h);rw[Aj c a.1,Aj d a.2]<;>rfl|.triple c d e,a=>by show(bv,@Ag,qB (d.enc a.2.1)&&(qB (e.enc a.2.2)&&@h));rw[Aj c a.1,Aj d a.2.1,Aj e a.2.2]<;>rfl|.option c,none=>rfl|.option c,some x=>Aj c x
def ajU:(n7,tW (Ln cs a)=@h)|[],_=>rfl|c::cs,a=>by show(bv,@Ag,tW (Ln cs a.2));rw[Aj c a.1,ajU cs a.2]<;>rfl
def Tg:∀{xs:@el}{d:jW},d∈xs->@s9<=afZ xs
 |[],d,h=>@tI
 |x::r,d,h=>by
  show@s9<=x.weight+1+afZ r;rcases de.mp h with e|m;.rw[e];omega
  .have z:=Tg m;omega
def nY:ah->V|.none=>@cI|.bool b=>@f3|.int i _=>@a3|.str x _=>@eo|.bytes b _=>.byt b|.ref a=>@W|_=>@cI
def rT(A:@aa):ah->@u|.none=>True|.bool _=>True|.int _ _=>True|.str _ _=>True|.bytes _ _=>True|.ref a=>a∈A|_=>False
def rT.mono{A B:@aa}(h:∀a∈A,a∈B):∀{u:ah},rT A u->rT B u:=λ{u}x=>by cases u with|ref a=>exact h a x|none=>trivial|bool b=>trivial|int i t=>trivial|str s t=>trivial|bytes b t=>trivial|_=>exact l5 x
def ayN{A:@aa}{u:ah}(x:rT A u):RelV (nY u) u:=by cases u with|ref a=>rfl|none=>rfl|bool b=>rfl|int i t=>rw[a_,t]|str s t=>rw[a_,t]|bytes b t=>rw[a_,t]|_=>exact l5 x
def EW{A:@aa}:∀{vs:@O},@m9->bi @mP vs|[],_=>@ay|u::r,h=>.cons (ayN (h u @pH)) (EW @K4)
def tX(h:bV)(A:@aa)(a:aa):@u:=(qF,(ck,@jg),(ck,@jh))
def tX.mono{h:bV}{A B:@aa}{a:aa}(k:∀a∈A,a∈B)(x:tX h A a):tX h B a:=by let{vs,Z,h2,h3}:=x;exact{vs,Z,λu hu=>(h2 u hu).mono k,h3}
def Nn{P:BI}{h:bV}:∀{vs:@O}{ds:@el},@sm->@fq=@iG|_,_,.nil=>rfl|_,_,.cons _ b=>(gk,_+1,_+1,Nn b)
def ajV{P:BI}{h:bV}{v:ah}{ds:@el}(x:QE P h v (.list ds)):(n8,(ck,@jg)):=by cases x with|list N L=>exact(ha,N,L)
def ajW{P:BI}{h:bV}{v:ah}{ds:@el}(x:QE P h v @x_):(n8,(ck,@jh)):=by cases x with|tuple N L=>exact(ha,N,L)
def ajX{P:BI}{h:bV}{us:@O}{d:jW}{ds:@el}(x:Ec P h us (d::ds)):∃(v:ah)(vs:@O),us=v::vs/\QE P h v d/\@sm:=by cases x with|cons a b=>exact(ha,a,b)
def ajY{n:Nat}(h:n<=1048576):n<=a7:=cU h @Z
section
variable{P:BI}{h:bV}
mutual
def ayO:∀(d:jW)(v:ah),QE P h v d->qB d=@h->@s9<=1048576->∃A:@aa,rT A v/\@ie|.none,_,x,_,_=>(hO,eY)|.bool b,_,x,_,_=>(hO,eY)|.int i,_,x,_,_=>(hO,eY)|.str s,_,x,_,_=>(hO,eY)|.bytes b,_,x,_,_=>(hO,eY)|.list ds,_,x,p,z=>by let{a,vs,rfl,N,L}:=ajV x;have z2:afZ ds<=1048576:=z;let{A,Z,h2}:=No ds _ L p @Dz;rw[jK];rw[ad,a::A,@pH,@f2];rcases de.mp hb with e|m;rw[lo,.inl N];.exact(h2 b m).mono k|.tuple ds,_,x,p,z=>by let{a,vs,rfl,N,L}:=ajW x;have z2:afZ ds<=1048576:=z;let{A,Z,h2}:=No ds _ L p @Dz;rw[jK];rw[ad,a::A,@pH,@f2];rcases de.mp hb with e|m;rw[lo,.inr N];.exact(h2 b m).mono k|.float _,_,_,p,_=>@fe|.dict _,_,_,p,_=>@fe|.bytearray _,_,_,p,_=>@fe|.set _,_,_,p,_=>@fe|.frozenset _,_,_,p,_=>@fe|.obj _ _,_,_,p,_=>@fe
def No:(pt,@sm,@yc,∃A:@aa,@m9/\@ie)
 |[],_,x,_,_=>(hO,λu m=>absurd m @v)
 |d::ds,_,x,p,z=>by
  let{v,vs,rfl,j,O}:=ajX x;rw[k1];let{A,a1,M}:=ayO d v j q.1 (z d @pH);let{B,b1,b2}:=No ds vs O q.2 λe he=>z e (f6 _ he);have f:∀b∈A,b∈A++B:=λb hb=>bz.mpr (.inl hb);have c:∀b∈B,b∈A++B:=λb hb=>bz.mpr (.inr hb);rw[ad,A++B,@nu,@f2];.rcases de.mp hu with e|m;rw[s,e,a1.mono f];.exact(b1 u m).mono c
  .rcases bz.mp hb with m|m;.exact(M b m).mono f
   .exact(b2 b m).mono c
end
end
def Np(o:bA):Option HO:=match o.data with|.seq vs _=>(mg,@iB,some (.frz o (.lst @FH)),some (.frz o (.tup @FH)))|_=>none
def mq(K:aM)(h:bV)(A:@aa):Hp:=λb=>if b∈A then(L,(K.lookup b).isNone,(h.get? b).bind Np,@r)else@r
def Im(H:Hp):@u:=∀b,@bP\/∃o u,(P,b,@wF)
def ajZ(vs:@O):Np @jg=some @Lr:=(fH,(mg,xS "list",some (HO.frz @jg (.lst @sQ)),some (HO.frz @jg (.tup @sQ))),P8 _)
def aj0(vs:@O):Np @jh=some @Ls:=(fQ,(mg,xS "tuple",some (HO.frz @jh (.lst @sQ)),some (HO.frz @jh (.tup @sQ))),@Z)
section
variable{P:cE}{w:cn}{K:aM}{h:bV}{A:@aa}
def Nq{b:aa}{o:bA}(hb:b∈A)(hk:@rf=@r)(e:@gb):mq K h A b=Np o:=by unfold mq;rw[ai hb,hk,ai (show(@r:Option bA).isNone=@h from rfl),e]<;>rfl
def ayP{b:aa}{u:HO}(q:(bJ,mq K h A b)):b∈A/\@rf=@r:=by
 unfold mq at q;by_cases hb:b∈A;.rw[ai hb]at q;cases hk:K.lookup b with|none=>rw[a_,hb]|some o=>rw[hk,(@jp)]at q;cases q
 rw[bi,af hb]
def Nr(c:@ie){b:aa}{u:HO}(q:(bJ,mq K h A b)):@rf=@r/\(qF,@eW=some @jg/\u=@Lr,@eW=some @jh/\u=@Ls):=by
 let{hb,hk}:=ayP q;let{vs,Z,h2,h3}:=c b hb;refine{hk,vs,Z,h2,?_};rcases h3 with e|e;.rw[Nq hb hk e,ajZ]at q;exact(bC,e,(bZ q).symm)
 .rw[Nq hb hk e,aj0]at q;exact(a_,e,(bZ q).symm)
def ayQ(c:@ie):Im @lG:=λb=>by cases q:mq K h A b with|none=>exact@aK|some u=>obtain⟨_,vs,_,_,⟨_,e⟩|⟨_,e⟩⟩:=Nr c q;rw[ac,{_,_,by rw[e]}];rw[ac,{_,_,by rw[e]}]
def ayR(c:@ie):fT P w @lG h:=λb u q=>by
 obtain⟨_,vs,Z,h2,⟨e,rfl⟩|⟨e,rfl⟩⟩:=Nr c q;.exact{e,(fp,Z),vs,_,EW h2,e}
 .exact{e,(fp,Z),vs,EW h2,_,e,@d,_,@d}
def Nt{c c':ah}{vs us:@O}(e:(some {cls:=c,data:=.seq @iD}:Option bA)=some {cls:=c',data:=.seq @pI}):c=c'/\vs=us:=by have e1:=bZ e;rw[ag,c,c',dg Obj.cls e1];have e3:af0 @iD=af0 @pI:=dg Obj.data e1;injection e3 with e4;rw[ae,e2];have e5:=dg asY e4;simpa using e5
def ayS(B:@g7)(c:@ie){a:aa}{vs:@O}(ha:a∈A)(e:(ck,@jg)):@m9/\aj K @lG a @mP:=(rZ,(Nt q).2.symm,@Jv,ajZ,{_,@pI,_,hk,@d,@d,@d,(d,eZ,Z),(ga,EW h2)})
def ayT(B:@g7)(c:@ie){a:aa}{vs:@O}(ha:a∈A)(e:(ck,@jh)):@m9/\b_ K @lG a @mP:=(rZ,@Jv,(Nt q).2.symm,aj0,{_,@pI,_,hk,@d,@d,(d,eZ,Z),(ga,EW h2)})
mutual
def ayU{e:BI}(B:@g7)(c:@ie):∀(d:jW)(v:ah),QE e h v d->qB d=@h->rT A v->Dw K @lG (nY v) d|.none,_,x,_,_=>(je,@cI)|.bool b,_,x,_,_=>(je,@f3)|.int i,_,x,_,_=>(je,@a3)|.str s,_,x,_,_=>(je,.str s)|.bytes b,_,x,_,_=>by cases x;have z:=Dw.byt (K:=K) (H:=@lG) b.toArray;exact z|.list ds,_,x,p,hu=>by let{a,vs,rfl,N,L}:=ajV x;let{h2,hs}:=ayS B c hu N;exact .lst hs @H2|.tuple ds,_,x,p,hu=>by let{a,vs,rfl,N,L}:=ajW x;let{h2,hs}:=ayT B c hu N;exact .tup hs @H2|.float _,_,_,p,_=>@fe|.dict _,_,_,p,_=>@fe|.bytearray _,_,_,p,_=>@fe|.set _,_,_,p,_=>@fe|.frozenset _,_,_,p,_=>@fe|.obj _ _,_,_,p,_=>@fe
def Nu{e:BI}(B:@g7)(c:@ie):(pt,Ec e h vs ds,@m9,tV K @lG @mP ds)|[],_,x,_,_=>(je,@ay)|d::ds,_,x,p,hu=>by let{v,vs,rfl,j,O}:=ajX x;rw[k1];exact .cons (ayU B c d v j q.1 (hu _ @pH)) (Nu B c ds vs O q.2 λu m=>hu u (f6 _ m))
end
end
def ayV{P:cE}{w:cn}{K:aM}{mg M:@aT}{CX:rR}{k:Nat}{g:aa}{fd:lD}{ps:@aE}{sp:Sp}{j:aF}{i:@O}{ds:@el}{R:aRO}{cl:aq->@eg}{d0:jW}(B:K.In @gy)(sf:j.heap.Ns iU mg)(hb:j.heap.Ns asW M)(U:@Ha)(Q:j.heap.NoLimit)(hg:j.gens=#[])(ll:Ec @pK @gy i ds)(dF:tW ds=@h)(L:@yc)(hr:fw k Lo)(F:∀base:bV,K.In @ba->base.Ns iU mg->(nG,k,g))(T:(pV,@dF,@kw))(bG:@iG=@dF)(D:∀(H:Hp)(xs:@F),Im H->tV K H xs ds->sp xs H (λv H'=>Dw K H' v d0) @m3)(y:∀H e s',CX [] H j @m3 e s'->@lM):zD (bv P w) Lo (.call (.ref g) ⟨i,[]⟩) (λr s'=>∃u as,r=.ok (.ret u)/\ReadsW R cl @gs u d0 as/\OldK @gy @gs/\s'.os=j.os/\Gy s'.gens) j:=by
 let{A,N,c}:=No ds i ll dF L;have t:Im @ze:=ayQ c;have hok:fT P w @ze @gy:=ayR c;have hS:=Nu B c ds i ll dF N;have S:=EW N;have J:∀b u,(bJ,mq K @gy A b)->@rf=@r:=λb u q=>(Nr c q).1;have I:∀{b:aa}{o:bA}{es:@f_}{ep:Nat},(R,@yd)->@hn->mq K @gy A b=@r:=λ{b o es ep}e d=>by
  cases q:mq K j.heap A b with
  |none=>rfl
  |some u=>
   obtain⟨_,vs,_,_,⟨e2,_⟩|⟨e2,_⟩⟩:=Nr c q;.rw[e2]at e;cases e;rw[k7];cases d'
   .rw[e2]at e;cases e;rw[k7];cases d'
 generalize@ze=H at t hok hS J I;have C:∀{b:aa}{o:bA},(R,@yd)->@bP->(R,(yh @gy H).get? b):=λe n=>awq e n;have E:∀{b:aa}{m:@aT},j.heap.Ns b m->(yh @gy H).Ns b m:=λ{b m}⟨o,es,ep,e,d,r⟩=>{o,es,ep,C e (I e d),d,r};have nK:(ix,@rf,@bP):=λb o e=>by cases q:H b with|none=>rfl|some u=>rw[J b u q]at e;cases e
 have l:K.In @A2:=λb o e=>C (B b o e) (nK b o e);have hM:Mod K mg @A2:={l,E sf,{M,E hb,U},let⟨mc,Z,h2⟩:=Q;{mc,E Z,h2}};have e0:Ae P w K mg @A2 Lo [] j H:={@d,hM,λb o e=>awr e,Lb (awp _ _),eY,λb hb=>(fl,show b∈([]:@aa)from hb),hok,.of_eq hg};have hl:i.length=@dF:=(d,Nn ll,bG);refine Qt ((F _ l (E sf)).run Lo [] j H ⟨i,[]⟩ i (i.map nY) _ _ hr e0 (T j i hl) S (D H _ t hS)) λr s' x=>?_;cases r with
 |error e=>exact(y H e s' x).elim
 |ok O=>
  cases O with
  |next=>exact l5 x
  |brk=>exact l5 x
  |cont=>exact l5 x
  |ret u=>
   let{v,H',os,bare,un,f,r',q}:=x;have a:(ix,@yd,(R,s'.heap.get? b)):=λb o e=>by
    cases q2:H b with
    |none=>exact un.keep b o e q2 (by intro z;exact(fl,@Fd)) @v
    |some G=>
     rcases t b with z|⟨ob,u3,z⟩;.rw[q2]at z;cases z
     .have z2:=un.frzs b ob _ z;let{e1,_}:=hok b _ z;let{e2,_}:=f b _ z2;rw[e]at e1;cases e1;exact e2
   have W:K.In @gs:=λb o e=>a b o (B b o e);let{as,p}:=Dw.reads (R:=R) (cl:=cl) f W d0 v u q r';exact{u,as,@d,p,OldK.of_keep a,os,bare}
def ayW{ds:@el}(h:WData.layableAll ds=@h):@yc:=λd hd=>(aVs.mp (iR.mp h d hd)).2.2
def aj1:(n7,(Ln cs a).length=@cT)|[],_=>rfl|c::cs,a=>(gk,(Ln cs a.2).length+1,@nJ,aj1 cs a.2)
def ayX{r:OpenSpec}{k:Nat}{q:cE}{b:@aE}{O:(Y,@aT,bV)}{m:(Y,cn,bV)}{d:DefRec}{K:BI->aM}{CX:cn->rR}{ps:@aE}{sp:cn->Sp}(c:r.wellSaid=@h)(n:@IH)(bG:@JO)(hr:fw k Lo)(E:@DA)(F:(rx,CX w,sp w))(D:∀(w:cn)(H:Hp)(xs:@F)(a:afY @iH),(qM,tV @m_ H xs (Ln @iH a),w,λv H'=>Dw @m_ H' v @A3))(y:∀(w:cn)(H:Hp)(s:aF)(e:ah)(s':aF),CX w [] H s @m3 e s'->@lM):@I8:=by intro w s_0 j mg M G Y g o pm cd L dV kV N hd W hD l hg args i as x C p ll Q;let{a,e1,e2}:=aVt x;let{e3,I}:=Codec.encAll_of_decAll @iH args a e1;subst e3;have B:=E w _ Y;let{fd,hb,hF}:=F w mg g _ Y B G.T.g l;refine aVu (Qt (ayV (R:=[]) (cl:=classAt s_0.heap) (d0:=@A3) B G.T.g G.T.b G.T.builtins G.T.nolimit hg ll (ajU _ _) (ayW C) hr hF hb (d,aj1,bG) (λH xs t hS=>D w H xs a t I e2 hS) λH e s'=>y w H j e s') λr' s' U=>?_);let{u,J,rfl,Z,h2,h3,h4}:=U;exact{.inl {u,_,J,@d,@bm,Z,(aVv c I _ _).mpr @d,λz=>uO (show@hE from z)},h2,h3,h4}
def ayY{r:OpenSpec}{k:Nat}{q:cE}{b:@aE}{O:(Y,@aT,bV)}{m:(Y,cn,bV)}{d:DefRec}{K:BI->aM}{CX:rR}{ps:@aE}{sp:aM->Sp}(c:r.wellSaid=@h)(n:@IH)(bG:@JO)(hr:fw k Lo)(E:@DA)(F:(rx,CX,sp @m_))(D:∀(K:aM)(H:Hp)(xs:@F)(a:afY @iH),(qM,tV K H xs (Ln @iH a),K,λv H'=>Dw K H' v @A3))(y:∀(H:Hp)(s:aF)(e:ah)(s':aF),CX [] H s @m3 e s'->@lM):@I8:=ayX (K:=K) (CX:=λ_=>CX) (sp:=λw=>sp @m_) c n bG hr E F (λw H xs a Z h2 h3 h4=>D @m_ H xs a Z h2 h3 h4) λ_ H s e s'=>y H s e s'
end L2
end
namespace Tc
open PySem PySem.Spec PyProof.Rows L2
open Vbcjac(Hand at_ comp bit Card toldRow Toks toksFrom tokens small digit valueOf cutHand turnHand dealHand everyHand imageOf done lengthAt orderOf sumAt sidesCount countOf factorial rankOrder orderIn rankSides sidesNumber exchanged through placeOf ordering downTo tour tours wayHand wayTo over_ Grid between sideOf evenIn upIn orderBad firstBad named truth fits spaced text Reached onRow State meaning rowOf leastWay)
open My(aG bH power mT e9 bt gL cd cuts wrong fM x8 kL nO jY fB iq kN rM tD qt dZ GoodG oI B1 Cs Wt fo ip rK BY jB gP pw lJ tu x_ mh j0 kM iL nQ gu fA iK im gw fq tG px HA pj signed kP z5 iB lM Rb Mc Rs iX pA wH x4 me Me CW Cm eE zT jn iV wS oH kj tq restOf g8 oJ cj mi both dc Gen zZ uX tF tE WF Sg rF di tI)
open VbcjacNeutral(nats asked1)
open PyVbcjac(whole)
variable{fd:lD}{C CP m a aB aN b c cl g d dx f f0 l W v u:aa}{K:aM}{w:cn}{P:cE}{mg:@aT}{base:bV}{n slot:Nat}{σ:L2.St}{o:HO}{α β:@az}{X:Cx}{te ty:TE}{p2 pos:cO}{N:@bh}{e:bM}{cs t vs:@o}{j:@fy}{hs:@Q}{Q:VK}{ns:@J}{os:@dy}{S:jA}{M:ax}{sp:Sp}{tt:TT}{pins:@ae}{q:db}{k:Hp}{es:@bR}{kvs:@bp}{A:dQ}{ss:@bo}{zs:(b9,qC)}{U:@aZ}{tb:TS}{ds:@aa}{E:@ac}{ys:@F}{fs:@cU}{sv:Bool}{J I:aq}
def _root_.L2.PE.out{X:L2.Cx}{e:BC}{t:L2.TE}(h:L2.PE X e t):L2.PE0 X e t:=by unfold L2.PE at h;exact h
def aH{H H':Hp}{p:aa}(s:@ab)(h:H' p=@r):ae H (ag H' p o):=(pn,s b u e)
def cF{H H':Hp}{p:aa}(s:@ab)(h:@dK):ae H (ag H' p o):=(pn,e)
def eT(x:@ar):HO:=(bW,.int (u,x.1),(av,x.2))
def dv(H:Hp)(ps:@aa)(h:ax):@u:=ps.map H=h.map λx=>some @dI
def dv.same:∀{H H':Hp}{ps:@aa}{h:ax},@gi->@ab->dv H' ps h
 |H,H',[],h,t,s=>by cases h with|nil=>rfl|cons x h=>rw[al,t,by simp[dv]]
 |H,H',p::ps,[],t,s=>@AO
 |H,H',p::ps,x::h,t,s=>by rw[iq,@gi];have ih:=dv.same t'.2 s;unfold dv at ih⊢;rw[cb,cb,ih,(as,t'.1)]
def dv.len{H:Hp}{ps:@aa}{h:ax}(t:@gi):@dF=@bq:=(hF,t)
def dv.get{H:Hp}{ps:@aa}{h:ax}(t:@gi){i:Nat}{p:aa}(hp:(C,ps,p)):∃x,(C,h,x)/\@ni:=by have e:=dg (λl=>l[i]?) t;simp only[be,hp,Gm]at e;cases e2:h[i]? with|none=>rw[e2]at e;simp at e|some x=>rw[e2]at e;exact(aD,x,@yE)
def dv.get'{H:Hp}{ps:@aa}{h:ax}(t:@gi){i:Nat}{x:@ar}(hx:(C,h,x)):∃p,(C,ps,p)/\@ni:=by have hl:=t.len;let{hi,_}:=fk.1 hx;have hp:(C,ps,ps[i]):=@em;let{y,hy,e}:=t.get hp;rw[hx]at hy;cases hy;exact{_,hp,e}
def dv.push{H:Hp}{ps:@aa}{h:ax}{p:aa}{x:@ar}(t:@gi)(e:@ni):dv H (ps++[p]) (h++[x]):=by unfold dv at t⊢;rw[bh,bh,t];simp[e]
def dv.mem{H:Hp}{ps:@aa}{h:ax}(t:@gi){p:aa}(hp:p∈ps):∃x,@ni:=by let{i,hi,rfl}:=lX hp;let{x,_,e}:=t.get @ej;exact⟨x,e⟩
def dv.upd{H:Hp}{ps:@aa}{h:ax}{D:aa}{acc:@F}{o:HO}(t:@gi)(e:(ag,D,acc)):dv @dB ps h:=by have tm:=@dv.mem H ps h t;unfold dv at t⊢;rw[<-t];rw[ak];intro p hp;rw[eP];apply aA;intro q;rw[q,e]at ex;cases ex
def Mv(H:Hp)(l:aa)(h:ax):@u:=∃ps:@aa,@tv/\@gi
def Mv.same{H H':Hp}{l:aa}{h:ax}(m:@fZ)(s:@ab):Mv H' l h:=(oN,@dw)
def Mv.nil{H:Hp}{D:aa}:Mv (aH,D,[]) D []:={[],ao,@d}
def Mv.push{H:Hp}{D p:aa}{h:ax}{x:@ar}(m:Mv H D h)(hp:@dK):∃acc,(pN,acc,acc.length,acc++[@ao],h++[x]):=by
 rw[bY];rw[k8];rw[jY];refine{@bB,hD,by simp[b.len],ps++[p],?_,?_};.rw[ao];simp
 .exact(b2.push (x:=x) ao).upd hD
def Mv.len{H:Hp}{l:aa}{h:ax}(m:@fZ):∃xs:@F,@hT/\@X=@bq:=by rw[bY];exact{_,a,by simp[b.len]}
structure Blt(mg:@aT):@u where
 range:(bA,"range")
 len:(bA,"len")
 abs:(bA,"abs")
 sum:(bA,"sum")
 all:(bA,"all")
 any:(bA,"any")
 sorted:(bA,"sorted")
 list:(bA,"list")
 str:(bA,"str")
 ord:(bA,"ord")
 enumerate:(bA,"enumerate")
 zip:(bA,"zip")
def a6(P:cE)(w:cn)(K:aM)(mg:@aT)(base:bV)(x:aq)(ps:@aE)(k:Nat)(sp:Sp):@u:=∃(f:aa)(fd:lD),@oj/\mg x=some @b0/\@j3/\@lT
def aR{x:aq}{ps:@aE}{k:Nat}{t:TA}{p:cO}(C:@Ja)(hr:@jS)(ha:@hp)(hg:@cF:=by rfl)(j:@cc:=by decide)(he:@gl:=by rfl)(dF:@ix:=by rfl):(gs,M1 sp [] E0 t):=by let{f,fd,F,hm,hk,hb}:=C;exact axg F hr hg hm hk hb @ay EV ha j he dF
def Io{lo:Int}{H1:Hp}{D:aa}(f:Nat->@ar)(hn:n<=1000)(hD:@eM)(hw:@j8)(step:∀(i:Nat)(H':Hp)(Q:VK),i<n->(il,H' p=@r,ag H' p (eT (f i)))->(g1,(T,lo+i)))(hd:(mh,Mv H' D (fa,f))):(ki,@C2,@C3,@Do):=by
 refine S7 (iy,Mv H' D (jF,f)) {@gT,Mv.nil} ?_ (lG,h.2);intro i H' hi⟨hs,hm⟩;rw[cp];simp only[kU,iQ];refine step i H' _ hi @cu;rw[fY,f i,hm,hp];rw[cW,acc,e1,(aE,aH hs hp)];.rw[e2];simp only[au,lu];exact@a2
 rw[aj,qY,bh,e3]
def Mv.cat{H:Hp}{Z h2:ax}(m1:Mv H a Z)(m2:Mv H b h2):∃xs zs,(co,a)/\(ag,b,zs)/\@X=Z.length/\@cX=h2.length/\∀p,@dK->Mv (aH,p,xs++zs) p (Z++h2):=by let{ps,a1,b1}:=m1;let{G,M,b2}:=m2;refine{_,_,a1,M,by simp[b1.len],by simp[b2.len],λp hp=>{ps++G,(r,ao,bh),?_}};have c1:=b1.same @GQ;have c2:=b2.same @GQ;unfold dv at c1 c2⊢;rw[bh,bh,c1,c2]
def Mv.at{H:Hp}{h:ax}(m:@fZ){i:Nat}(hi:@jI):∃xs p,aj K H l xs/\(bz,xs,@aL,@ao)/\(bj,eT @bK):=by rw[bY];rw[jZ];exact{_,p,aj.of a,EQ (dg,e1),e2}
def qD{H:Hp}{p:aa}{x:@ar}(e:@ni):(cc,p,[.int (u,x.1),(dn,x.2)]):=b_.of e
def aj2(a b:Bool):((av,a)+(av,b))%2=(av,a !=b):=@G0
def wX{xs:@F}{g:TG}{D:Ends}{H:Hp}(Pv:Nat->@eL)(h0:@nR)(hl:(h5,@bO))(hs:∀i x σ H T,@dl->@iQ->@ld->(o2,ag H T (bV,x)))(hd:@oW):(iD,@eL,W 0 m σ H,(iH,(Ai K a).stop i H,(Ai K a).go i H,@eL,@IM)):=by
 rw[ci,@sh];rintro i m σ H⟨rfl,hi,p⟩;have q:=@xf;by_cases bn:@hS;.rw[cB,@xB,@Du,@wC];let{T,x,rfl,hT,rfl,y}:=y;exact hs i x σ _ T @qT p hT
 .rw[bx,@X];subst e;exact(bC,{xs,q,@L},@wO)
def jd{t:TT}(h:PW X e t):PT X e t:=by unfold PT;unfold PW at h;exact λpins s σ H Q I hw=>h _ @P s σ H Q I hw
def Ce{c:TT}{D:Ends}{H:Hp}(Pv:@eL)(μ:@kj->Hp->Nat)(h0:Pv σ H)(hs:∀σ H,Pv σ H->(nX,@eL,∃m',m'<μ σ H/\m'=μ σ' H'/\Pv σ' H')):Sx c tb D σ H:=by rw[ab,λm σ H=>m=μ σ H/\Pv σ H,(am,h0)];rintro m σ H⟨rfl,p⟩;exact hs σ H p
def Mv.set{H:Hp}{D p:aa}{h:ax}{x:@ar}(m:Mv H D h)(hp:@dK)(j:Nat):∃xs,(pN,xs,@X,xs.set j @ao,h.set j x):=by rw[bY];rw[k8];rw[jY];refine{@bB,hD,by simp[b.len],ps.set j p,(r,ao,wj),?_};refine dv.upd ?_ hD;unfold dv at b2⊢;rw[wj,wj,b2,ao]
def pF{t u:TT}{H:Hp}{Q:@fS}(a b:Bool)(Z:@ER)(h2:@In)(h:Q (a||b) H):tOr t u σ H Q:=(kD,?_,h,h2 _ h)
def EX{t u:TT}{H:Hp}{Q:@fS}(a b:Bool)(Z:@ER)(h2:@In)(h:Q (a&&b) H):aiZ t u σ H Q:=(kD,?_,h2 _ h,h)
def ft(a b:Int):(B,V.int a,V.int b)=(B,a,b):=(sB,V.int.inj q)
def Th(b:Bool):(B,(bq,@b1),V.int 1)=b:=by rw[ft];cases b<;>rfl
def cW(h:@dz:=by rfl):tQ X (SQ K):=(eF,ajn)
def jo(h:@dz:=by rfl):tQ X (SR K):=(eF,ajo)
def qE(h:@dz:=by rfl):SN X (ajq K):=(eF,axF)
def bP(h:@dz:=by rfl):(sK,aj K H p ys\/(cc,p,ys)):=(eF,axJ)
def ku{k:Nat}{t:yi}(hc:@du)(hp:MU X es t)(h:@dz:=by rfl)(hn:@D1:=by rfl)(dM:@Gw:=by rfl):(qS,K):=(eF,awI hc hp hn dM)
def aQ{ta:TE}{f:aq}(he:PE X e ta)(hb:@HX)(h:@dz:=by rfl):PE X @BS (ajc K ta f):=(eF,axc he hb)
def inS(h:@dz:=by rfl):(c6,.In,M_ K @K):=(eF,axH)
def aj3:∀(l:@O)(f:Nat->Int),(n9,l,∃t,v=K4 (f j) t)->bi (a2,@R,V.int (f i)) l|[],f,_=>@ay|v::l,f,h=>by rw[cX,KG,cb,bC];exact .cons (h 0 v @d) (aj3 l (λj=>f @aj) λj v e=>h @aj v e)
def Ti:(e0,.type "range",∃i j:Int,xs=[@a3,@k3]/\(lD,.rng i j)):=by intro pins s σ H xs us Q I r h;let{i,j,rfl,q}:=h;cases r with|cons r D=>cases D with|cons r' D=>cases D;rw[bT];let{t',rfl}:=r';refine aQy (Q,@cq,_,I.laid @m5 @L (qn,.rng i j,{_,_,_,@c3}),@n6)
def Tj(hc:@du):(e0,@kp,∃(p:aa)(i j:Int),xs=[@ao]/\(bj,.rng i j)/\@ID/\(c1,@o4)/\(nx,(dh,(br @o4).map λ(k:Nat)=>V.int (i+@av)))):=by
 intro pins s σ H xs us Q I r h;let{p,i,j,rfl,hp,{Z,h2,h3,h4},hl,q}:=h;rw[d7];cases J;let{t,u,v,hg}:=(c2,p,hp);refine PySem.call_list_range (n:=@o4) @cn hg (aQw Z h2 h3 h4) @D9 @e λh' tk d c' kp e it=>?_;rw[bV,@cq,I.laid kp @L (show(hw,_,_,.lst _)from{?_,@l_,c',?_,?_}),@n6];.simp only[au,lu];exact cU hl (eY,100000<=a7)
 .have hsz:d.toList.length=@o4:=(ga,it.1);rw[<-hsz];refine aj3 _ (λ(k:Nat)=>i+@av) λa b e=>?_;let{t,ht}:=it.2 a b @yE;exact{t,(aX,ht)}
 .simpa using e
def Tk{K:aM}{H:Hp}:∀ns:@J,Cc K H @bN @x8|[]=>@ay|n::ns=>.cons @dd (Tk ns)
def shaped_ints(ns:@J):QA (.list @x8)=@h:=by induction ns with|nil=>rfl|cons n ns ih=>exact ih
def aj4:∀ns ms:@J,QG @x8 (ms.map af1)=(B,ns,ms)|[],[]=>by simp[QG]|[],_::_=>by simp[QG]|_::_,[]=>by simp[QG]|n::ns,m::ms=>by simp only[cb,QG,Lh,aj4 ns ms];simp[Bool.beq_eq_decide_eq]
def ay0(ns ms:@J):Lh (.list (ns.map .int)) (.list (ms.map .int))=(B,ns,ms):=(r,Lh,aj4)
def Tl(p:@nW)(f:α->β){l:@as}{i:Nat}{x:α}(hx:(C,l,x)):(m1,@A)=(m1,i)++(L,p x,[f x],[]):=by rw[Gj,hx];simp only[BJ,af2,bh,kf,aP7];split<;>simp
def oP(c:α->V)(l:@as)(p:@nW)(f:α->V){H1:Hp}{D:aa}(hl:@n0)(hD:@eM)(U:@n9)(hw:@j8)(ht:(n_,z,tt (kY,@m0) H' Q))(step:(pd,f z,(g1,@m0)))(hd:(hx,(l.filter p).map f)):(er,@py,@pz,@pD,(lj,λI H2=>@v9)):=by rw[jw,(iy,(b0,(m1,i))),{@gT,ao}];rintro i x H' hx⟨hs,hm⟩;rw[ff];rw[P,hw _,ht i z H' _ hz hs λH3 h3=>?_];have s3:=@ye;have m3:=h3 _ _ hm;cases hp:p z with|true=>rw[ar,(hZ,z,H3,hz,s3,m3,(aE,s3.trans h4))];rw[gT,(((l.take i).filter p).map f).length,(fp,(cH,cU (d,eD,Ed _ _) hl))];.rw[ao,Tl p f hz,hp,(@ax)]|false=>rw[aw,{s3,?_}];rw[m3,Tl p f hz,hp];simp
def dB{x:aq}{i:Int}(h:∃t,(gQ,@mS))(hg:@cF:=by rfl)(hd:@cc:=by decide):(kd,@a3):=(ok,@a3)
def ay1{x:aq}{i:aq}(h:∃t,(gQ,.str i t))(hg:@cF:=by rfl)(hd:@cc:=by decide):(kd,.str i):=(ok,.str i)
structure Glb(mg:@aT):@u where
 MOST_CARDS:(ba,"MOST_CARDS",52)
abbrev IL(K:aM)(H:Hp)(a:aa)(ns:@J):@u:=(dF,@bN)
def aj6(c ms:@J)(f:Int->Int->V){Y s2:Nat}{H1:Hp}{D:aa}(hl:(c1,@cJ))(he:@cJ=@rh)(hD:@eM)(U:aj K H1 a (c.map @aJ))(B:aj K H1 b @nD)(hw:@Ct)(step:∀(i:Nat)(x y:Int)(H':Hp)(Q:VK),(C,c,x)->(C,ms,y)->@d_->(gV,f x y)->te (iG,(T,x),(T,y)) H' Q)(hd:(hx,(c.zip ms).map @xx)):@H8:=by
 have hz:(c.zip ms).length=@cJ:=(af,afe);rw[h9,@cJ-i,@cJ,(oa,i),@cJ];rintro i m H⟨rfl,hi,hs,hm⟩;by_cases bn:i<@cJ;.rw[hW,{_,_,V.int c[i],V.int ms[i],@nE,hs.seq B,@mH,by simp[show i<ms.length by omega]},(oa,@A),@cJ];let{T,x,y,rfl,hT,rfl,e1,e2}:=y;have e1:=e1 _ @nE;have e2:=e2 _ (hs.seq B);have g1:(C,c,c[i]):=bX bn;have g2:(C,ms,ms[i]'@e):=@em;rw[be,g1]at e1;rw[be,g2]at e2;cases e1;cases e2;rw[ho];simp only[kU,iQ];rw[fZ,@Fr];have m2:=(fJ,@Fr,@bj,hT,hm);refine step i _ _ _ _ g1 g2 s2 λH4 h4=>{_,h4 _ _ m2,?_,(aE,s2.trans h4),?_};rw[gT,(((c.zip ms).take i).map @xx).length,(jX,eD)];.rw[ao,My.qo _ (show(C,c.zip ms,(c[i],ms[i]'@e))by rw[aRW];exact⟨g1,g2⟩)]
 .rw[bx,@cJ];subst e;rw[hQ,{_,_,@nE,hs.seq B,.inl @v}];rw[<-hz,gn]at hm;exact hm
def told(c:cQ):Int:=@CK
def fC(r:db):bI r=r.map told:=@d
def vm(c:cQ):(if@ci<0 then-@ci else@ci)=(u,@cK):=by let{n,u}:=c;unfold told;cases u<;>simp<;>omega
def ay2{c:cQ}(h:@kT):(ap,@ci,0)=@ce:=by let{n,u}:=c;unfold told;cases u<;>simp at h⊢<;>omega
def gG(P:cE)(w:cn)(K:aM)(mg:@aT)(base:bV)(C:aa)(m:aq)(ps:@aE)(k:Nat)(sp:Sp):@u:=∃(f:aa)(fd:lD),@oj/\EM K C m f/\@lT/\@fk
def i7{m:aq}{ps:@aE}{k:Nat}{o:bM}{ta:TE}{t:TA}{apos:cO}{pl:@k5}(M:@Jb)(hr:@jS)(he:@rI)(ha:@hp)(dM:@gl:=by rfl)(dF:@ix:=by rfl)(ht:@Fb:=by rfl):(kT,@fv,[],E0,t):=(qb,axh he c hm F hr hb @ay EV ha dM dF ht)
def vn(P:cE)(w:cn)(K:aM)(mg:@aT)(base:bV)(x:aq)(C:aa)(ps:@aE)(k:Nat)(sp:Sp):@u:=∃(f:aa)(fd:lD),@oj/\Mk K C f/\mg x=some @ea/\@lT
def Ak{x:aq}{ps:@aE}{k:Nat}{t:TA}{p:cO}(N:@Jc)(hr:@j2)(ha:@hp)(hg:@cF:=by rfl)(j:@cc:=by decide)(he:@gl:=by rfl)(dF:@ix:=by rfl):(gs,HN C sp [] E0 t):=(qc,axj M F hr hg hm hb @ay EV ha j he dF)
def ay3{x:aq}{ps:@aE}{k:Nat}{p:cO}(N:@Jc)(hr:@j2)(hg:@cF:=by rfl)(j:@cc:=by decide):(gI,@iT,[],HN C sp [] E0 yk):=(qc,axk M F hr hg hm hb @ay EV j)
def To(p:α×Nat->@an)(f:α×Nat->β){l:@as}{i:Nat}{x:α}(hx:(C,l,x)):(kq,@A)=(kq,i)++(L,p (x,i),[f (x,i)],[]):=Tl p f (eJ,aPV,hx)
def Nv(c:α->V)(l:@as)(p:α×Nat->@an)(f:α×Nat->V){Y s2:Nat}{H1:Hp}{D:aa}(hl:@n0)(hD:@eM)(U:@n9)(hw:@Ct)(ht:(n_,(z,i),tt (iG,(aB,i),@m0) H' Q))(step:(pd,f (z,i),te (iG,(aB,i),@m0) H' Q))(hd:(hx,(l.zipIdx.filter p).map f)):(ta,(Ai K a).stop i H,(Ai K a).go i H,@IM,λI H2=>@v9):=by
 have hz:l.zipIdx.length=@R:=Lp;rw[h9,@jK,@R,(kq,i),@R];rintro i m H⟨rfl,hi,hs,hm⟩;by_cases bn:i<@R;.rw[hW,{_,c l[i],@nE,@mH},(kq,@A),@R];let{T,x,rfl,hT,rfl,e1}:=y;have e1:=e1 _ @nE;have g1:(C,l,l[i]):=bX bn;rw[be,g1]at e1;cases e1;rw[fZ,(bV,c l[i])];have m2:=(fJ,(bV,c l[i]),@bj,hT,hm);rw[ho];refine ht i _ _ _ g1 s2 λH3 h3=>?_;have s3:=s2.trans h3;have m3:=h3 _ _ m2;cases hp:p (l[i],i)with|true=>rw[ar,(hZ,_,H3,g1,s3,m3,(aE,s3.trans h4))];rw[gT,(((l.zipIdx.take i).filter p).map f).length,(fp,(cH,@tj))];.rw[ao,To p f g1,hp,(@ax)]|false=>rw[aw,{s3,?_}];rw[m3,To p f g1,hp];simp
 .rw[bx,@R];subst e;rw[hQ,{_,@nE,@v}];rw[<-hz,gn]at hm;exact hm
def pG(P:cE)(w:cn)(K:aM)(a:aa)(kvs:@bp):@u:=(a==nB)=@K/\∃(o:bA)(vs:@rV),@oP/\@fa/\∀h:bV,@kI->h.DictOf @ei a vs
def Nw{x:aq}{i:bM}{p:cO}(hm:@r2)(hk:@vI)(hi:@ht)(hs:Nk i)(hg:@cF:=by rfl)(hd:@cc:=by decide):(fY,@iT,i,(rq,@HB)):=by unfold PE at*;intro pins s σ H Q I h;rw[fB];refine S9 atB.lookup hs (rM,@HB,(lX,λF s2⟨y,H2,I2,B,k,v,n,l,q2⟩=>?_));subst ex;rw[bg];subst n;have M:=dd _ (I2.kIn a o G);rw[ae,M.typeIs];rw[ea,Eb vs k,@JZ];exact aRl (vf B) M.mapOf hw {v,H2,I2.tok _,V,q2}
def aj7{x:aq}{f:bM}{tx:TE}{p apos mG:cO}(hm:@r2)(hk:@vI)(he:PE X e ty)(hf:PE X f tx)(m:M2 X @iT "get" apos e f mG)(hg:@cF:=by rfl)(hd:@cc:=by decide):(lz,.Call (eq,@iT,"get") [e,f] [] mG,ty σ H λy H2=>@HD):=by
 unfold PE at*;intro pins s σ H Q I h;rw[fB];refine wpAny_Call_method m.base m.few m.line aVw aRX aVx (rM,@HD,?_);subst ex;rw[bg];have j:=dd _ (L.kIn a o G);rw[ab,j.typeIs,λb q=>?_];.cases q;let{ob,_,_,Z,h2,_}:=j;exact⟨ob,Z,h2.2.1⟩
 rw[m.trees];refine afK @d (att (Qr (qO,λF s2⟨y,H2,I2,B,q2⟩=>Qr (bx (hf @P s2 σ H2 _ I2 q2) λl s3⟨z,H3,I3,g,k,n,q3⟩=>afD ?_))));subst n;have i:=dd _ (I3.kIn a o G);exact aRY aRX i.typeIs aVy (aVz _ _ _) (meets_dict_get_default @hu a (vf B) c l) {_,i.mapOf,{_,H3,I3.tok _,(rel.val k).getD g,q3}}
def ay4{i k:Nat}{x:aq}{t:TA}{p:cO}(hr:@jS)(ha:@hp)(S:@jO:=by rfl)(hv:@uG:=by first|exact ak rfl|exact al (ak rfl)|exact al (al rfl))(j:@cc:=by decide)(W:@yX:=by decide)(he:@gl:=by rfl)(dF:@ix:=by rfl):(gs,λσ H Q=>∃(f:aa)(fd:lD)(ps:@aE)(sp:Sp),(C,σ,(J,f))/\(ir,a8)/\uM X.K @b0=@h/\@tV/\M1 sp [] E0 t σ H Q):=by unfold PE PA at*;intro pins s σ H Q I h;let{f,fd,ps,sp,hi,F,hk,hb,h}:=h;refine BE (bx ((aiY S hv j W).out @P s σ H (λv H1=>v=@b0/\H1=H) I {_,hi,@d,@d}) λu Y⟨v,H1,L,rv,z,D⟩=>?_);subst z D;obtain rfl:u=cy f:=rv;rw[h1,hk,bx (ha pos @P Y σ H1 _ L h) λus s2⟨vs,H2,I2,r,q⟩=>{I2.kIn,?_}];exact M5 F hr hb @ay EV I2 r q
def aj8(w:cn)(e:rn)(p:aW×V):@u:=RelV (kV p.1) e.key/\e.hash=gE w p.1/\RelV p.2 e.val
def aj9{P:cE}{w:cn}:∀{es:List rn}{kvs:@bp},Paired (aj8 w) es kvs->∃vs:@rV,@fa/\Pairs @ei es vs/\vs.map @aA=kvs.map @aA/\∀e∈es,∃k,(g9 P w).is k e.key=@h/\e.hash=(g9 P w).hash k
 |_,_,.nil=>(Q,[],@ay,@ay,λ_ q=>@wg)
 |e::es,p::kvs,.cons h t=>by
  let{vs,a,b,c,d}:=aj9 (P:=P) t;refine{(p.1,e.val)::vs,.cons (al,@mp) a,.cons (vf h.1) @d b,by simp[c],λF q=>?_};rcases de.mp q with q|q;.subst q;exact{p.1,vf h.1,@eK}
  .exact d F q
def Ip{o:bA}{es:@f_}{ep:Nat}(hs:(bS,a,nB))(G:@oP)(hx:o.ExactDict)(hd:@hn)(hp:Paired (aj8 w) es.toList kvs)(hn:(kvs.map @aA).Nodup):(dy,a,kvs):=by let{vs,x,y,z,u}:=aj9 (P:=P) hp;exact{hs,o,vs,G,x,λh g=>{_,es,ep,g,hx,hd,λe q=>u e (aQD.mpr q),y,(eG,z)}}
def iG{f:aq}(h:@Am:=by k_is):(ak,f):=h
def ay5{xs:@F}{o:bA}{aD:@cj}(G:@oP)(hc:@iB=@dR)(hd:@eQ=.seq aD n)(hz:aD.size<=a7)(hv:@AV):∀H,@fc:=λ_=>.inr ⟨o,aD,n,G,hc,hd,hz,hv⟩
structure Cf(mg:@aT):@u where
 LETTERS:∃t,mg "LETTERS"=some (.str "abcdefghijklmnopqrstuvwxyz" t)
 FIRST_LETTER:(ba,"FIRST_LETTER",97)
 FIRST_DIGIT:(ba,"FIRST_DIGIT",48)
 BLANK:(ba,"BLANK",32)
 LINE_END:(ba,"LINE_END",10)
 MOST_DIGITS:(ba,"MOST_DIGITS",13)
def signs:@bp:=[(.inl 40,.str "("),(.inl 41,.str ")"),(.inl 59,.str ";")]
structure Dic(P:cE)(w:cn)(K:aM)(mg:@aT)(l:aa):@u where
 SIGNS:mg "SIGNS"=some @bb
 SIGNS_d:(dy,l,signs)
def oQ(t:@o):@an:=(bY,@ah,13)&&@B8
def bQ(b:Nat):aq:=if@j_ then"word"else if@lU then"number"else if@pl then"blank"else(cv,b,40,"(",b,41,")",(H,b,59,";","wrong"))
def ay6(b:Nat):(cB signs (bG,b)).getD (.str "wrong")=V.str (H,b,40,"(",(cv,b,41,")",b,59,";","wrong")):=by
 unfold cB signs;by_cases Z:b=40;.subst Z;rfl
 .by_cases h2:b=41;.subst h2;rfl
  .by_cases h3:b=59;.subst h3;rfl
   .rw[(@cl),(@fb),af h3];have e1:(mT,40):=λq=>Z @rA;have e2:(mT,41):=λq=>h2 @rA;have e3:(mT,59):=λq=>h3 @rA;simp[e1,e2,e3]
def fu(a b:aq):(B,V.str a,V.str b)=(B,a,b):=(sB,V.str.inj q)
abbrev BL(K:aM)(H:Hp)(a:aa)(t:@o):@u:=(dF,t.map @aY)
def hX(k:aq):@o->Nat|[]=>0|b::r=>(H,@cS,k,hX k r+1,0)
def bw(t:@o)(p:Nat):Nat:=if@aW="word"\/@aW="number"then p+1+hX @aW @hO else p+1
def Tp(k:aq):(d4,(g_,hX k l))
 |[]=>@L
 |b::r=>by
  unfold hX;split;.simpa using Tp k r
  .exact@aO
def Tq(k:aq):∀(l:@o)(j:Nat),j<hX k l->bQ (ch,j)=k
 |[],j,h=>by simp[hX]at h
 |b::r,j,h=>by
  unfold hX at h;split at h;.next hb=>cases j with|zero=>exact hb|succ j=>exact Tq k r j @e
  .omega
def aka(k:aq):∀(l:@o),(cD,hX k l)->bQ (ch,hX k l)≠k
 |[],h=>by simp[hX]at h
 |b::r,h=>by
  by_cases hb:@cS=k;.rw[E,hX k (b::r),hX k r+1,by simp[hX,hb]];rw[e]at h⊢;exact aka k r @c7
  .have e:hX k (b::r)=0:=by simp[hX,hb]
   rw[e];exact hb
def drop_getD(t:@o)(p j:Nat):(t.drop p).getD j 0=(ek,p+j):=(aA,dy,dy,KH)
def Iq{i:Nat}(hi:i<@ah):(bz,t.map @aY,@aL,(b6,(ek,i))):=EQ (by rw[be,dy,(@ej)];rfl)
def vo(t:@o):aq:=⟨t.toArray⟩
def ay7{b:Nat}(Z:97<=b)(h2:b<123):(bz,@Ji,@hX-97,b):=by rw[E,@hX-97,(A,b-97),@e];rw[e];refine EQ ?_;have key:∀j,j<26->(ah,@Ji,97+j):=@aG;rw[key (b-97) @e];congr 1;omega
def ay8(t:@o):QD "" (t.map @o3)=vo t:=by
 have key:∀t:@o,TL.Il [] (t.map λb=>[b])=t:=by intro t;induction t with|nil=>rfl|cons b t ih=>cases t with|nil=>rfl|cons c t=>show[b]++([]++TL.Il [] ((c::t).map λb=>[b]))=_;rw[ih];rfl
 have h:TL.tl (QD "" (t.map @o3))=t:=by rw[TL.ayG,TL.ajP,bC];exact key t
 have e:∀x:aq,TL.tl x=t->x=vo t:=by intro x hx;cases x with|mk c=>have:c.toList=t:=hx;unfold vo;rw[bj]
 exact e _ h
structure Pc where
 kind:aq
 place:Nat
 spelt:@o
 word:aq
 number:Nat
def pf(kd:aq)(pl:Nat)(sp:aa)(J:aq)(nm:Nat):@cU:=[("kind",.str kd),("place",.int pl),("spelt",.ref sp),@BE,("number",.int nm)]
def EY(C:aa)(H:Hp)(p:aa)(x:Pc):@u:=∃dx sp,@Iq/\@D4/\@yO
inductive yn(C:aa)(H:Hp):(Y,@aa,@cQ)|nil:yn C H [] []|cons{p x ps xs}:EY C H p x->@pn->yn C H (p::ps) @lj
def yn.len{H:Hp}{ps:@aa}{xs:@cQ}(h:@pn):@y9:=@C5
def yn.get{H:Hp}{ps:@aa}{xs:@cQ}(h:@pn){i:Nat}{p:aa}(hp:(C,ps,p)):∃x,@dl/\EY C H p x:=@HH
def spelt(t:@o)(p e:Nat):@o:=(t.drop p).take (e-p)
def gb(t:@o)(p e:Nat):Pc:=let k:=@aW;let s:=@rF;{(H,k,"number",(j0,oQ s,k),k),p,s,(H,k,"word",vo s,""),(H,k,"number",(L,oQ s,o_ s,0),0)}
def fN(t:@o):Nat->Nat->@cQ|0,_=>[]|f+1,p=>if@eB then@vw++(ez,f)else[]
def Cg(t:@o)(p:Nat):p<@aN:=by unfold bw;split<;>omega
def EZ{p:Nat}(h:@eB):@aN<=@ah:=by
 unfold bw;split;.have:=Tp @aW @hO;rw[ik]at this;omega
 .omega
def akb(t:@o):∀(f p:Nat),@ah<=f+p->fN t (f+1) p=fN t f p|0,p,h=>by show@u5=[];rw[bX]|f+1,p,h=>by have hg:=Cg t p;show(s7,f+1)=(s7,f);rw[akb t f @aN @e]
def akc{p:Nat}{k:aq}(hk:@aW=k)(hw:@pf)(hp:@eB):∀x∈@dL,bQ x=k:=by intro x hx;unfold spelt at hx;let{j,hj,rfl}:=lX hx;simp only[eD,ik]at hj;rw[asx,asw];rw[E,t[p+j]'@e,(ek,p+j),(d8,bX)];rw[e];rw[ky];cases j with|zero=>exact hk|succ j=>have:=Tq k @hO j @e;rw[drop_getD]at this;rw[(v,p+@aj=p+1+j)];exact this
def tokOf(x:Pc):Lq:=(H,@be,"word",.word @d4,(cv,@be,"number",@xO,@be,"(",@fM,(cv,@be,")",@iZ,@be,";",@f9,@eP)))
def vp:@cQ->fP|[]=>[]|x::xs=>@Cd
def Ny(b:Nat):small b=(B,@cS,"word"):=by
 unfold small bQ;by_cases h:@j_;.rw[ai h,(@gP),(@eG)]
 .rw[af h,(@g5)];symm;apply cG;repeat' split
  all_goals decide+kernel
def E1(b:Nat):Bs b=(B,@cS,"number"):=by
 unfold Bs bQ;by_cases h:@j_;.rw[ai h,(@g5),cG @aG]
 .rw[af h];by_cases h2:@lU;.rw[ai h2,(@gP),(@eG)]
  .rw[af h2,(@g5)];symm;apply cG;repeat' split
   all_goals decide+kernel
def akd{q:@bv}{k:aq}(U:@Ho):(d4,l.takeWhile q=l.take (hX k l))
 |[]=>rfl
 |b::r=>by
  rw[aRZ,U];by_cases h:@cS=k;.rw[E,hX k (b::r),hX k r+1,by simp[hX,h]];rw[e,(@h_),akd U r];simp
  .have e:hX k (b::r)=0:=by simp[hX,h]
   rw[e,cG h];simp
def Tr{p:Nat}(h:@eB):@sR=@kl::@hO:=by rw[v_ h,dy,bX h];rfl
def ake{p:Nat}{k:aq}(h:@eB)(hk:@aW=k)(hw:@pf){q:@bv}(U:@Ho):@DB=@dL/\@A4=@aN-p/\(t.drop p).drop @A4=t.drop @aN:=by
 rw[ky];have hr:hX k @sR=@jf+1:=by rw[Tr h];show(H,@aW,k,@jf+1,0)=_;rw[ai hk]
 have fG:=EZ h;rw[cJ];rw[ah,@DB,@dL,by rw[akd U,hr];unfold spelt;congr 1;omega];rw[ag,@A4,@aN-p,by rw[e1];unfold spelt;rw[eD,ik];omega];rw[ab,e1,e2];rw[e2,Gr];congr 1;omega
def ay9(t:@o)(f:Nat){p:Nat}(h:@ah<=p):fN t f p=[]:=by cases f with|zero=>rfl|succ f=>show@u5=[];rw[bX]
def ay_(t:@o)(f:Nat){p:Nat}(h:@eB):fN t (f+1) p=@vw++(ez,f):=(fH,@u5,h)
def Ts{p:Nat}(Z:¬@aW="word")(h2:¬@aW="number"):@aN=p+1:=by unfold bw;rw[af (by intro z;rcases z with z|z;exact Z z;exact h2 z)]
def akf(t:@o):∀(f g p:Nat),p<=@ah->@ah<f+p->@ah<=g+p->QH f p @sR=vp (fN t g p)
 |0,g,p,_,h,_=>@e
 |f+1,g,p,hp,hf,hg=>by
  rcases dH p t.length with bn|yI
  .obtain⟨g',rfl⟩:∃g',g=g'+1:={g-1,@e};rw[cJ];have fG:=EZ bn;have ih:=λ(e:bw t p<=t.length)=>akf t f g' @aN e @e @e;rw[ay_ t g' bn];generalize hc:@kl=c;have k:@sR=c::@hO:=(G,hc,Tr bn);by_cases ie:c=32\/c=10
   .have hk:bQ c="blank":=by unfold bQ;rw[(@bd),(@bd),ai ie]
    have he:@aN=p+1:=Ts @GU @GU;rw[ai hk,Bt,he,k];unfold QH;rw[ai ie,<-he,ih fG]
   .have m:¬bQ c="blank":=by
     intro z;unfold bQ at z;repeat' split at z
     all_goals first|rw[al,z,@aG]|(apply ie;assumption)
    rw[af m];show _=(@ii,p)::(H,@ii,@eP,[],vp (ez,g'));have F:@uv=(H,bQ c,"number",(j0,@ju,bQ c),bQ c):=by rw[<-hc];rfl
    have o:@vp=@dL:=rfl;have i:@ps=(H,bQ c,"number",(L,@ju,wt @dL,0),0):=by rw[<-hc];rfl
    by_cases hs:bQ c="word"
    .let{G,r2,D}:=ake bn (d,hc,hs) @aK Ny;have xx:¬bQ c="number":=(le,hs);have a:@ii=.word @dL:=by unfold tokOf;rw[F,af xx,ai hs,o]
     rw[k]at G r2 D⊢;unfold QH;rw[af ie,ai (r,Ny,bq hs)];dsimp only;rw[a,(@jp),<-ih fG];rw[D,G,show p+@iA=@aN by rw[<-G,r2];omega]
    .by_cases hd:bQ c="number"
     .let{G,r2,D}:=ake bn (d,hc,hd) @dU E1;have C:(spelt t p @aN).getD 0 0=c:=by rw[<-G,k,aRZ,E1,bq hd];rfl
      have eI:@iA=@aN-p:=(G,G,r2);have n:(13<@iA\/(c=48/\1<@iA))↔¬@ju=@h:=by unfold oQ;rw[C,dJ,mN,bU,bU,bU];omega
      rw[k]at G r2 D⊢;unfold QH;rw[af ie,af (eJ,Ny,cG hs),ai (r,E1,bq hd)];dsimp only;rw[D,G];by_cases m:@ju=@h
      .have a:@ii=.num (wt @dL):=by unfold tokOf;rw[F,ai hd,ai m,af hs,ai hd,i,ai hd,ai m]
       rw[(cG,n.1 z m),a,(@jp),<-ih fG,(v,p+@iA=@aN)]
      .have a:@ii=@eP:=by unfold tokOf;rw[F,ai hd,af m];rfl
       rw[ai (n.2 m),a,(@ax)]
     .have he:@aN=p+1:=Ts (d,hc,hs) (d,hc,hd);have l:bQ c=(cv,c,40,("(":aq),c,41,(")":aq),(H,c,59,(";":aq),("wrong":aq))):=by unfold bQ;rw[af (λz=>hs (by unfold bQ;rw[ai z])),(cG,hd (by unfold bQ;rw[af (λy=>hs (by unfold bQ;rw[ai y])),ai z])),af ie]
      rw[k];unfold QH;rw[af ie,af (eJ,Ny,cG hs),af (eJ,E1,cG hd)];have j:@uv=bQ c:=(r,F,af hd);by_cases b:c=40\/c=41\/c=59
      .have a:@ii=.sign c:=by unfold tokOf;rw[j,l];rcases b with z|z|z<;>subst z<;>rfl
       rw[ai b,a,(@jp),<-ih fG,he]
      .have a:@ii=@eP:=by
        have d:bQ c=("wrong":aq):=by rw[l,(cG,b (.inl z)),(cG,b (jJ,z)),(cG,b (az,z))]
        unfold tokOf;rw[j,d];rfl
       rw[af b,a,(@ax)]
  rw[ay,ay9 t g yI,wb yI]
def akg(t:@o):@dA=vp @pd:=(gj,akf t @ta @ah 0 @aO @e @e,mM)
def aza{H H':Hp}{ks:@fA}(h:qv H b ks)(ht:∀c ys,(cC,c,ys)->(bl,c,@hU)):qv H' b ks:=let⟨ps,u,v⟩:=h;@GV
def Ir{H:Hp}{h:bV}{ks:@fA}(ok:@cG)(e:qv H a ks):(nestKind @ei).is h ks a:=by
 let{ps,e,all}:=e;rw[jb,.tup @bB];refine{o,@aR,n,Z,h2,h3,?_};have key:∀{ps:@aa}{ks:@fA}{aD:@O},@EK->bi @bB aD->ItemsNest @ei h ks aD:=by intro ps ks aD q;induction q generalizing aD with|nil=>intro r;rw[xG]at r;cases r;exact@ay|@cons p k ps ks hp t ih=>intro r;rw[cb]at r;cases r with|cons hv tv=>obtain rfl:=(show _=cy p from hv);exact .cons (ym ok hp) (ih tv)
 have:=key all r;simpa using this
abbrev KN(H:Hp):(Y,@hf,@n4):=Paired λp q=>@G8
def KN.val{H:Hp}{kvs:@hf}{xs:@n4}(r:@vg)(k:@fA):km @gN @vo:=@I0
def KN.new{H:Hp}{kvs:@hf}{xs:@n4}(r:@vg)(k:@fA){y:V}{u:ah}(hb:qv H b k)(B:@dQ)(hn:@rt):KN H (kvs++[(k,y)]) (atA xs k b u):=by
 have e:(oC xs k)=@r:=by have:=km.none_of (G,hn,r.val k);cases h:oC xs k with|none=>rfl|some p=>rw[h]at this;cases this
 rw[storedH_new e];exact@Fm
def KN.keeps{H H':Hp}{kvs:@hf}{xs:@n4}(r:@vg)(ht:@Ga):KN H' kvs xs:=(sq,aza @aF ht)
def Iu{H:Hp}{h:bV}{kvs:@hf}(ok:@cG)(e:@rC):(lh,∃xs,@vg/\h.DictOfH (nestKind @ei) a xs):=(r_,(f2,@hR,ok a _ e),@hf,@n4,KN H l m,(nestKind @ei).is h x.1 @bw,Ir ok (G,U.1,U.2.1))
section
variable{H:Hp}{s:aF}{kvs:@hf}{k:@fA}{v:V}{r:ah}
def Tt(hu:@r4):(nestKind @hu).room @l0:=hu
def azb{Q:@ac}(hu:@r4)(I:@I)(e:@rC)(M:qv H b k)(l:@gN=some v)(h:@Gb):(cP,GH @W @aH):=by rw[gO];rw[ea,@vo,@JZ];let{p,hp,b7}:=atv.mp hw;refine aRm @A6 @A5 dd hp ?_;rw[b7];exact@Ca
def azc{Q:@ac}(hu:@r4)(I:@I)(e:@rC)(M:qv H b k)(h:(na,!(f5,k))):(cP,mR @kf @aH @W):=by rw[gO];refine aRp @A6 @A5 hd dd ?_;have q:=@m8;rw[BH]at q;rw[<-q];exact h _ @dj
def azd{Q:@le}(hu:@r4)(I:@I)(e:@rC)(M:qv H b k)(rv:RelV v r)(hn:@rt)(hl:@yT)(h:(oP,@JU)):(cP,afy @W @aH r):=by rw[gO];rw[iW];refine(ps,@A6,@A5);rw[jc];refine(o9,@aS,(rel.new k M rv hn).keeps λc ys ec=>?_);rw[iL];exact ec
end
section
variable{o i value:bM}{sh xp:cO}{td tv:TE}
def aze{H:Hp}{s:aF}{kvs:@hf}(I:@I)(g:@rC):s.TypeIs @W "dict":=by let{_,_,xs,_,dd}:=Iu @cd g;exact dd.typeIs
def akh(hu:@r5)(N:@lu)(hi:@ht)(hs:Nk i):(fY,o,i,(tj,∃a b kvs k v,x=@W/\y=@aH/\H2 a=some @hR/\qv H2 b k/\@gN=some v/\Q v H2)):=by unfold PE at*;intro pins s σ H Q I h;refine(s3,λF s2⟨y,H2,I2,B,a,b,kvs,k,v,ex,n,g,d,l,q2⟩=>?_);subst ex n;rw[bg];rw[gP];exact{aze I2 g,azb hu I2 g d l @LD}
def azf(hu:@r5)(hi:@ht)(N:@lu):PC X @kf i o (sM,(ph,H2 a=some @hR,H2,Q (.bl (!(f5,k))) H2)):=by unfold PC PE at*;intro pins s σ H Q I h;rw[mU,λu s2⟨x,H2,I2,J,a,b,kvs,k,ex,n,g,d,q2⟩=>?_];subst ex n;rw[bg];rw[gP];exact azc hu I2 g d λs3 I3=>(Q,.bl _,H2,I3,q2)
def azg(hu:@r5)(N:@lu)(hi:@ht)(hv:@Bg)(hs:@KL):(sS,(o8,(ph,H3 a=some @hR,H3,@rt/\@a7<a7/\(dP,ag H3 a @JU)))):=by unfold PS PE at*;intro pins s σ H D I h;refine(rw,λF s3⟨y,H3,I3,B,a,b,kvs,k,ex,n,g,d,l,hl,q3⟩=>?_);subst ex n;rw[bg];rw[gP];exact azd hu I3 g d rv l hl λs4 I4=>{σ,_,I4,q3}
def azh{H:Hp}(h:bV)(hb:@z_):(nc,@k8):=@Jh
def azi{k v:bM}{tk e:TE}(hu:@r5)(hk:PE X k tk)(hv:PE X v e):(qX,ag H p @k8,(s9,qv H2 b ks,@k8,.dN [(ks,z)])):=(sc,@k8,azh @am I.big,Iu @tD hp,(nestKind @hu).room X.A,@rN,Ir @tD d,.dN [(ks,z)],KN.new (H:=H2) (kvs:=[]) (xs:=[]) @ay ks d g @d)
def aki{k v:bM}{tk e:TE}(hu:@r5)(hk:PE X k tk)(hv:PE X v e):(qX,ag H p @f4,@H7):=(sc,@f4,ayn @am I.big,Nj @tD hp,(BB @hu).room X.A,@o9<gW,ym @tD d,.dT [(ks,z)],KT.put (H:=H2) (kvs:=[]) (xs:=[]) @ay ks d g)
end
def azj:(sL,@tq):=by
 intro pins s σ H xs us Q I r h;rw[dI];let{u,rfl,S}:=vals1 r;cases S;rw[nd];have hT:=dd.typeIs;let{o,es,ep,N,hc,j,hk,hp,hn}:=dd;rw[kV,hk];have b:MeetsIn @a8 X.w (Builtin.«dict.__len__» {@cM,[]}) (λ_ R s=>(fX,a)/\R (.ok (.ret (hg,@a7))) @ic):=by refine .of_wp λA R s⟨N,h⟩=>?_;rw[bt,dictSize a];unfold dictSize;rw[x,aV (afT N j @dH)];rw[bt,aVA a];rw[x,wpAny_pendingCount_other hd ?_];refine aQb ?_;rw[KP,c];exact h
 refine Calls.call_function_entry PySem.kind_len PySem.plain_len PySem.entry_len (PySem.args_len1 _) ?_;unfold Builtin.«len»;refine aV (m:=oneArg "len" _) @dH;refine aV (m:=callSpecial? @W @yb) (atE (name:=@yb) hT aR4 (aRY aR4 hT aVB (aVC _) b {N,?_}));show aX _ _ _ _ _ @ic;rw[x,xR @dH];rw[x,Lr ?_];rw[bB,if(A,@a7)<0 then _ else _];rw[bX];rw[bB,if(A,@a7)>=2^63 then _ else _];rw[af (by rw[La]at z;omega)];exact aV (wpAny_mkInt (b5 (e,.int @a7,H,@dj,@eD,q)))
def ixS(h:@dz:=by rfl):tQ X (SS K):=(eF,axA)
def Al(H:Hp)(l:aa)(h:ax):@u:=∃ps:@aa,(@tv\/(cC,l,@bB))/\@gi
def Mv.toS{H:Hp}{h:ax}(m:@fZ):Al H l h:=let⟨ps,a,b⟩:=m;{ps,.inl a,b}
def Al.same{H H':Hp}{l:aa}{h:ax}(m:Al H l h)(s:@ab):Al H' l h:=(oN,a.elim (λz=>.inl (as,z)) (λz=>.inr (as,z)))
def Al.ix{H:Hp}{h:ax}{i:Nat}(m:Al H l h)(hi:@jI)(q:∀p,(bj,eT @bK)->Q @ao H):SS K @bb (.int @aL) H Q:=by rw[bY];rw[jZ];have ky:(bz,@bB,@aL,@ao):=EQ (dg,e1);rcases a with a|a;rw[Q,(f0,l,aj.of a,ky,q p e2)];rw[ac,.inl (f0,l,b_.of a,ky,q p e2)]
def Nz(h:@dz:=by rfl):(c6,@kf,M_ K @h):=(eF,axI)
def azk{xs:@F}{g:TG}{D:Ends}{H:Hp}(hn:(fK,n))(Pv:Nat->@eL)(h0:@nR)(hl:(h5,@bO))(hs:∀i x σ H,(pL,@iQ,@Kp))(hd:@oW):∃W:Nat->Nat->@kj->@fy,(∃m,W 0 m σ H)/\(iH,@Dj,@Dk,@eL,@Ds):=by subst hn;rw[ci,@sh];rw[ne,@Io,hs i x σ _ @qT bn p,@L]
def akk{xs:@F}{g:TG}{H1:Hp}{D:aa}(hn:(fK,n))(Pv:@iM)(h0:@o6)(hl:@KS)(hs:∀i x H,(pL,@fV,@EP))(hd:@z7):(er,@Dj,@Dk,@Ds,@ox):=by subst hn;rw[ci,@A0];rw[lw,@Io,hs i x _ @qT bn p,@L]
def azl{xs:@F}{g:TG}{D:Ends}{H:Hp}(he:@X=@dG)(Pv:Nat->@kj->@fy)(h0:@nR)(hl:(h5,@bO/\@r3))(hs:∀i x y σ H T,@dl->@tM->@iQ->@ld->(o2,@zq))(hd:@oW):(iD,@eL,W 0 m σ H,(iH,@xC,@xD,@eL,@xE)):=by
 rw[ci,@sh];rintro i m σ H⟨rfl,hi,p⟩;let{O,q2}:=@xf;by_cases bn:@hS;.rw[cB,{xs,ys,xs[i],ys[i]'@e,O,q2,@mH,by simp[show i<ys.length by omega]},@Du,@wC];rw[jD];exact hs i x y σ _ T (M xs O) (y2 ys q2) p hT
 .rw[bx,@X];subst e;exact(bC,{xs,ys,O,q2,.inl @L},@wO)
def azm{xs:@F}{g:TG}{H1:Hp}{D:aa}(he:@X=@dG)(Pv:@iM)(h0:@o6)(hl:∀i H,@pQ->@fV->@bO/\@r3)(hs:∀i x y H T,@dl->@tM->@fV->@ld->g (.ref T) @d6 @zq λI H2=>@sn)(hd:@z7):(er,@xC,@xD,@xE,@ox):=by
 rw[ci,@A0];rintro i m H⟨rfl,hi,p⟩;let{O,q2}:=hl i H hi p;by_cases bn:@hS;.rw[cB,{xs,ys,xs[i],ys[i]'@e,O,q2,@mH,by simp[show i<ys.length by omega]},λH' p'=>@zD,@wC];rw[jD];exact hs i x y _ T (M xs O) (y2 ys q2) p hT
 .rw[bx,@X];subst e;exact(bC,{xs,ys,O,q2,.inl @L},hd H p)
def akl{o:bA}{g:TG}{H1:Hp}{D:aa}(Pv:@iM)(h0:@o6)(hl:∀i H,i<=@a7->@fV->(gh,@b9))(hs:∀i k v H,(C,kvs,(k,v))->@fV->g @e4 @d6 H λI H2=>@sn)(hd:∀H,Pv @a7 H->j H):(er,(vk d o kvs).stop i H,(vk d o kvs).go i H,(vk d o kvs).yld i H x H',@ox):=by
 rw[ab,λi m H=>m=@a7-i/\i<=@a7/\@fV,{@a7,@v,@aO,h0}];rintro i m H⟨rfl,hi,p⟩;have q:=hl i H hi p;by_cases bn:@yN;.rw[cB,⟨q,bn⟩,λH' p'=>{@a7-@A,@e,@d,bn,p'},@zf];let{e,k,v,hk,ex}:=y;subst e ex;exact hs i k v _ hk p
 .rw[bx,@a7];subst e;exact(bC,{q,@L},hd H p)
def azn{x:aq}{i:bM}{p:cO}(hm:@r2)(hk:@vI)(hi:@ht)(hg:@cF:=by rfl)(hd:@cc:=by decide):PC X .In i @iT (q4,(f5,k)):=(sb,aRn (vf B) c @DC ?_)
def azo{x:aq}{i:bM}{p:cO}(hm:@r2)(hk:@vI)(hi:@ht)(hg:@cF:=by rfl)(hd:@cc:=by decide):PC X @kf i @iT (q4,!(f5,k)):=(sb,aRo (vf B) c @DC ?_)
def akm(K:aM):R2:=(rd,ys,xs,@aH,xs)
def akn(h:@dz:=by rfl):(j9,akm K):=by
 subst h;intro pins s σ H x y v u Q I J B h;let{a,b,xs,ys,rfl,rfl,ha,hb,hy,hz,O,q2}:=h;by_cases hx:xs=[];.subst hx;cases J;cases B;let{aD,G,p1,_}:=I.tuple ha;let{j,r2,p2,_}:=I.tuple hb;cases G;rw[i1,p1];rw[fQ,p2];simp only at hc hd cN on;subst hc hd cN on;exact(n0,tuple_addW0 a b _ @l5 n n2 dd M D U (by rfl),{N,iu,@aH,H,I,@d,O @d})
 .exact axy @P s σ H @W @aH v u Q I J B {a,b,xs,ys,@d,@d,ha,hb,hx,hz,(jG,hy),λ_=>q2 hx}
def azp{prog:cE}{s:aF}{aD:@O}{Q:@ac}(hh:@jE)(hl:(rs,l))(hi:rm aD ns)(h:@Hz):@GH:=(r7,aVD hh hl λh' tk t' hk=>?_)
def azq(hc:@du)(h:@dz:=by rfl):(jl,"sum",(o0,(cc,a,@bN))):=by subst h;intro pins s σ H vs us Q I r h;let{a,ns,rfl,hs,q}:=h;let{aD,rv,ht,_}:=I.tuple hs;rw[b9];exact azp @cn ht rv.ints @HA
def azr(l:aa)(items:@cj)(n:Nat)(b:aa)(items2:@cj)(n2:Nat)(M:@eg)(U:@jr)(C:¬(bv,! items.isEmpty,Lg (@bH+@l1)))(k:@yP)(eJ:@bH+@l1<=a7+1):afF (Builtin.«list.extend» @Ak) (λ_ R s=>(bx,l,(lc,@r,@w3,#[]))/\@iJ=some @Hd/\R (.ok (.ret xQ)) (l6,l,nE λx=>x++@gv,@bk)):=.of_wp λprog w A R s h=>by rw[dG];rw[dH];have f1:=aVE;have f2:=aQN;have O:=aR5;have j:=aVF;have Y:=aVG;have iP:(@cH++@gv).size<=a7+1:=(d,Array.size_append,eJ);wp_walk using(GK hl @d (hz:=k) (_hz':=iP)),sR hl,sR hb;exact(am,h)
def ako(h:@dz:=by rfl):HU X "list.extend" (pp,(iC,zs)):=by subst h;intro pins s σ H x vs v us Q I J rv h;rw[fV];cases J;rw[d8];cases S;rw[ck];let{z2,j,r2,o2,e2,cN,n2,on}:=(gz,b,.tup zs,b,G);have lc:=r2.length;have hsz:@xq<=a7:=(c9,eZ,eZ);rw[kY];let{V,M,afG,U}:=o2;simp only at cN on;subst cN on;rw[lv,azr l @aR n b @l5 n2 M U L @lg @e];rw[hI,aD++j,r.append r2];rw[dj];omega
def azs:(e0,.type "dict",∃(a:aa)(kvs:@bp),xs=@cM/\@ll/\(lD,@b9)):=by
 intro pins s σ H xs us Q I r h;rw[dI];rw[b9];rw[nc];rw[g5];refine kt_call_dict hd dd hz λh' j hs=>?_;rw[gt,@b9,λb o e=>?_,ajH z ?_ rel j,@n6];.have hb:b≠@al:=@re;rw[hs.2 b hb];exact@eY
 .exact q_.mpr (qj (il I.big))
def akp(hc:@du):(sx,@bp,@ll,(ka,@ya)):=by
 intro pins s σ H xs us Q I r h;rw[dI];rw[b9];rw[nc];rw[g5];let{o,es,ep,N,W,n,l,cH,cJ}:=id dd;have b:s.heap.DictAt @hu a vs ep:=⟨o,es,N,W,n,l,cH,cJ⟩;refine aR6 (aVH (ep:=ep) hd) @cn b hz @yh;rw[m4,@ya,{(fp,z),@l_,c',?_,?_},@n6]
 .have key:∀{kvs:@bp}{vs:@rV}(L:@O),@fa->@ew=@fq->(n9,L,∃k x,(ah,vs,(k,x))/\ye k v=@h)->bi @ya L:=by
   intro kvs vs L rel;unfold KV at rel;induction rel generalizing L with
   |nil=>intro hl _;have:L=[]:=o5.1 @jA;subst this;exact@ay
   |@cons p q ps G U t ih=>
    intro hl hh;cases L with
    |nil=>simp at hl
    |cons w L=>
     let{k,x,e1,e2}:=hh 0 w @d;have e3:q=(k,x):=by simpa using e1
     refine .cons ?_ (ih L @jA λj v e=>hh @aj v e);show RelV (kV p.1) w;rw[U.1,e3];exact ajM e2
  exact key @l_ rel (d,xU,g.1) λj v e=>g.2 j v (G,D9,e)
 .simpa using hD
def fF{α:@az}:@as->@as|[]=>[]|[a]=>[a]|a::_::r=>a::fF r
def Tu{α:@az}:∀(xs:@as),((br ((@X+1)/2)).filterMap λk=>xs[2*k]?)=fF xs|[]=>by simp[fF]|[a]=>by simp[fF]|a::b::r=>by have ih:=Tu r;rw[E,(@uW+1)/2,(r.length+1)/2+1,(c9,cX,cX)];rw[e,KG,afv,atH];show a::_=a::fF r;congr 1
def azt(items:@cj):(oV,@r,@qd):=by
 have hb:zF @r @r @mZ @bH=(0,@jD,2):=rfl;unfold GI;rw[hb];have hr:af4 0 @jD 2=(br ((@bH+1)/2)).map λk=>2*k:=by unfold af4;dsimp only;rw[ai @Z];rw[li,@d7<@jD,@jD-0,(@bH+1)/2];rw[aa];rw[ak];intro k _;omega
 rw[hr,atH];have:=Tu @qd;rw[xU]at this;rw[bj];simp only[afW];congr 1;funext k;simp
def azu(items:@cj):(oV,some 1,items.toList.tail):=by
 have hb:zF (some 1) @r @mZ @bH=(@yL,@jD,2):=by unfold zF;simp only[aPP];congr 1;split<;>omega
 unfold GI;rw[hb];have hr:af4 @yL @jD 2=(br @yQ).map λk=>1+2*k:=by unfold af4;dsimp only;rw[ai @Z];rw[li,@yL<@jD,@jD-(A,min 1 @bH),@yQ];rw[aa];rw[ak];intro k hk;have:=ja.1 hk;omega
 rw[hr,atH];have:=Tu items.toList.tail;rw[atJ,xU,(v,(@bH-1+1)/2=@yQ)]at this;rw[bj];simp only[afW];congr 1;funext k;simp[KC]
def Tv{α β:@az}(f:α->β):∀l:@as,fF @q8=(fF l).map f|[]=>rfl|[a]=>rfl|a::b::r=>(gk,f a::fF (r.map f),f a::(fF r).map f,Tv f r)
def Tw{α:@az}:∀l:@as,(g_,(fF l).length)|[]=>@L|[a]=>@L|a::b::r=>by have:=Tw r;show(fF r).length+1<=r.length+1+1;omega
def bi.evens:(kp,@c6->bi (fF xs) (fF us))|_,_,.nil=>@ay|_,_,.cons h .nil=>(dX,h)|_,_,.cons h (.cons _ t)=>.cons h (bi.evens t)
def bi.tail{xs:@F}{us:@O}(r:@c6):bi xs.tail us.tail:=by cases r with|nil=>rw[bp]|cons _ t=>exact t
def Tx(K:aM)(te:TE)(g:@F->@F):TE:=λσ H Q=>(hv,∃a xs,x=@W/\@n8/\(lE,g xs))
def akq{lo st:bM}{c:Option bM}{l:@eE}{g:@F->@F}(hg:∀(xs:@F)(us:@O),@c6->bi (g xs) (GI @pI l @r @mZ).toList)(J:∀xs,(iV,(g xs).length))(he:@dC)(hl:PO X c (hh,l))(hs:PO X (some st) (hh,@mZ)):(fY,e,.Slice c @r (some st) p2,Tx X.K te g):=by unfold PE at*;intro pins s σ H Q I h;refine afI (ff,λv Y⟨x,H1,L,G,a,xs,ex,hx,O⟩=>?_);subst ex;obtain rfl:v=cy a:=G;refine aQT (bx (hl @P Y σ H1 (λo H2=>o=l/\H2=H1) L @ds) λn s2⟨o2,H2,I2,pl,e2,D⟩=>?_);subst e2 D;rw[ati];refine b5 (bx (hs @P s2 σ _ (λo H3=>o=some 2/\H3=H2) I2 @ds) λvs s3⟨o3,H3,I3,ps,e3,D⟩=>?_);subst e3 D;rw[nw,(e2,H3,(pZ,@dD,vs))];let{aD,r,ht,hz}:=I4.list hx;have bG:=r.length;refine atk (ops:=[@W,@xZ]) ht.isList.typeIs atp.lookup ?_ @qu;refine(rg,aQU ..,@dD,ps);rw[bV,@m4,I4.laid (t':=s3.toks) (o:=.lst (g xs)) @wW @L ?_,O _ (I4.hok.fresh @L)];have:=J xs;refine{@e,_,0,hg xs aD r,?_};simp only[Array.toArray_toList];exact@c3
def azv{p3:cO}{W:Nat}(he:@dC)(h:@dz:=by rfl):(q_,@r,fF):=by subst h;refine(qG,@r,Tw,vd);rw[s,azt,bi.evens (by simpa using r)];.exact(n3,2)
def azw{p3 p4:cO}{W k4:Nat}(he:@dC)(h:@dz:=by rfl):(q_,some (.Constant (.int 1) k4 p4),λxs=>fF xs.tail):=by
 subst h;refine(qG,some 1,λxs=>cU (Tw _) (af,atJ),@IZ);rw[s,azu,bi.evens (bi.tail (by simpa using r))];.exact(n3,1)
 .exact(n3,2)
section
variable{prog:cE}
def azx(hh:@jE)(I d:aa)(aI:d≠I){o:bA}{es:@f_}{ep:Nat}(j:@hn):Walks @cW w A I [I,d] [I] @ft @Ig (λi h=>h.IsKeyIter I d i @ft ep/\@te)where
 sub:=λb hb=>by simp at hb;simp[hb]
 frame:=λ_ _ _ st hk=>{st.1.at λo e=>hk I @v o e,hk d @v _ st.2}
 item:=λi s Q E hi st hQ=>by
  have hx:(C,es,es[i]):=by simp[hi]
  refine ajL st.1 st.2 j @d hx λh' D xy=>?_;exact hQ _ h' @bk (cr,hx) {D,(xy.2 d aI).trans st.2} λb o hb e=>(xy.2 b @K6).trans e
 done:=λs Q E st hQ=>Tb hh st.1 st.2 j @d @L λh' yH=>hQ h' @bk λb o hb e=>yH b o @K6 e
 self:=λ_ _ _ _ st hQ=>aRJ st.1 hQ
def azy{o:bA}{es:@f_}{ep:Nat}(lo:(bS,d,nB))(hc:o.ExactDict)(j:@hn):aVI @cW w "dict" d d @ft @Ig (λh=>@te)where
 type:=λ_ hm=>{o,hm,@h5}
 there:=λ_ hm=>{dS hm,dS hm}
 keep:=λ_ _ hm hk=>hk d @aK o hm
 notList:=@Z
 notTuple:=@Z
 hint:=λ_ _ _ _ hm U=>aVJ {o,hm,@h5} U
 iter:=λ_ _ hh hm=>{_,_,λ_ _ U=>Ta lo hm hc j U,azx hh _ d (il (dS hm)) j,{@jj,gB _ hm}}
end
def akr:∀xs:@is,bi @DD @Jo|[]=>@ay|y::ys=>.cons @d (akr ys)
def azz{H:Hp}{kvs:@c_}{xs:@is}(r:@nl):Paired @A7 @Jn kvs:=by induction r with|nil=>rw[bp]|@cons p q ps G U t ih=>rw[cO,U.2.1]
def azA(hc:@du):(sx,@c_,@tq,∀(p:aa)(ps:@aa),@dK->Paired @A7 ps kvs->Q @ao (aH,p,@bB)):=by
 intro pins s σ H xs us Q I r h;rw[dI];rw[b9];rw[nd];let{o,es,ep,N,W,n,l,_,cJ}:=dd;rw[kV,l];have nu:@X=@a7:=(Paired.length rel).symm;refine aR6 (azy hd W n) @cn N @e @yh;rw[E,@l_,@Jo,by
  apply P0;intro j;rcases dH j es.size with hj|hj;.have b:j<d.toList.length:=(ai,xU,g.1,hj);let{en,e1,e2}:=g.2 j (@l_)[j] (cw,D9,bX b);rw[bX b,<-e2,be];have e3:(ah,es.toList,en):=(d,D9,e1);rw[l,be]at e3;cases e4:xs[j]? with|none=>rw[e4]at e3;cases e3|some y=>rw[e4]at e3;have e5:asT (BB @hu) y=en:=bZ e3;rw[<-e5];rfl
  .rw[ny (ai,xU,g.1,hj),ny @i2]];rw[m4,@DD,(st,by rw[au,au,nu];exact z),q _ @Jn @fK ?_];rw[s,e,akr xs];.exact azz rel
section
variable{prog:cE}{s:aF}
def azB{r:aa}{Q:@tg}(hT:s.TypeIs (.ref r) "list_reverseiterator")(h:Q @K s):(bc,aR7 (.ref r)):=by unfold aR7;rw[lU,@yb,@r];wp_delta;rw[gF];rw[gF];rw[lU,xV "__length_hint__",some (.builtin "list_reverseiterator.__length_hint__")];generalize a:("list_reverseiterator.__length_hint__":String)=c;wp_delta;rw[show splitId c=some ("list_reverseiterator","__length_hint__")from by subst a;decide+kernel];rw[x,K2 (T:="list_reverseiterator") (b:=@h) hT (by rw[isSubtype_type];kernel_rfl) ?_];rw[gF];subst a;refine Ls @gC (λd=>absurd @aG d);refine Ls (λd=>absurd d @aG) @gC;exact b5 h
def azC{I S:aa}{items:@cj}{R:(bg,Qp)}(hh:@jE)(q:@Ge)(hl:@Af)(aI:l≠I)(y:S≠I)(a:S≠l)(res:ah)(r:Nat)(hS:(bx,S,(dE,.seq #[] r)))(O:∀h' tk d c',(∀b o,b≠S->b≠I->@dr->(R,@di))->(m7,S,d)->@H5->R (.ok (.ret res)) @mV)(hn:@yP):aX (bv @cW w) @l0 (af5 @k1 (.ref I) res) (λfin s'=>match fin with|.done f=>R (.ok f) s'|.again c'=>c'.quiet=@h/\zD @eA A c' R s') @AP s:=by
 have j:S∉[I,l]:=by simp only[de,rg,or_false,not_or];exact⟨y,a⟩
 have W:=Walks.listRev (prog:=@cW) (w:=w) (A:=@l0) hh I l aI @cH;have key:∀(p tk:Nat)(h:bV),(cd,b≠S,@dr,@eW)->h.get? S=some (dE,.seq #[] p)->zD @eA A (.builtin "list.extend.loop" ⟨[@k1,.ref I,res],[]⟩) R {s with heap:=h,toks:=tk}:=by
  intro p tk h hk c;have dM:0<=@bH/\h.IsRevIter I l ((u,@bH)-1-(A,0))/\h.IsList l @cH:={@aO,(ga,q.at λo e=>hk I o y.symm e),hl.at λo e=>hk l o @uJ e};refine codeAny_extend_loopS W.toS hn S j res @bH 0 _ #[] p @d @aO dM c (aVK _) λs' d c' hm t g=>?_;rw[Moved.eq_with hm];refine O @gs s'.toks d c' (λb o hb k e=>hm.heap b o (λfY=>?_) (hk b o hb e)) t g;rcases de.mp fY with F|fY;.exact hb F
  .exact k (cz.mp fY)
 unfold af5;rw[x,wpAny_typeOf (T:="list_reverseiterator") q.typeIs ?_];have Z:(F,aR_ @k1 (.ref I)):=by simp[aR_,y]
 simp only[Z,show(xS "list_reverseiterator"==xS "list")=false from by decide,show(xS "list_reverseiterator"==xS "tuple")=false from by decide,aQX,mO,kG];rw[x,atC q ?_];rw[x,xR (azB q.typeIs ?_)];refine Ls @gC (λ_=>b5 {Ee aSa _,key r _ _ (λb o _ e=>e) hS});rw[x,Qi ?_];rw[aJ];rw[bB,QI S (·.push .none)>>=λ_=>QI S (·.pop)];rw[x,GK hS @d ?_];have n:=Qy (nE (·.push xQ)) hS @d;refine GK (hz:=by seq_fits) n @d ?_;have m:=Qy (nE (·.pop)) n @d;refine b5 {Ee aSa _,key _ _ _ (λb o hb e=>?_) m};exact(kC,(kC,e))
def azD{I:aa}{items:@cj}{Q:@ac}(hh:@jE)(q:@Ge)(hl:@Af)(aI:l≠I)(hn:@yP)(hQ:∀h' tk d c',(cd,b≠I,@dr,@di)->(m7,@al,d)->@H5->Q @cq @mV):(bc,call @kp [.ref I]):=by
 refine callType_codes (Q₁:=λobj j=>obj=@cq/\j=(jP,@qg)) aVL (aVM _) aVN (code_list_new _ @ds) λobj j D=>?_;let{rfl,rfl}:=D;have hS:(p5,@qg,@qg):=@c3;have h:(c7,I):=let⟨_,e,_⟩:=q;@cp;have f:(c7,l):=let⟨_,e,_⟩:=hl;@cp;rw[ab,(cr,hS),aVO _ _];rw[bB,do
  let old<-aSb (.ref s.heap.objs.size);
  aVP (.ref s.heap.objs.size) (λ_=>#[]);
  letGo old.toList.reverse;
  af5 (.ref s.heap.objs.size) (.ref I) .none];rw[aJ];unfold aSb;rw[x,K3 hS @d @dH];rw[bB,QI @al (λ_=>#[])>>=λ_=>letGo (#[]:@cj).toList.reverse>>=λ_=>af5 @cq (.ref I) @dD];rw[x,GK hS @d ?_];have n:=Qy @Bi hS @d;have a:(cd,b≠@al,@dr,(pv,b)):=λb o hb e=>(kC,@eY);rw[x,Lr ?_];have p:=q.at (h':=@Cu) λo e=>a I o (il h) e;have lc:=hl.at (h':=@Cu) λo e=>a l o (il f) e;obtain⟨c2,m⟩:∃c,(pv,@al)=some (dE,.seq #[] c):={_,n};refine azC (prog:=@cW) (w:=w) (s:={s with heap:=@Cu}) (A:=@l0) (l:=l) (items:=@cH) hh p lc aI (K_ h) (K_ f) @dD c2 m (λh' tk d c' hk t g=>?_) hn;exact(al,hQ h' tk d c' (λb o k e=>hk b o @re k (a b o @re e)) t g)
end
def azE{items:@O}{acc:@cj}(h:atK (λi v=>(K,items.toArray,items.toArray.size-1-i,v)) acc items.toArray.size):acc.toList=items.reverse:=by
 let{Z,h2}:=h;have Z:acc.size=items.length:=by rw[<-eZ];simpa using Z
 apply P0;intro j;rcases dH j items.length with hj|hj;.have b:j<acc.toList.length:=(ai,xU,Z,hj);have:=h2 j acc.toList[j] (cw,D9,bX b);rw[bX b,DE hj];simpa using this.symm
 .rw[ny (ai,xU,Z,hj),ny (d,jU,hj)]
def bi.reverse:(kp,@c6->bi @uP us.reverse)|_,_,.nil=>@ay|_,_,.cons h t=>(ai,kJ,kJ,bi.append (bi.reverse t) (dX,h))
def Tz{p1 O q2:cO}(hc:@du)(k:(fq,"list"))(m:(fq,"reversed"))(he:@dC)(J:@dz:=by rfl)(i:Gl X "list":=by rfl)(c:Gl X "reversed":=by rfl)(hs:@oz:=by rfl)(eJ:(k_,[@vF],(bt,@vF)):=by rfl):(lz,.Call (.Name "list" p1) [@vF] [] O,(hv,∃a xs,x=@W/\@n8/\@z5)):=by
 subst J;have hp:=ab he ac hs;unfold PE PA at*;intro pins s σ H Q I h;refine BE (wU I i k zG ?_);refine DV ?_ eJ @d;have inner:(dJ,(bt,@vF),λu s2=>∃(Y:aF)(H1:Hp)(a:aa)(xs:@F),(e2,H1,Y)/\aj X.K H1 a xs/\@z5/\u=@Im/\s2={Y with heap:=Y.heap.push (revObj a @rR)}):=by refine BE (wU I c m ajI ?_);refine DV (bx (rQ,q2,match vs with|[x]=>∃a xs,x=@m7/\aj X.K H1 a xs/\@z5|_=>False) @Ab) hs @d;.match vs,G,O with|[x],G,⟨a,xs,e1,U,q⟩=>subst e1;rw[bi.ref1 G];rw[eb];have hl:=rv.length;have dM:@uH=@rR:=@yJ;refine aRs @kh ?_;rw[dM];exact{Y,H1,a,xs,L,U,q,@d,@d}
 refine Qr (bx inner λu s2⟨Y,H1,a,xs,L,U,q,f,es⟩=>afD ?_);subst f es;rw[eb];have hl:=rv.length;have dM:@uH=@rR:=@yJ;have bn:a<@bF:=@FQ;refine azD (l:=a) (items:=@aR) (L.ok.hd hc) (d,dM,@jj) (p'.isList.at λo e=>@eY) (il bn) @lg @yh;have hsz:(Y.heap.push (revObj a @rR)).objs.size=@bF+1:=by simp[Heap.push]
 rw[bV,@m4,L.laid (t':=tk) (o:=.lst @uP) (λb o e=>hk b o @re @eY) (af,hsz) (st,(af,jU)),q _ (L.hok.fresh (af,hsz))];rw[azE g];exact bi.reverse rv
section
variable{k:Nat}{ps:@aE}
def aks{H:Hp}{s:aF}{us:@O}{vs:@F}{E':@ac}(F:(ir,a8))(hr:@lr)(M:A.frames=X.A.frames)(hb:@tV)(I:@oi)(r:@jc)(h:sp vs H Q E0):aX (bv @a8 X.w) A (call @b0 us) @vR E' s:=by have hl:@wi=@dF:=(G,r.length,F.len _ _ _ _ h);have e0:(rH,A):=let e:=I.env0;{M.trans e.frames,e.mod,e.bs,e.bsz,e.funs,e.frf,e.hok,e.bare};have j:=hb s us @lZ @jA;simp only[gk]at j;refine as9 (Qt (F.run A @es s H @pY us vs Q E0 hr e0 j r h) λr s' U=>?_);cases r with|error e=>exact l5 U|ok O=>rw[lN]
structure NA(X:Cx)(sp:Sp)(H:Hp)(xs:@F)(m:Hp->(Y,Nat,V))(lt:@y5):@u where
 keep:∀{H1 H2 i v},@jb->m H1 i v->m H2 i v
 turn:∀i x H1,@dl->@cB->∀Q:VK,(∀H2 v,@jb->m H2 i v->Q v H2)->sp [x] H1 Q E0
 cmp:∀{pins:@ae}{σ:L2.St}{H1:Hp}{Y:aF}{i j:Nat}{vi vj:V}{ui uj:ah}{Q:@ac}{E':@ac},(e2,H1,Y)->m H1 i vi->m H1 j vj->RelV vi ui->RelV vj uj->Q (.bool (lt i j)) Y->aX @hN @r9 (Qv .Lt ui uj) Q E' Y
 trans:∀a b c,lt a b=@h->lt b c=@h->lt a c=@h
 irr:∀a,(F,lt a a)
def akt{j:@ae}{H:Hp}{s:aF}(I:L2.Inv X (j++@P) σ H s):@oi:=(sE,(cx,(cx,hp)))
def azF{H:Hp}{It S:aa}{xs:@F}{m:Hp->(Y,Nat,V)}{lt:@y5}(F:(ir,a8))(hr:@j2)(hb:@tV)(M:NA X sp H xs m lt)(hl:@hT)(y:S≠It)(JP:l≠It)(hQ:@Gf):∀(r j i:Nat)(s:aF)(H1:Hp)(U:ah)(P:ah)(D:V)(T:V)(c:Nat),@X-@aj=r->(iV,@aj)->(e2,H1,s)->@cB->(bD,H1,S)->(bD,H1,It)->(bx,S,@CF)->s.heap.IsListIter It l @aj->(C,xs,T)->RelV T U->m H1 i D->RelV D P->i<=j->(∀n,n<=j->(F,lt n i))->zD @hN X.A (.builtin "min.loop" ⟨[.ref It,@b0,@k1],[]⟩) (λr s'=>match r with|.ok (.ret v)=>(e_,v,s')|.ok _=>False|.error e=>X.xe e s') s:=by
 rw[lO];rw[it];intro r;induction r with
 |zero=>intro j i s H1 U P D T c N hj I hs h d R hit hxi rxi yT aco E AU;have cM:(fK,@aj):=@e;rw[eS,(bw,hl)];have bG:=rv.length;rw[im,It];rw[hG];refine QJ atL ?_;rw[QK GL _];rw[bA,atM @k1];rw[x,K3 R @d ?_];rw[m8];rw[x,Lu (W.done _ _ _ {(ld,hsz,cM,hit),@kh} λh' C ia=>?_)];rw[mq];rw[h5];have Y:=QC h' S (nE λ_=>(#[]:@cj));rw[bA,QI S (λ_=>#[])];rw[aJ];refine GK t @d (aV (Lr @dH));have I2:=L.turned (t':=C) @KO h.1 @eK h.2.2.2.1 h.2.2.2.2.1 h.2.2.2.2.2;exact{T,H1,I2,rxi,hQ i T H1 hxi (λn g=>AU n @e) hs}
 |succ r ih=>
  intro j i s H1 U P D T c N hj I hs h d R hit hxi rxi yT aco E AU;have bn:@aj<@X:=@e;rw[eS,(bw,hl)];have bG:=rv.length;rw[im,It];rw[hG];refine QJ atL ?_;rw[QK GL _];rw[bA,atM @k1];rw[x,K3 R @d ?_];rw[m8];rw[lt,@aj,bn,{hit,@kh}];have hv:(K,aD,@aj,v):=by simpa using B
  have hxj:(K,xs,@aj,xs[@aj]):=bX bn;have rj:RelV xs[@aj] v:=(qL,hxj);let{O,acr,CZ,ib}:=id acp.1;rw[mq];rw[h5];rw[j0,(S,@CF),It,H1,by refine L.pins_of @cu;rcases bz.1 hp with hp|hp;rw[mk];.exact L.pin p (cx,hp)];rw[jd];rw[mH,rj,@aj,H1,hxj,hs,@jb/\m H2 @aj v2];let{v2,H2,C7,r2,eV,k2}:=he;have I2:=akt C7;have J:=C7.pin (S,@CF) @lt;have pI:=C7.pin (It,O) @lt;rw[jQ];have OZ:(bD,H2,It):=⟨pI.2.1,d.2⟩;have aFJ:s2.heap.IsListIter It l (@aj+1):=⟨O,pI.1,CZ,ib⟩;have eJ:=hs.trans eV;rw[bA,tryCatch (wz [v,x] (Qv .Lt x P>>=_)) _];rw[x,Lu (xR (aV (M.cmp I2 k2 (M.keep eV yT) r2 aco ?_)))];rw[x,xR (BA ?_)];rw[x,Lr @dH];cases G:lt (j+1) i with
  |true=>rw[ji];rw[lP];simp only[iQ];rw[aJ];refine GK J.1 @d (aV (Lr ?_));rw[JQ];rw[ms];refine b5 {Ee GL _,ih @aj @aj _ H2 v x v2 _ c2 @e bn I3 eJ q OZ cN (o_,It) hxj rj k2 r2 @L λn g=>?_};by_cases e:n=@aj;rw[bZ,M.irr _];.have Z:=AU n @e;cases h2:lt n (j+1)with|false=>rfl|true=>rw[M.trans n @aj i h2 G]at Z;cases Z
  |false=>simp only[mO,kG];rw[x,Lr ?_];rw[JQ];refine b5 {Ee GL _,ih @aj i _ H2 U P D T c @e bn I2 eJ q OZ J.1 aFJ hxi rxi (M.keep eV yT) aco @e λn g=>?_};by_cases e:n=@aj;rw[bZ,G];.exact AU n @e
end
def azG(l b:aa)(items items2:@cj)(n n2:Nat)(dd M:@eg)(D U:@jr)(hsz:@J_)(k:Nat):∀(i:Nat)(ns ms:@J),@bH-i=k->i<=@bH->rm (items.toList.drop i) ns->rm (items2.toList.drop i) ms->(rv,Builtin.«list.__eq__.loop» ⟨[@bb,@aH,DU i,DU 0],[]⟩):=by
 induction k with
 |zero=>intro i ns ms hk hi hv hw prog w A R s h;rw[dG];rw[dH];rw[di];have o:(@cH)[(cM,i)]?=@r:=@aS;have J:(@gv)[(cM,i)]?=@r:=@aS;rw[wb @aS]at hv hw;cases hv;cases hw;rw[o,J];rw[di];show(lC,(ap,@bH,@l1),_);rw[hsz,cG (xT _)];exact h
 |succ k ih=>
  intro i ns ms hk hi hv hw prog w A R s h;rw[dG];rw[dH];rw[di];have bn:i<@bH:=@e;have f:i<@l1:=@e;have o:(K,@cH,(cM,i),(@cH)[i]):=@mH;have J:(K,@gv,(cM,i),(@gv)[i]):=by simp[f]
  have hc:(@aL+1)=(A,@A):=by push_cast;rfl
  rw[v_ (by simpa using bn)]at hv;rw[v_ (by simpa using f)]at hw;generalize hx:(@qd)[i]'(by simpa using bn)=x at hv;generalize hy:items2.toList[i]'(by simpa using f)=y at hw;have C:(@cH)[i]=x:=(hl,hx);have O:(@gv)[i]=y:=(hl,hy);cases hv with|cons a t F=>cases hw with|cons c u j=>rw[HT.EO]at h;rw[o,J,C,O];let{e,he,B}:=HT.SK @l0 @vL a t c u;rw[x,he @cW w _ _ ?_];cases e with|true=>rw[a0,B.mp @d];wp_walk;rw[hc];exact(pY,ih @A _ _ @e @e F j @cW w A R _ ⟨hl,hb,h⟩)|false=>rw[bd,@EW];have z:=HT.SM @l0 @vL a t c u @cW w;rw[di];rw[o,J,C,O];wp_walk using z;exact h
def azH(l b:aa)(items items2:@cj)(n n2:Nat)(dd M:@eg)(D U:@jr)(hsz:@J_)(ns ms:@J)(hv:@zg)(hw:@Ae):(rv,Builtin.«list.__lt__» @Ak):=by intro prog w A R s h;rw[dG];rw[dH];have O:=aR5;rw[di];all_goals exact(pY,azG l b @cH @gv n n2 dd M D U hsz _ 0 ns ms @d @aO @rr @we @cW w A R _ ⟨hl,hb,h⟩)
section
variable{H:Hp}{s:aF}
def azI{ms:@J}{Q:@ac}(I:@oi)(ha:@oQ)(hb:(ag,b,@nD))(hl:@aM=@rh)(hu:@tp)(h:(gl,@qU)):(cP,Qv .Lt @W @aH):=by let{_,aD,n,r,e}:=show e_ @a8 X.w H @am a (.lst @bN)from(c2,a,ha);let{_,j,n2,r2,e2}:=(gz,b,.lst @nD,b,hb);have l1:=r.length;have l2:=r2.length;rw[au]at l1 l2;exact aQO (op:=.Lt) @jd (cr,e2) aVQ aVR (aVS _ _) (azH a b @aR @l5 n n2 @r @r #[] #[] @aS ns ms (intsAre_of r) (intsAre_of r2)) {e,e2,(qo,@qU,(gl,@qU))} hu
def qF(a c:Int)(ns ms:@J):@an:=(H,a,c,@qU,(ap,a,c))
def azJ{P:(bg,aSe)}{x y p q:aa}{a c:Int}{t u:Tok}{ms:@J}{o1 o2:bA}{n1 n2:Nat}(hu:@tp)(Z:(bx,x,o1))(c1:o1.cls=@dR)(d1:o1.data=.seq #[@rz,@ao] n1)(h2:(bx,y,o2))(c2:o2.cls=@dR)(d2:o2.data=.seq #[@rM,@bi] n2)(I:@oi)(hp:(bj,.tup @bN))(U:(cC,q,@nD))(h:(sC,qF a c ns ms)):aX (bv @a8 X.w) A (Builtin.«tuple.__lt__» ⟨[@gQ,@k2],[]⟩) P E s:=by
 have n:s.TypeIs @k2 "tuple":=⟨o2,h2,c2⟩;rw[bt,afp @k2 @dR];rw[eY,n];simp only[Bz,mO,kG];rw[dR,Z,d1];rw[dR,h2,d2];have k1:(BB @hu).is @am (ns.map iT) p:=ym @cd (d,bC,hp);have k2:(BB @hu).is @am (ms.map iT) q:=ym @cd (d,bC,U);have b:(ns.map (iT:Int->aW)=ms.map iT)↔ns=ms:={λe=>by have:=dg (atN @FT) e;rw[bC,bC]at this;have f:(@FT∘iT)=(id:Int->Int):=rfl;rwa[f,qX,qX]at this,λe=>by rw[e]};let{_,aD,g,o3,e3,C,n3,d3}:=(gz,p,.tup @bN,p,hp);let{_,j,r2,D,e4,c4,n4,d4}:=(gz,q,.tup @nD,q,U);rw[aJ];refine(g9,λrest(r:Option aSe×PUnit)s'=>s'=s/\(r.1=@r/\(@bl=[(@rz,@rM),(@ao,@bi)]\/(a=c/\@bl=[(@ao,@bi)])\/(a=c/\ns=ms/\@bl=[]))),(fg,@aK))
 .rintro⟨F,v'⟩rest r s'⟨es,o,JR⟩;subst es;rcases JR with hc|⟨d,hc⟩|⟨_,_,hc⟩;.injection hc with N ug;injection N with hy hx;subst hy hx;let{e,he,B}:=HT.SK A s' a t c u;rw[x,he @a8 X.w _ _ ?_];cases e with|true=>simp only[Bz,mO,kG];exact b5 (fg,.inr (bC,B.mp @d,ug))|false=>simp only[asS,iQ];have aI:¬a=c:=@EW;unfold qF at h;rw[bd,aI];rw[x,Qi (aV (HT.SM A s' a t c u @a8 X.w _ _ ?_))];exact aV (e7,b5 h)
  .injection hc with N ug;injection N with hy hx;subst hy hx;rw[x,aQc (knd:=@hu) hu k1 k2 ?_];unfold qF at h;rw[a0,d];by_cases e:ns=ms;.rw[bq (b.2 e)];simp only[Bz,mO,kG];exact b5 (fg,(az,⟨d,e,ug⟩))
   .rw[cG (λz=>e (b.1 z))];simp only[asS,iQ];rw[x,Qi (aV (HT.axr (items:=@aR) (items2:=@l5) ⟨o3,e3,C,n3,d3⟩ ⟨D,e4,c4,n4,d4⟩ (L2.intsAre_of g) (L2.intsAre_of r2) hu ?_))];exact aV (b5 (e7,h))
  .cases hc
 .rintro⟨G,v⟩s'⟨es,o,JR⟩;simp only at o;subst o es;rcases JR with hc|⟨_,hc⟩|⟨d,e,_⟩;.cases hc
  .cases hc
  .refine@dH;unfold qF at h;have m:@FP:=λl=>by induction l with|nil=>rfl|cons x l ih=>rw[HT.EO,(@ax),ih]
   rw[ai d,e,m]at h;exact h
def azK{x y p q:aa}{a c:Int}{ms:@J}{Q:@ac}(I:@oi)(hx:(P,x,.tup [@js,@ao]))(hy:(P,y,.tup [.int c,@bi]))(hp:(bj,.tup @bN))(U:(cC,q,@nD))(hu:@ho)(h:(gl,qF a c ns ms)):(cP,Qv .Lt @gQ @k2):=by let{_,aD,r,o1,e1,c1,n1,d1}:=(gz,x,_,x,hx);let{_,j,r2,o2,e2,c2,n2,d2}:=(gz,y,_,y,hy);cases r with|cons C D=>cases D with|cons B D=>cases D;cases r2 with|cons d D=>cases D with|cons b D=>cases D;let{t,rfl}:=C;let{u,rfl}:=d;cases B;cases b;exact aQd (op:=.Lt) ⟨o1,e1,c1⟩ ⟨o2,e2,c2⟩ atb (Gw atb ⟨o1,e1,c1⟩ aQP (azJ (by first|exact hu|omega) e1 c1 d1 e2 c2 d2 I hp U {_,@d,@q7,h}) (aQQ _ _)) @e
end
section
variable{k:Nat}{ps:@aE}
def azL{H:Hp}{s:aF}{xs:@F}{m:Hp->Nat->V->@u}{lt:@y5}(F:(ir,a8))(hr:@j2)(hb:@tV)(M:NA X sp H xs m lt)(I:@oi)(hl:@hT)(aI:0<@X)(hQ:@Gf):(d2,call (.builtin "min") [@bb] [(xV "key",@b0)]):=by
 rw[lO];rw[it];rw[eS,hl];have bG:=rv.length;have vP:(c7,l):=@FQ;refine kmk_tree aVT aVU aVV (kmk_min_key _ _) ?_;show aX _ @r9 (@HE>>=_) _ _ s;rw[x,aRH (show@HE=pure [(J,f),@r]from rfl) ?_];rw[bJ];rw[x,as0 @kh ?_];rw[x,wpAny_newList ?_ @aO];rw[JQ];have hS:@rg=@bt:=size_push' ..;have JP:@Jz:=il vP;have y:@rg≠@al:=(d,hS,K_ (Qq _));refine b5 {Ee GL _,?_};have c:(o1,@al,@p7):=gB _ @c3;have R:(o1,@rg,@qV):=@c3;have I0:(e2,H,{s with heap:=(s.heap.push @p7).push @qV,toks:=@bk}):=I.kept λb o e=>gB _ @eY;have d:(bD,H,@al):=I.fpOk @L @fK;have h:(bD,H,@rg):=I.fpOk (af,hS) (I.hok.fresh (af,hS));rw[im,@al];rw[hG];refine QJ atL ?_;rw[QK GL _];rw[bA,atM @m4];rw[x,K3 R @d ?_];rw[bA,tryCatch (zB @cq) _];generalize@rg=S at*;rw[lt,0,aI,{{_,c,@d,@d},p'.isList.at λo e=>gB _ @eY}];have hv:(K,aD,0,v):=by simpa using B
 have r:(K,xs,0,xs[0]):=bX aI;have r0:RelV xs[0] v:=(qL,r);let{O,acr,CZ,ib}:=id acp.1;have L:(e2,H,(en,C)):=I0.turned (λb o hb e=>ia b o @gG e) d.1 d.2.1 d.2.2.2.1 d.2.2.2.2.1 d.2.2.2.2.2;rw[h5];rw[j0,(S,@qV),@al,H,by refine L.pins_of @cu;rcases bz.1 hp with hp|hp;rw[mk];.exact L.pin p (cx,hp)];rw[jd];rw[mH,r0,0,H,r,@bj,@jH/\m H2 0 v2];let{v2,H2,C7,r2,eV,k2}:=he;have I2:=akt C7;have J:=C7.pin (S,@qV) @lt;have pI:=C7.pin (@al,O) @lt;rw[jQ];have OZ:(bD,H2,@al):=⟨pI.2.1,d.2⟩;rw[ji];rw[lP];rw[bA,QI S @wk];rw[aJ];refine GK J.1 @d ?_;rw[JQ];rw[ms];refine b5 {Ee GL _,?_};exact azF F hr hb M hl y JP hQ _ 0 0 _ H2 v x v2 _ c2 @d aI I3 eV q OZ cN (o_,_) r r0 k2 r2 @L λn g=>(d,(v,n=0),M.irr 0)
def aku{x:aq}{p kp:cO}(C:@Ja)(hr:@j2)(hm:(fq,"min"))(he:@dC)(hg:Gl X "min":=by rfl)(a:@cF:=by rfl)(hd:@cc:=by decide)(hs:@oz:=by rfl):(lz,.Call (.Name "min" p) [e] [{some "key",.Name x p2,kp}] pos,te σ H λy H1=>@IN):=by let{f,fd,F,O4,hk,hb}:=C;have hp:=ab he ac hs;unfold PE PA at*;intro pins s σ H Q I h;refine BE (wU I hg hm boot_min ?_);refine callWith_kw (e:=e) (rest:=[]) ?_ (O,hs) (O,hs);refine bx (rQ,pos,match vs with|[y]=>@IN|_=>False) @Ab;match vs,G,O with|[y],G,⟨l,xs,m,lt,n,hl,aI,M,q⟩=>subst n;rw[bi.ref1 G];refine kws_cons (bx ((z_ (v:=@b0) a O4 @d hd).out @P Y σ H1 (λv H2=>v=@b0/\H2=H1) L @ds) λu s2⟨v,H2,I2,rv,z,D⟩=>kws_nil ?_);subst z D;obtain rfl:u=cy f:=rv;exact azL F hr hb M I2 hl aI q
end
structure cv(mg:@aT):@u extends@a9 where
 max:(bA,"max")
 min:(bA,"min")
 tuple:(bA,"tuple")
 dict:(bA,"dict")
 reversed:(bA,"reversed")
def nL(o:@o):@J:=o.map λ(x:Nat)=>(u,x)
def j5(o:@o):(nL o).length=@bY:=by simp[nL]
def Ch(o:@o)(i:Nat):(nL o)[i]?=o[i]?.map λ(x:Nat)=>(u,x):=by unfold nL;rw[be]
def Iv:∀o:@o,(nL o).sum=(W,o.sum)|[]=>rfl|x::o=>by have:=Iv o;simp only[nL,cb,ij]at this⊢;omega
def Am(o:@o):(V,o)=o.map @aY:=by unfold nL;rw[bC];rfl
def azM(i j:Int):@u:=0<j/\j<18446744073709551616
def azN:(j_,.FloorDiv,azM,i/j):=(l9,by have Z:@d7<j:=@h5;have h2:j<18446744073709551616:=hc.2;refine(qz,aVW ?_);rw[az,j.natAbs<2^64];have aI:j.natAbs≠0:=@e;have:=(aP9 aI).2 this;omega)
def top(i:Nat):aY:=aVX.main.body.getD i @Di
def vq(f:Nat->ax):Sp:=(kL,n<=52/\∀(H':Hp)(p:aa),@ab->@dK->Mv H' p (f n)->Q @ao H')
def vt(f:Nat->Nat->ax):Sp:=λvs H Q _=>∃n k:Nat,vs=[@dd,@id]/\0<n/\@aQ/\@b2/\(hC,f n k)
def azO(n k:Nat)(b:Bool):ax:=@AG
def TD:Sp:=λvs H Q _=>∃(n k:Nat)(b:Bool),vs=[@dd,@id,.int @b1]/\0<n/\@aQ/\@b2/\(hC,azO n k b)
abbrev TF:aY:=top 66
def TH:(pU,TF):=@D
def azP(F:(o,"nothing","nothing",TF))(B:@a9):(bp,"size",vq fz):=by
 refine(h,TH,@C);.rw[dK];rfl
 .let{n,rfl,h0,hn,k}:=h;rw[an,(em,"place",1,TH.nd,@tK,1,TH.nd,@uf)];rw[de,n];rw[hA,@af,k H' D hs hD hm];rw[b_,@b3,@cu];rw[E,eT @af,HO.tup [V.int @bQ,@ex],by simp[eT,az]];rw[<-e];exact q p hp
abbrev TJ:aY:=top 67
def TK:(ay,["size","number","place"],"size","number",TJ):=@D
def azQ(F:(o,"cut","cut",TJ))(B:@a9):(aI,1,"size","number",vt cS):=by
 refine(h,TK,@C);.let{n,k,rfl,_}:=h;rfl
 .let{n,k,rfl,h0,hn,hk,q0}:=h;rw[an,(em,"place",2,TK.nd,@tK,2,TK.nd,(b3,bd fU (bd fb @E @B) @Y,aE))];rw[de,n];rw[hA,@tf,q0 H' D hs (dZ,My.QX hk h0)];refine(cQ,_,@d,(eX,_,@e,@b3,@cu));rw[E,eT @tf,HO.tup [V.int ((@bQ+@av)%@aq),@ex],by simp[eT,az]];rw[<-e];exact q p hp
abbrev TM:aY:=top 71
def TN:(pU,TM):=@D
def azR(F:(o,"every","every",TM))(B:@a9):(bp,"size",vq xJ):=by
 refine(h,TN,@C);.rw[dK];rfl
 .let{n,rfl,h0,hn,k}:=h;rw[an,(em,"place",1,TN.nd,@tK,1,TN.nd,(b3,@B,(dI,@B)))];rw[de,n];rw[hA,@tR,k H' D hs hD (dZ,My.agD)];refine(e,(eX,_,@de,@b3,@cu));rw[gm,@tR,V.int @bQ,(0+@aL)%2,by simp only[eT,My.auv,af7]];rw[<-e];exact q p hp
abbrev TQ:aY:=top 68
def Iw:(bf,["size","number","turned","place","first"],["size","number","turned"],TQ):=@D
def azS(F:(o,"turned_round","turned_round",TQ))(B:@a9):(ae,1,["size","number","turned"],TD):=by
 refine(h,Iw,@C);.let{n,k,b,rfl,_}:=h;rfl
 .let{n,k,b,rfl,h0,hn,hk,q0}:=h;rw[bb,(nK,Iw.nd,"place",(k2,@B),Iw.nd,(b3,bd kR (d_,@B) @H,@E)),bd m_ @ak (em,"place",3,Iw.nd,(lR,(be,@B,@Y)),3,Iw.nd,(b3,@H,aE))];rw[de,k];refine(p7,(bk,k),(k-1-i,b),λH1 hs hm=>?_);.refine{_,@d,_,(E,@d,_,(dY,@d,_,@d,@b3,@cu))};rw[gm,(k-1-i,b),V.int (@av-1-@bQ),@b1,by show HO.tup [(b6,k-1-i),V.int @b1]=_;rw[(v,(A,k-1-i)=@av-1-@bQ)]];rw[<-e];exact q p hp
  .refine(e,_,@d,_,@d,k,n,@d,@ww,@g9);refine Io (lo:=k) (n:=(@aq-@av).toNat) (λi=>(db,k+i)) @e I @bm (λi H' Q hi q=>?_) λH2 eJ m=>?_;.rw[b_,@b3,@cu];rw[E,eT (db,k+i),HO.tup [V.int (@av+@aL),@ex],by show HO.tup [(b6,k+i),@ex]=_;rw[(v,(A,k+i)=@av+@aL)]];rw[<-e];exact q p hp
   .let{xs,zs,e1,e2,l1,l2,kk}:=Mv.cat (hm.same eJ) m;refine{D,J,xs,zs,@d,@d,e1,e2,?_,λp hp=>q0 _ p (aH @yf hp) ?_};.rw[l1,l2];simp only[au,lu];exact jb @a2
    .have:=kk p hp;rw[(v,(@aq-@av).toNat=n-k),(v,(bk,k)=k)]at this;exact this
abbrev TU:aY:=top 69
def azT:(p9,TU):=@D
def azU(F:(o,"turn","turn",TU))(a:@IA):(aI,2,"size","number",vt gK):=(rY,azT,@h,My.QY hk)
abbrev TV:aY:=top 70
def azV:(p9,TV):=@D
def azW(F:(o,"deal","deal",TV))(a:@IA):(aI,2,"size","number",vt Dy):=(rY,azV,@K,My.agC hk)
abbrev TW:aY:=top 72
def NB:(ay,["first","second","both","between","turned"],"first","second",TW):={@d,@d,@d,@aG,@d,@aG,@aG}
def An:Sp:=λvs H Q _=>∃(S N:aa)(a b:ax),vs=[@k1,.ref N]/\Al H S a/\Mv H N b/\@bX<=52/\@DK/\(hC,@dx)
def azX(F:(o,"followed","followed",TW)):(aI,1,"first","second",An):=by
 refine(h,NB,@C);.let{S,N,a,b,rfl,_}:=h;rfl
 .let{S,N,a,b,rfl,ha,hb,qO,su,q0}:=h;rw[as,NB.nd,@bg,(dV,eQ @B,3,NB.nd,4,NB.nd,(dk,@E,(b3,@GG,(eL,@GG,@ak)))),(aY,@E)];rw[br];let{ps,cH,ht}:=hb;rw[jy];rw[aF,N,(a1,j _ _ cH),(dr,N,@bB,∃O v4:@ag,σ=[(J,S),(J,N),@cr,O,v4]/\@ab/\@EN,{@r,@r,@d,j,Mv.nil},λi σ H' _⟨_,_,_,s5,_⟩=>(i7,cH))]
  .rintro i y σ H' hi⟨O,v4,rfl,hs,hm⟩;rw[aY];rw[fj,by rw[dk]];rw[f3];have ON:=(bw,ex);have nu:x.1<@eU:=su x (cZ hx);have M:=ha.same hs;rw[ds,p,qD ON];let{G,v,g}:=hm;rw[av,_,@d,(X,v)];rw[cE,M.ix nu λpa d=>?_];refine{pa,_,_,_,@d,@d,qD d,@d,_,@d,_,@d,M.ix nu λC Fo=>?_};refine{C,_,_,_,@d,@d,qD Fo,@d,_,@d,_,_,(eX,@d,@de,@b3,@fX)};rw[gm,bY a x,(bq,(at_ a x.1).1),((av,(at_ a x.1).2)+(av,x.2))%2,(O,aj2)];rw[<-e];rw[fY,bY a x,(⟨G,v,g⟩:@EN),b7];refine{D,acc,_,(hT,e1,?_,_,(aE,aH hs b7))};.rw[e2];simp only[au,eD];exact@a2
   rw[s,My.qo _ hx,e3]
  .rintro σ H'⟨O,v4,rfl,hs,hm⟩;rw[au,ht.len,gn]at hm;exact(am,q0 H' D hs hm)
abbrev TX:aY:=top 75
def NC:(ay,(dQ,"row","move","turned"),"row","move",TX):=@D
def ND(K:aM):Sp:=λvs H Q _=>∃(g d:aa)(r:db)(h:ax),vs=[.ref g,@cD]/\aj K H g (aT,r)/\Mv H d h/\@bq<=52/\(∀x∈h,(dm,x.1))/\(f6,(aT,@hY))
def azY(F:(o,"moved","moved",TX)):(e5,1,"move",ND K):=by
 refine(h,NC,@C);.let{S,N,a,b,rfl,_}:=h;rfl
 .let{g,d,r,h,rfl,O,{ps,cH,ht},Z,h2,q0}:=h;rw[an,(ig,[("place",2),("turned",3)],NC.nd,eQ @B,(fm,2,NC.nd,3,NC.nd),oN (bL,@H) (Ac Ad @rS) @rS)];rw[aF,d,(a1,cH),@bZ];refine Ng (K:=K) (a:=d) (xs:=@bB) (λi H'=>@ab/\(b0,(aT,@Aj))) {aH @bj hD,ao} (λi H' _ hh=>aj.of (hh.1 _ _ cH)) ?_ ?_
  .rintro i y H' hi⟨hs,hm⟩;rw[aY];rw[fj,by rw[dk]];rw[f3];have ON:=(bw,ex);have nu:(dm,x.1):=h2 x (cZ hx);have ky:(bz,(aT,r),(u,x.1),V.int @CL):=EQ (dg,My.auC nu);have U:=hs.seq O;have bG:(jS,@Aj)<a7:=by simp only[au,bI,done,eD];exact@a2
   rw[ag,bI (au,h.take @A),bI @Aj++[(L,x.2,-@CL,@CL)],by unfold bI done;rw[My.qo _ hx,bh,<-My.agJ];rfl];refine{p,(E,qD ON,@d,(jz,_,_,@d))};simp only[kU,iQ];rw[bl];rw[Th];cases hb:x.2 with|true=>rw[ar,(e,(cQ,g,_,(bh,U,ky,_,hm,bG,@kK)))];rw[ao,e2,hb,(@ax),bh];rfl|false=>rw[aw,(hS,g,@d,@d,U,ky,_,hm,bG,@kK,?_)];rw[ao,e2,hb,af (show¬@hE by simp),bh];rfl
  .rintro H'⟨hs,hm⟩;rw[au,ht.len,gn]at hm;exact q0 H' D hs hm
abbrev TY:aY:=top 78
def NE:(ay,["one","other","rest"],"one","other",TY):=@D
def akv:Sp:=λvs H Q _=>∃a b:Nat,vs=[@js,@nA]/\(eH,KD a b)
def azZ(F:(o,"common_divisor","common_divisor",TY)):(aI,1,"one","other",akv):=by
 refine(h,NE,@C);.let{a,b,rfl,_}:=h;rfl
 .let{a,b,rfl,q0}:=h;rw[bb,tN dh (gN,@B) (d9,2,NE.nd,bd fU @Y @B,(aw,0,NE.nd,@B),(cn,NE.nd,@E)),@Y];rw[c_,H'=H/\∃(x y:Nat)(v:@ag),σ=[(T,x),(T,y),v]/\KD x y=KD a b,match σ with|[_,some (.int y),_]=>y.toNat|_=>0,{@d,a,b,_,@d,@d}];rintro σ H1⟨rfl,x,y,v,rfl,hg⟩;rw[bI];rw[V]
  .have hy:0<y:=@dY;rw[bN,σ'=[(T,y),(aB,x%y),(aB,x%y)]/\H'=H1]
   .rintro σ' H'⟨rfl,rfl⟩;refine(mO,?_,y,x%y);.show(i8,(W,x%y))<(i8,y);have:=eX x hy;omega
    .rw[<-hg,aSg x y,Nat.gcd_rec y x,aSg]
   .refine(e,(E,_,_,@d,@d,(g5,y),_,@d,_,@d,?_,@d));rfl
  .have hy:y=0:=(fr,¬@d7<y,λq=>(bm,q));subst hy;rw[aU];rw[Nat.gcd_zero_right]at hg;rw[hg];exact q0
def akw{h:ax}(H:@aB):∀x∈h,x.1<n:=by intro x hx;rw[fF];rw[<-My.f_ hk];exact@uB
abbrev TZ:aY:=top 77
def Ci:(ay,["move","start","place","turned","steps"],"move","start",TZ):=@D
def akx:Sp:=λvs H Q _=>∃(l:aa)(h:ax)(n i:Nat),vs=[@bb,@a3]/\@fZ/\@aB/\i<n/\(eH,@cA)
def az0(F:(o,"round_length","round_length",TZ)):(aI,1,"move","start",akx):=by
 refine(h,Ci,@C);.let{l,h,n,i,rfl,_}:=h;rfl
 .let{l,h,n,i,rfl,hm,b,hi,q0}:=h;have hl:=b.len;let{j,g,d,c}:=My.agI b hi;let{xs,p,sq,ky,hp}:=hm.at (K:=K) (v,@jI);rw[as,@nc,@I_,(bd,@nc,@I_),(cJ,4,@nc,aE,tN dh (dS,(ao,tO,@E,@B),(bL,@H)) (d9,3,@nc,(eL,@H,(df,@rS)),(bP,@nc,(df,@rS)),(cI,@nc,@tC)),@ak)];refine(a5,_,@d,l,xs,_,@d,@d,sq,ky,p,_,_,_,@d,@d,qD hp,@d,_,@d,_,@d,l,xs,_,_,@d,@d,sq,ky,(bs,p,_,qD hp,@d));refine Ce (λσ H'=>H'=H/\∃t:Nat,1<=t/\t<=@cA/\σ=[@c2,(T,i),(aB,@i7),(aB,az @oX),(T,t)]) (λσ _=>match σ with|[_,_,_,_,some (.int y)]=>@cA-@qx|_=>0) {@d,1,@e,j,?_} ?_;.rw[E,(kr,1),@bK,(fs,@gh,My.nG)];rw[e];rfl
  .rintro σ H1⟨rfl,t,t1,t2,rfl⟩;have hw:=My.Ep b (x:=@af) hi t;refine pF (!(B,@i7,i)) @oX (λQ' q=>{_,@d,_,@hL}) (gX,@hL) ?_;rw[aj,ft,(fy,(u,@i7),@aL,@i7,i),q];rw[s,Th,q]
   .rw[V]
    .have aI:(kr,t)≠@af:=by intro e;rw[e]at hc;simp at hc
     have bn:t<@cA:=by
      rcases dH t (jH h i)with q|q;.exact q
      .rw[a3,t,@cA];rw[this,d]at aI;exact absurd @d aI
     let{ys,p2,a,JS,b7}:=hm.at (K:=K) (v,@i7<@bq);have e:(kr,t+1)=((at_ h @i7).1,@y0 !=@oX):=rfl;rw[bN,H'=H1/\σ'=[@c2,(T,i),(aB,(My.walk h @af (t+1)).1),(aB,az (My.walk h @af (t+1)).2),(aB,t+1)]];.rintro σ' H'⟨rfl,rfl⟩;refine{_,?_,@d,@d,t+1,@e,@e,@d};show@cA-(cM,t+1)<@cA-(cM,t);omega
     .refine(e,(a5,_,@d,l,ys,_,@d,@d,a,JS,p2,_,_,_,@d,@d,qD b7,@d,_,_,@d,@d,_,_,@d,@d,@de,_,@d,_,(ke,l,ys,a,(cs,JS,p2,_,@d,qD b7,@d,_,@d,_,_,@d,@d,@d,?_))));rw[ag,((av,@oX)+(av,@y0))%2,(av,@y0 !=@oX),(d,Int.add_comm,aj2 _ _)];rw[e];exact(eC,[(cB,l),(bn,i),(bn,(W,(at_ h @i7).1)),@ln,(bn,(u,t)+1)],e2)
    .have he:(kr,t)=@af:=by simp only[mN,xM,l9,not_or,aSh,KJ]at hc;exact ae1 @h5 hc.2
     have ht:t=@cA:=by
      rcases dH t (jH h i)with q|q;.exact absurd he (c t t1 q)
      .omega
     subst ht;exact(am,q0)
abbrev T0:aY:=top 79
def Ix:(aq,["move","order","start","length"],"move",T0):=@D
def aky:Sp:=(pw,@aQ,(eH,orderOf h))
def az1(F:(o,"order_of","order_of",T0))(B:@a9)(a:(cW,"round_length","move","start",akx))(c:(cW,"common_divisor","one","other",akv)):(eu,"move",aky):=by
 refine(h,Ix,@C);.let{l,h,n,rfl,_}:=h;rfl
 .let{l,h,n,rfl,hm,b,hn,q0}:=h;have hl:=b.len;let{xs,hx,nu}:=hm.len;rw[bu,Ix.nd,aE,(fu,@a6,2,Ix.nd,(aQ,(bd,Ix.nd,(cE,a,@E)),(cn,Ix.nd,bd vc (bd B9 @B (aU,c,@B,@H)) @H)))];refine(e,l,xs,@d,(aJ,hx),_,@d,@e,@e,?_);refine va (n:=(bk,@X)) (λi σ H'=>H'=H/\∃v2 O:@ag,σ=[@c2,(aB,(ia,i)),v2,O]) {@d,@r,@r,@d} ?_ ?_;.rintro i σ H1 hi⟨rfl,v2,O,rfl⟩;rw[aR,@e];have L:=My.agI b g;have hg:KD (ia,i) @cA<=@cA:=Nat.gcd_le_right _ @e;have d:0<KD (ia,i) @cA:=Nat.gcd_pos_of_pos_right _ @e;refine(E,_,@d,l,h,n,i,@v,hm,b,g,?_);refine(mB,@d,_,_,@d,@d,@tH,_,@d,_,_,@d,@d,@oe,@d,(T,@bQ),(aB,@cA),?_);rw[My.auD,<-My.auB];exact(eC,[(cB,l),@ln,(bn,@bQ),(bn,(W,@cA))],(r,Lv,QL))
  .rintro σ H1⟨rfl,v2,O,rfl⟩;rw[aU];unfold orderOf at q0;rw[(v,(bk,@X)=@bq)];exact q0
def Iy{j:Nat}(h:j<n):ve n (u,j)=some j:=@Gt
abbrev T1:aY:=top 73
def NF:(aq,(dQ,"move","back","source"),"move",T1):=@D
def T4:Sp:=(pw,0<n,n<=52/\(hC,aPI h))
def az2(F:(o,"undone","undone",T1))(B:@a9)(sD:@lV):(eu,"move",T4):=by
 refine(h,NF,@C);.let{l,h,n,rfl,_}:=h;rfl
 .let{l,h,n,rfl,hm,b,h0,hn,q0}:=h;have hl:=b.len;let{ps,hx,ht}:=hm;have dF:=ht.len;rw[bu,NF.nd,(aO,sD,@a6),(hV,2,NF.nd,3,NF.nd,HG (b3,@E,@w1) (HF @B @w1 HQ))];refine(e,l,_,@d,(aJ,hx),n,by simp[dF,hl],h0,hn,λH1 D Y hD k=>?_);rw[aM,l,aj.of (aV,hx)];refine(tn,l,@bB,∃(v2 O:@ag)(g:ax),(g4,[@c2,@cr,v2,O],Mv H' D g,@td,∀j,j<i->at_ g @eN=(j,@lx)),{@r,@r,_,@d,Y,k,My.ph n,λj hj=>absurd hj @e},(i7,hx))
  .rintro i y σ H' T hi⟨v2,O,g,rfl,hs,lQ,J,hg⟩hT;rw[aY];rw[fj,by rw[dk]];let{x,C,ex}:=ht.get hp;have cM:i<n:=(d6,hl,C);have L:x=@bK:=(d,My.f_ @e,(fk.1 C).2.symm);have s2:ae H (ag H' T @tw):=aH hs hT;have m:=lQ.same (aK,@tw,H',hT);have nu:x.1<n:=(d,L,b.lt _ cM);rw[bP];refine{_,@d,_,@d,p,(dY,_,qD (aM,ex),@d,@b3,@fX)};let{xs,e1,e2,e3}:=Mv.set (x:=(i,x.2)) m b7 x.1;refine{_,@d,_,(ke,p,_,qD (aH s2 b7 _ _ ex),@d,D,xs,_,x.1,@d,@d,e1,Iy @e,_,_,g.set x.1 (i,x.2),@d,(aE,aH s2 b7),e3,by simp[J],?_)};intro j hj;rw[My.aux @e];by_cases t:j=i;.subst t;rw[ai (aF,L),L]
   rw[bk,λq=>t (b.inj j i @e cM (cw,q,L)),hg j @e]
  .rintro σ H'⟨v2,O,g,rfl,hs,lQ,J,hg⟩;rw[am,q0 H' D hs ?_];rw[au,dF,hl]at hg;rw[<-My.auw b J hg];exact lQ
abbrev T6:aY:=top 74
def Cj:(ay,["move","times","result","doubled","left"],"move","times",T6):=@D
def akz:Sp:=λvs H Q _=>∃(l:aa)(h:ax)(n m:Nat),vs=[@bb,.int m]/\@fZ/\@aB/\0<n/\@aQ/\m<=1000000000000/\(hC,aeZ h m)
def az3(F:(o,"repeated","repeated",T6))(B:@a9)(sD:@lV)(G:@oE):(aI,2,"move","times",akz):=by
 refine(h,Cj,@C);.let{l,h,n,m,rfl,_}:=h;rfl
 .let{l,h,n,m,rfl,hm,b,h0,hn,X,q0}:=h;have hl:=b.len;let{xs,hx,nu}:=hm.len;rw[as,@me,(aO,sD,@a6),(bd,@me,@Y),(cJ,4,@me,@B,tN dh (gN,@ak) (bF,(hk,(c_,@ak),(bP,@me,(cK,G,@H))),(bd,@me,(aU,G,@H,@H)),ay (cI,@me,bd B9 @ak aE)),@E)];refine(e,l,_,@d,(aJ,hx),n,by simp[nu,hl],h0,hn,λH1 D Y hD k=>?_);rw[cE,?_];rw[c_,∃(g ld:aa)(a d left:Nat),(g4,(sT,(T,@au)),Mv H' g (aj,a),Mv H' ld (aj,d),a+d*@au=m),@FX,{D,l,0,1,m,@d,Y,k,(d,show(aj,1)=h from My.uR hl,hm.same Y),@e}];rintro σ H'⟨g,ld,a,d,left,rfl,hs,j,z,e⟩;rw[bI];have Ha:=My.sS b a;have r:=My.sS b d;rw[V]
  .have hy:0<@au:=@dY;rw[bN,(qJ,σ',@ab,Mv H' g (aj,J),Mv H' ld (aj,d+d))];.rintro σ' H2⟨g,ld,J,rfl,b1,b2,O,R⟩;refine{_,?_,@d,g,ld,J,d+d,@kJ,@d,b1,b2,O,R};show(cM,@kJ)<(bk,@au);omega
   .rw[co];have tail:∀(H2:Hp)(c:aa)(M:Nat),@jH->Mv H2 c (aj,M)->Mv H2 ld (aj,d)->M+(d+d)*@kJ=m->∃v,(K,(nL,(cB,ld),@au),3,@dh)/\∃v',(K,(nL,(cB,ld),@au),3,some v')/\An ([v,v']++[]) H2 (λx H3=>(qJ,(nL,some x,(u,@au)/2),ae H H3,Mv H3 g (aj,J),Mv H3 ld (aj,d+d))) E0:=by intro H2 c M c1 c2 C c4;refine(e,_,@d,ld,ld,_,_,@d,C.toS,C,(eG,r.len),(d,r.len,akw r),λH3 p e1 e2=>{c,p,M,@d,c1.trans e1,c2.same e1,?_,c4});rw[My.Ej b];exact e2
    rw[cx]
    .have W:@au%2=1:=by have:=bT cN;have:=V.int.inj this;omega
     refine{_,@d,_,@d,g,ld,_,_,@d,j.toS,z,(eG,r.len),(d,Ha.len,akw r),λH2 p e1 e2=>?_};let{v,g1,v',g2,g3}:=tail H2 p (a+d) (hs.trans e1) (d,My.Ej b,e2) (z.same e1) (by rw[a3,@au,2*@kJ+1];rw[this,aPN,aPO,<-KA]at e;rw[(v,d+d=d*2)];omega);refine{v,g1,v',g2,?_};rw[kQ];exact@Je
    .have u:@au%2=0:=(fr,¬((u,@au)%2=1),λq=>cN (bq (show V.int ((u,@au)%2)=V.int 1 by rw[q])));let{v,g1,v',g2,g3}:=tail H' g a hs j z (by rw[a3,@au,2*@kJ];rw[this,<-KA]at e;rw[(v,d+d=d*2)];omega);refine{v,g1,v',g2,?_};rw[kQ];exact@Je
  .have hy:@au=0:=(fr,¬@d7<@au,λq=>(bm,q));subst hy;rw[am,q0 H' g hs ?_];rw[My.LO b X,(v,m=a)];exact j
abbrev T7:aY:=top 4
def az4:(aq,["card"],"card",T7):=@D
def pH(z:Int):Int:=(fM,z<0)
def Ao:Sp:=λvs H Q _=>∃z:Int,vs=[.int z]/\(gT,pH z)
def az5(F:(o,"side_of","side_of",T7)):(bp,"card",Ao):=by
 refine(h,az4,@C);.let{z,rfl,_}:=h;rfl
 .let{z,rfl,q0}:=h;rw[an,oN (ip,@Y) aE aE];rw[bI];unfold pH at q0;rw[V];.rw[ai @b6]at q0;exact q0
  .rw[(fk,(bm,q))]at q0;exact q0
abbrev T8:aY:=top 2
def T9:(p1,T8):=@D
def Ck(K:aM):Sp:=(px,n<=52/\(cj,decide @rv&&mT ns))
def az6(F:(o,"is_row","is_row",T8))(B:@a9):(aI,1,"numbers","size",Ck K):=by
 refine(h,T9,@C);.let{a,ns,n,rfl,_}:=h;rfl
 .let{a,ns,n,rfl,ha,hn,q0}:=h;rw[bb,(dT,(ao,tO,@a6,@B)),(de,ax4 hr.units,(mQ,(b8,"number",2,T9.nd,@Y,2,T9.nd,(e6,@E))),(nJ,(be,aE,(b1,@B))))];refine{_,@d,a,(dK,_,@d,@dN,_)};rw[ft];rw[V]
  .have:¬@rv:=by intro e;rw[au,e]at hc;simp at hc
   have q:=q0 H @bj;rw[cG this,wx]at q;exact q
  .have hl:@rv:=by
    rw[au]at hc;by_cases e:(@s_=@aq);.omega
    .rw[cG e]at hc;simp at hc
   rw[cw];rw[g_,@pu];rw[ah,ns.filter @eX,ns,@fC];rw[e1]at u;rw[ag,ns.map λz=>V.int @pu,(ns.map λz=>@pu).map @aJ,(O,bC)];rw[e2]at u;refine{D,_,@d,@k6,@i2,λJ p hp hs m=>?_};rw[h7];rw[hJ,@sS];have s2:ae H (an,ag (cY,p,@jt) p2 @lR,p3,(br @wf).map @IQ):=aH (aH (aH Y m) b7) M;refine{.list (J.map .int),.list (od,.int),(oe,@jt),(oe,(od,@aJ)),shaped_ints _,shaped_ints _,?_};.have n1:(aa,(ag H1 p (.lst @jt)) p,@jt):=ao;have n2:(aa,(ag (cY,p,@jt) p2 @lR) p,@jt):=aH @b5 b7 _ _ n1;exact aH @b5 M _ _ n2
   rw[aL,ao,bC,(@rL)];.rw[ay0];have q:=q0 _ s2;rw[bq hl,Bx,<-My.auF hp hs,hl]at q;exact q
abbrev T_:aY:=top 3
def az7:(aq,["numbers"],"numbers",T_):=@D
def akA(K:aM):Sp:=(m2,(cj,decide (1<=@aM/\@ne)&&mT ns))
def az8(F:(o,"is_deck","is_deck",T_))(B:@a9)(G:Glb mg)(N:@oB):(eu,"numbers",akA K):=by
 refine(h,az7,@C);.rw[f4];rfl
 .let{a,ns,rfl,ha,q0}:=h;rw[an,tK (de,yj,@a6,aE) (o4,G.MOST_CARDS,(cE,N,@a6))];rw[gx];rw[V]
  .have Z:@yR:=@Kv;rw[gx];rw[V];.have h2:@ne:=@Kv;refine(e,(E,a,_,@d,@dN,a,ns,@aM,@v,ha,h2,λH' hs=>?_));have q:=q0 H' hs;rw[bq (⟨Z,h2⟩:1<=@aM/\@ne)]at q;rw[(@eG)];exact q
   rw[lz,@ne,e.2]
  rw[lz,@yR,e.1]
abbrev Ua:aY:=top 5
def Ub:(o3,Ua):=@D
def NG(K:aM):Sp:=(m2,@aM<=52/\(kR,.int ((ns.map pH).sum)))
def az9(F:(o,"faces_up","faces_up",Ua))(B:@a9)(d:@lX):(jn,NG K):=by
 refine(h,Ub,@C);.rw[f4];rfl
 .let{a,ns,rfl,ha,hn,q0}:=h;rw[an,(h1,(b8,"card",1,Ub.nd,@Y,1,Ub.nd,(dp,d)))];rw[cw];rw[g_,pH z];rw[(@fC),show(ns.map λz=>V.int (pH z))=@Kn by rw[bC];rfl]at u;exact{D,_,@d,@k6,@iu}
def yo{c:cQ}(h:@kT):pH @ci=(av,@ce):=by have e:=ay2 h;unfold pH;cases hu:c.up with|true=>rw[hu]at e;rw[ai (bT e)];rfl|false=>rw[hu]at e;rw[af (Ef e)];rfl
def NH{r:db}(H:@G):((bI r).map pH).sum=(A,@cR):=by rw[fC,bC];have:∀c∈r,@kT:=λc hc=>@FZ;clear H;induction r with|nil=>rfl|cons c r ih=>rw[cb,cb,ij,ij,ih (λc hc=>this c (by simp[hc])),DC,yo (this c @v)];omega
abbrev Uc:aY:=top 6
def NI:(sI,"sums",Uc):=@D
def Iz(K:aM):Sp:=(kK,@aQ,(f6,@Gi))
def az_(F:(o,"sums_of","sums_of",Uc))(B:@a9)(d:@lX):(jn,Iz K):=by
 refine(h,NI,@C);.rw[eg];rfl
 .let{a,r,n,rfl,ha,R,hn,q0}:=h;have hl:=R.len;rw[bv,hl];rw[bu,NI.nd,bd axT @pR @a6,(hV,2,NI.nd,3,NI.nd,HG (bd fb @E (eI,d)) (HF @B (d_,@tQ) HQ))];rw[P,@fY,@cu];have Y:ae H (aH,p,[@cy]):=aH @bj hp;refine{_,@d,a,(E,.inl @ct,p,_,_,@d,@d,ao,@e,by rw[au,dX];omega,(bO,dX,@un),@bZ)};rw[au,dX,(c4,(i8,n))];have hz:(qm n @bs).flatten=@Gj:=by induction n with|zero=>rfl|succ n _=>simp[Lf,List.flatten_replicate_singleton]
  rw[hz];have OU:(I,D):=Y.free hD;rw[c3,@Gj,hD];rw[aM,a,s2.seq ha];refine(lW,∃(v2 O:@ag)(g:@J),(sR,v2,O,(b0,g.map @aJ),@td,@JX),{@r,@r,_,@d,s2,ao,@v,@I5})
  .rintro i y σ H' T hi⟨v2,O,g,rfl,hs,v,J,hg⟩hT;rw[be,fC,be]at hi;have cM:@he:=by
    rcases dH i r.length with q|q;.exact q
    .rw[ny q]at hi;cases hi
   rw[bX cM]at hi;cases hi;let{b1,b2}:=R.no_bounds cM;rw[ee,@Jr];have I:=(fJ,@Jr,ae.refl H',hT,v);rw[bP];refine{_,@d,_,(ke,told r[i],@d,_,@d,_,@d,told r[i],@d,_,_,@d,@d,D,_,_,@tb,@d,@d,I,?_,_,_,g.set @tb (@aL+az (r[i]).up),@d,cF s3 OU,?_,by simp[J],?_)};rw[bq,vm,(v,(u,(r[i]).no)-1=(A,@tb)),Iy @e];.rw[ao,yo b1,wj]
   .intro j hj t;rw[dC];.subst e;rw[afw @e]
    .have aI:@tb≠@f1-1:=by let{c1,c2}:=R.no_bounds hj;intro q;have L:=R.nodup;rw[oy,xI,oZ]at L;exact L j i hj cM @e @e
     rw[Qb aI];exact hg j hj @e
  .rintro σ H'⟨v2,O,g,rfl,hs,v,J,hg⟩;rw[au,dX]at hg;rw[am,q0 H' D hs ?_];rw[<-My.auH R J (λj hj=>hg j hj @e)];exact v
abbrev Ud:aY:=top 7
def NJ:(np,"one","two",Ud):=@D
def Ue(K:aM):Sp:=(h6,@G,@ap/\@aQ/\(f6,(gL r q).map λd=>(b5,d)))
def aAa(F:(o,"odd_differences","odd_differences",Ud))(B:@a9)(m:@va):(jp,3,Ue K):=by
 refine(h,NJ,@C);.rw[dL];rfl
 .rw[jR];rw[an,(ig,[("one",2),("two",3)],NJ.nd,(kM,(cL,m),(dp,m)),(fm,2,NJ.nd,3,NJ.nd),(eL,@E,@H))];rw[h_];refine{_,@d,b,q,n,@d,@k_,S,hn,@jv};refine{p1,p2,_,_,@d,@of,@ig,@bZ};refine(rj,(iZ,@qS),(iZ,λno=>(u,@iS)),(x+y)%2,by simp[My.gq];omega,@v,@of,@ig,{_,@d,_,@d,_,_,@d,@d,_,_,@d,@d,@de,@g1});refine q0 H3 D @i5 ?_;rw[h3];unfold gL;rw[R.len];congr 2;rw[List.zip_map',bC,bC];rw[ak];intro x _;simp only[DC];congr 1
abbrev Uf:aY:=top 91
def NK:(np,"differences","difference",Uf):=@D
def E3(K:aM):Sp:=(h6,@G,@ap/\0<n/\n<=52/\∀(H':Hp),@ab->Q (.bl @lS) H')
def aAb(F:(o,"can_come","can_come",Uf))(B:@a9)(t:@BD)(p:@JQ):(jp,4,E3 K):=by
 refine(h,NK,@C);.rw[dL];rfl
 .let{a,b,r,q,n,rfl,ha,hb,R,S,h0,hn,q0}:=h;have CJ:(bI r).length=n:=(aA,fC,au,R.len);have g:@yk=n:=(aA,fC,au,S.len);rw[bL,(aL,(c_,@a6),(b7,(dI,(cL,t)),(dI,(dp,t)))),(bP,NK.nd,(cE,p,@B)),(kN,(b8,"difference",3,NK.nd,@E,3,NK.nd,(b7,@H,@ty)))];rw[eO];rw[au,CJ];rw[V];.have W:n%2=1:=@wa;rw[iZ,_];rw[ld,b,@k_,λH2 s2=>?_];refine{_,_,(cU,@de,@d)};have k:=q0 H2 @ed;rw[My.qp R S W]at k;rw[ft,NH R,NH S];rw[E,(B,(A,@cR)%2,(A,@ns)%2),(B,@cR%2,@ns%2),kh.2 {@d8,@d8}];rw[e];exact k
  .have u:@aU:=(fr,¬(@aq%2=1),λq=>(bm,show V.int (@aq%2)=V.int 1 by rw[q]));refine{_,@d,_,@d,a,b,r,q,n,@d,ha,hb,R,S,hn,@qt};rw[aF,p1,(a1,Z),@bZ];rw[k9];rw[lD];refine oP (λd:Nat=>(b5,d)) (gL r q) @eX (λd=>.bl (B,d,@dS)) @e hD (aj.of Z) @bm @F2 @F3 @qN;.refine{_,@d,_,@d,p1,(iU,(hi,Z),(fz,uw))};rw[ft,(fy,(u,z),(W,@dS),z,@dS)];exact@g1
   .rw[(@fC)]at h2;refine{D,(gL r q).map (λd=>(B,d,@dS)),@d,aj.of (ab,h2,bC),?_};have k:=q0 H2 @ed;rw[My.agN R h0 u]at k;rw[BG];exact k
def E4(xs:@F)(k:Nat):mn xs (some @av) @r=xs.drop k:=by
 unfold mn;rw[HT.Cb,HT.M6];rw[Bo @lf];rcases aSi k xs.length with h|h;.rw[wv h]
 .rw[af_ h,wb @L,wb h]
def aAc(xs:@F)(h:0<@X):mn xs @r (some (-1))=xs.dropLast:=by
 unfold mn;rw[HT.M6];have:(mr,some (-1))=@X-1:=by show(if(u,-1)<0 then((u,-1)+(u,@X)).toNat else min (bk,-1) @X)=_;rw[ai @Z];omega
 rw[this,mM,Gf,List.dropLast_eq_take]
def E5{H:Hp}{r:db}(h:@ee):(dF,@jn):=by unfold IL at h;rwa[fC,bC]at h
abbrev Ug:aY:=top 92
def NL:(aq,["size","sides","card"],"size",Ug):=@D
def NM:Sp:=(kL,n<=52/\(eH,@br))
def aAd(F:(o,"sides_of_one_order","sides_of_one_order",Ug))(B:@a9):(bp,"size",NM):=by
 refine(h,NL,@C);.rw[dK];rfl
 .rw[f5];rw[bs,(aL,(c_,@Y),aE),(cn,NL.nd,aE),(dG,(lR,(be,aE,@Y)),2,NL.nd,ay (cn,NL.nd,bd vc @B aE)),@B];rw[co];rw[V];.rw[c6];rw[My.G4 T]at q0;exact q0
  .rw[c8];refine(e,1,n,@d,@ww,?_);refine(mn,@wG,(s6,2^i),{@d,@r,@d});.rintro i σ H1 hi⟨rfl,v,rfl⟩;refine{_,(qU,@Bn)};exact(eC,[(bn,n),@ln,(bn,@gS)],(hs,(A,2^i)*2=(A,2^@A),Dz))
   .rintro σ H1⟨rfl,v,rfl⟩;rw[aU];rw[My.LU ib,<-(@Ah)]at q0;exact q0
abbrev Uh:aY:=top 93
def NN:(aq,["size","count","card"],"size",Uh):=@D
def Ui:Sp:=(kL,n<=52/\(eH,uI n))
def aAe(F:(o,"count_of_rows","count_of_rows",Uh))(B:@a9)(b:@BB):(eu,"size",Ui):=by
 refine(h,NN,@C);.rw[dK];rfl
 .rw[f5];rw[bu,NN.nd,(cL,b),(sJ,2,NN.nd,ay (cn,NN.nd,bd vc @B @E))];refine(e,n,@d,h0,hn,?_);rw[lS];refine(mn,@wf,(s6,@uh),{@d,@r,(O,show@br*dE 0=@br by simp[dE])});.rintro i σ H1 hi⟨rfl,v,rfl⟩;refine{_,@d,_,(qU,@oe)};exact(eC,[(bn,n),@ln,(bn,@gS)],show(A,@uh)*@gS=(A,@br*dE @A)by rw[My.auJ,Lv @uh @A,(@BH)])
  .rintro σ H1⟨rfl,v,rfl⟩;rw[aU];rw[(@rL)];exact q0
abbrev Uj:aY:=top 94
def vv:(aq,["row","card","numbers","rank","place","number","behind","other","smaller"],"row",Uj):=@D
def akB(K:aM):Sp:=λvs H Q _=>∃(a:aa)(r:db),vs=@cM/\@ee/\r.length<=52/\(gi,xL (bD r))
def aAf(F:(o,"rank_of_numbers","rank_of_numbers",Uj))(B:@a9):(bp,"row",akB K):=by
 refine(h,vv,@C);.let{a,r,rfl,_}:=h;rfl
 .let{a,r,rfl,ha,hn,q0}:=h;rw[bs,(fV,2,@gH,[("card",1)],eQ @Y,(eS,1,@gH),@mc,(e6,@B)),(bd,@gH,aE),(dV,(dW,@E),4,@gH,5,@gH,(d9,6,@gH,qx @kr @E (kS @tC) vd,(aw,8,@gH,(aS,(j3,[("other",7)],@gH,eQ @bS,(eS,7,@gH),(ao,jL,@cv,@a4),@cv))),(bd,@gH,bd fb (bd vc @H (b1,(aS,@bS))) @dW))),@H];rw[cw];replace ha:=E5 ha;rw[dw,@dg,r,λc=>(a7,@cK),ha,(lT,@co)];rw[b0];have v:(r.map λc=>(b5,@cK))=(bD r).map @aY:=by unfold bD;rw[bC];rfl
  rw[v]at u;have W:(bD r).length=r.length:=by unfold bD;simp
  generalize bD r=l at u q0 W;rw[aM,D,@k6];refine(iw,D,l.map @aY,∃(v1 v4 N v6 v7 v8:@ag),σ=[@bc,v1,@cr,(aB,My.tf l i),v4,N,v6,v7,v8]/\@d_,(rE,@r,@b5),λi σ H' _⟨_,_,_,_,_,_,_,s5⟩=>(i7,u))
  .rintro i y σ H' T hi⟨v1,v4,N,v6,v7,v8,rfl,hs⟩hT;rw[aY];have cM:i<@R:=by
    rcases dH i l.length with q|q;.exact q
    .rw[ny q]at hi;cases hi
   rw[bX cM]at hi;cases hi;have G:(ch,i)=l[i]:=(d8,bX cM);rw[ee,(bV,(a7,l[i]))];rw[bP];refine(e,(E,_,_,(dx,@d,D,aj.of (ac,u),λp6 m=>?_)));rw[(v,@aL+1=(A,@A)),E4,<-wm];rw[dN,(l.drop @A).map @aY,m];rw[aF,p6,(a1,ao),@g9];refine oP @aY @q_ @xp @aY @lf I @ih @bm (λj z H' Q _ _ q=>(e,(eU,_))) (λj z H' Q _ _ q=>(am,@co)) λH5 s5 b=>?_;rw[s,show(ap,(u,z),(W,l[i]))=(ap,z,(ch,i))from kh.2 (d,G,{@d8,@d8}),@co];.refine(cm,J,(aJ,b));refine{_,@d,_,@d,p6,_,@d,(aJ,(dl,ao)),_,_,@d,@d,_,_,@d,(kZ,(a_,@e,(jX,ik)))};refine{v1,(T,i),(aB,l[i]),(J,p6),v7,(aB,@o8),?_,@jw};rw[ah,(((l.drop @A).filter @xp).map @aY).length,@o8,(O,au)];rw[e1];exact(eC,[(cB,a),v1,(cB,D),@ln,(bn,i),(bn,(W,l[i])),(cB,p6),v7,(bn,(W,@o8))],show(A,My.tf l i)*((u,((l.drop @A).map @aY).length)+1)+(u,@o8)=(A,My.tf l @A)by rw[au,ik,(v,(A,@jT)+1=(A,@jK))];show _=(A,My.tf l i*@jK+@o8);rw[GO,Lv])
  .rintro σ H'⟨v1,v4,N,v6,v7,v8,rfl,hs⟩;rw[aU];rw[au,<-My.auI];exact q0 H' (Y.trans hs)
abbrev Uk:aY:=top 95
def NO:(aq,["row","rank","card"],"row",Uk):=@D
def akC(K:aM):Sp:=(kK,0<n,n<=52/\(gi,DO r))
def aAg(F:(o,"rank_of_sides","rank_of_sides",Uk))(B:@a9)(d:@lX):(jn,akC K):=by
 refine(h,NO,@C);.rw[eg];rfl
 .rw[jV];have hl:=R.len;rw[bs,(aL,(c_,@a6),(aO,d,@lp)),(cn,NO.nd,aE),(dw,(mR,Ac Ad aE),2,NO.nd,(cn,NO.nd,bd fb (bd vc @B aE) (gf,d))),@B];replace ha:=E5 ha;rw[eO];rw[au,hl];rw[V]
  .rw[c6];let{b1,_}:=R.no_bounds (j:=0) @e;refine(E,a,_,_,_,@d,@d,ha,(fz,(@em)),told r[0],@d,?_);rw[yo b1];have k:=q0 H @b5;rw[E,DO r,az (r[0]).up,(by
    have e0:DO r=az ((r.map kg).headD @K):=by unfold DO;rw[ai (d,hl,T)]
    rw[e0];cases r with|nil=>simp at hl;omega|cons c r=>rfl)];rw[e]at k;exact k
  .rw[c8];refine(e,(dx,1,a,ha,@cu));rw[show(-@gO)=-1 from rfl,aAc _ @i2,<-aSj];rw[bn,@yl,hp];rw[c0,p,ao];refine(dr,p,@yl,(fW,σ=[@bc,(aB,(ma,i)),v]/\H'=(aH,p,@yl)),(aD,@r,@d),λi σ H' _⟨_,_,e⟩=>(cl,@ih));.rintro i y σ H' hi⟨v,rfl,rfl⟩;rw[aY];cases ec:r.dropLast[i]? with|none=>rw[ec]at hi;cases hi|some c=>rw[ec]at hi;cases hi;have C:@kT:=(My.jm.1 (R.nos.mem_iff.1 (a0,c,(asP r).subset (cZ ec)))).1;refine{_,@d,_,_,@d,@d,@Bn,_,@d,(eX,@ci,(T,@ci),?_,@d)};rw[yo C];exact(eC,[(cB,a),@ln,(bn,@ci)],show(A,(ma,i))*2+(av,@ce)=(A,(ma,@A))by rw[My.qo _ ec];unfold QM;rw[DB];simp only[zo,List.foldl_nil];omega)
   .rintro σ H'⟨v,rfl,rfl⟩;rw[aU];have k:=q0 _ Y;rw[E,DO r,QM ((r.dropLast).map kg),by unfold DO;rw[hl,af ib,aSj]];rw[au,gn,<-e];exact k
abbrev Ul:aY:=top 96
def aAh:(aq,["row"],"row",Ul):=@D
def akD(K:aM):Sp:=(kK,0<n,n<=52/\(gi,atO r))
def aAi(F:(o,"rank_of","rank_of",Ul))(B:@a9)(d:(bH,"rank_of_numbers","row",akB K))(b:@BB)(c:(is,"rank_of_sides",akC K)):(ae,3,["row"],akD K):=by
 refine(h,aAh,@C);.rw[eg];rfl
 .rw[jV];have hl:=R.len;rw[bv,hl];rw[an,bd fb (bd vc (cL,d) (aO,b,@a6)) (cL,c)];rw[iZ,r];have bn:=My.agO hn;refine{_,@d,a,(E,.inl @ct,n,by rw[au,dX];rfl,h0,hn,_,_,@d,@d,@oe,?_)};refine(e,a,r,n,@d,@ct,R,h0,hn,λH2 s2=>(cm,_,@d));have k:=q0 H2 @ed;unfold atO at k;rw[hl,GO,Lv]at k;exact k
def rf(cl:aa)(n t:Nat)(g:aa):@cU:=[("cards",.ref cl),@AC,("top",.int t),("cuts",.ref g)]
def aAj(cl:aa)(n t z:Nat)(g:aa):bJ "top" (.int z) (rf cl n t g)=rf cl n z g:=@d
structure rV(C:aa)(H:Hp)(p cl g:aa)(n:Nat)(r:db)(t:Nat)(cs:@o):@u where
 ins:(mb,rf cl n t g)
 cards:(ag,cl,@jn)
 cuts:(ag,g,cs.map @aY)
 ne:cl≠g
def cw(p cl g:aa)(H H':Hp):@u:=∀b o,@ez->@ec->b≠cl->b≠g->(R,H' b)
def rV.same{H H':Hp}{p:aa}{r:db}{t:Nat}(R:@uO)(s:@ab):(jt,r,t,cs):=by let{{dx,a},b,c,d}:=R;exact{{dx,@dw},(as,b),(as,c),d}
def akE(c:cQ):@FJ:=by let{n,u}:=c;cases u<;>simp[told,KE]
def aAk{H:Hp}{p:aa}{xs:@F}(hp:@rK)(h:@bO):aj K @ts a xs:=by rcases h with(h|⟨o',h⟩)|h;rw[fa,.inl ?_,(kv,hp)];rw[fa,(a_,o',?_),(kv,hp)];rw[ac,h]
structure Ap(K:aM)(C:aa):@u where
 cl:@fk
 nA:(ak,"cards")
 nS:(ak,"size")
 nT:(ak,"top")
 nU:(ak,"cuts")
abbrev Um:aY:=(j4,1)
def aAl:(cy,(aC,"place"),"place",Um):=@D
def Uo(C:aa):Sp:=(ob,(ci,@a3,@uO,t<n,@cT<=10000,(gm,(jt,r,i,cs++[@oK]),@j0)))
def aAm(F:(o,"bring_up","Ring.bring_up",Um))(T:@lL):(hr,"place",Uo C):=by
 refine(h,aAl,@C);.rw[jW];rfl
 .let{p,cl,g,n,r,t,cs,i,rfl,R,ht,hc,q0}:=h;let{{dx,hp},gH,l,aI}:=R;have c:p≠cl:=(s1,gH);have a:p≠g:=(s1,l);rw[a4,(aQ,(ft,bd fU (bd kR @B @aC) @aC),@lh)];refine{_,@d,p,C,dx,_,_,@d,hp,@V,T.nU,@d,(X,l),?_};refine(e,(oB,T.nT,(oB,T.nS,(bs,@e,g,l,?_))));rw[s,au,nz hc (eY,10000<a7)]
  .rw[b8,(D,a,hp),T.nT,4];refine q0 _ {{dx,(d,ao,(eC,some (HO.ins C dx z),aAj cl n t i g))},?_,?_,aI} ?_;rw[aj,aA c.symm,aA aI,gH];.rw[aA @uJ,ao];show(jI,(cs.map @aY)++[V.int ((@aL-(u,t))%@aq)])=_;rw[My.auN ht,bh];rfl
   .intro b o e Z h2 h3;rw[aA Z,aA h3];exact e
abbrev Up:aY:=(j4,2)
def Uq:(cy,["self","place","below","card"],"place",Up):=@D
def Ur(C:aa):Sp:=(ob,vs=[@ao,@a3]/\@uO/\r.length=n/\@aX/\i<n/\t<n/\@cT<=10000/\(gm,(jt,@fg,i,cs++[@oK]),@j0))
def aAn(F:(o,"exchange","Ring.exchange",Up))(T:@lL)(I:@GS):(ae,2,(aC,"place"),Ur C):=by
 refine(h,Uq,@C);.rw[jW];rfl
 .let{p,cl,g,n,r,t,cs,i,rfl,R,hl,h2,hi,ht,hc,q0}:=h;rw[f6];have hj:@f6<n:=@kC;rw[as,Uq.nd,bd fU (b1,@B) @aC,(ew,I,@B),(d9,3,Uq.nd,(ji,@B),HG (Ac Ad (ji,@E)) (HF @aC @B HQ),HG (Ac Ad @H) (HF @aC @E HQ))];refine{_,@d,_,(E,@d,_,(d3,p,hp,@V,T.nS,@d,_,_,@d,@d,@e,?_))};have ej:(@aL+1)%@aq=(A,@f6):=(O,zx);refine(e,p,dx,_,@d,hp,@d,_,@d,p,cl,g,n,r,t,cs,i,@d,R,ht,hc,λH1 d o1=>?_);let{{u,cK},a,k,_}:=d;have c:p≠cl:=B6 cK a (by intro z;cases z);refine(e,p,C,u,_,(c5,cK,@V,T.nA,(bs,cl,_,aj.of a,(hm,i,(@nF)))));refine(bT,p,C,u,cK,@V,T.nA,@d,_,@d,cl,_,(mO,_,aj.of a,fX (j:=@f6) ej (dg,(@nF))));refine(e,p,C,u,_,(c5,cK,@V,T.nA,(gB,cl,_,i,a,Iy @i2)));refine(e,(a5,_,@d,p,C,u,(c5,(D,c,cK),@V,T.nA,(gB,cl,_,@f6,ao,?_))));rw[bq,zw,ej,Iy @e]
  .refine q0 _ {{u,(ai,aA c,aA c,cK)},?_,(ai,aA aI.symm,aA aI.symm,k),aI} ?_;.rw[ao];unfold f7;rw[wj,wj,hl];rw[ez,(jI,(oW,V.int (-(told (cd r @f6))),V.int (-(told (cd r i))))),(oW,(f4,(ed,@f6)),(f4,(ed,i)))];rw[akE,akE]
   .intro b o e Z h2 h3;rw[aA h2,aA h2];exact o1 b o e Z h2 h3
def cw.trans{p:aa}{H H1 H2:Hp}(a:(gL,H1))(b:cw p cl g H1 H2):(gL,H2):=λx o e Z h2 h3=>b x o (a x o e Z h2 h3) Z h2 h3
def cw.of_same{p:aa}{H H1:Hp}(a:@cB):(gL,H1):=λx o e _ _ _=>a x o e
def Aq(a b:Int):mZ (V.int a) (V.int b)=(B,a,b):=by
 by_cases h:a=b;.subst h;simp[mZ]
 .rw[cG h];simp[mZ,h]
abbrev Us:aY:=(j4,3)
def Ut:(cy,["self","number","card"],"number",Us):=@D
def NP(C:aa):Sp:=λvs H Q _=>∃(p cl g:aa)(n:Nat)(r:db)(t:Nat)(cs:@o)(no:Nat),(ci,.int no,@uO,@G,@aQ,@e1/\@e0/\(gi,@ck))
def aAo(F:(o,"place_of","Ring.place_of",Us))(B:@a9)(T:@lL):(hr,"number",NP C):=by
 refine(h,Ut,@C);.let{p,cl,g,n,r,t,cs,no,rfl,_}:=h;rfl
 .let{p,cl,g,n,r,t,cs,no,rfl,R,J,hn,b1,b2,q0}:=h;rw[f6];have hl:=J.len;rw[an,(ra,Ut.nd,Ut.nd,@B)];rw[kO,T.nA,cl,gH];rw[kx,r,aj.of gH];rw[b0];let{pl,pe}:=(hJ,J);refine{(X,u),_,@d,D,_,_,@ck,_,@d,@d,@k6,@d,?_,(dg,(@nF)),?_,?_,@iu};rw[kr];rw[s,Aq,bq (aF,pe)];.intro m z' hm hz;rw[be,(@nF)]at hz;cases hz;rw[Aq];refine cG @c8;have:@ck=m:=My.zP J @e @e;omega
abbrev Uu:aY:=(j4,0)
def aAp:(bf,@u7,@u7,Uu):=@D
def NQ(K:aM)(C:aa):Sp:=λvs H Q _=>∃(p a dx:aa)(r:db)(n t:Nat),vs=[@ao,@W,.int t]/\@n3/\(dF,@jn)/\@c9/\∀(H':Hp)(cl g:aa),(jt,r,t,[])->(I,cl)->(I,g)->@n_->Q @cI H'
def aAq(F:(jf,"Ring.__init__",Uu))(B:@a9)(T:@lL):(ae,1,@u7,NQ K C):=by
 refine(h,aAp,@C);.let{p,a,dx,r,n,t,rfl,_}:=h;rfl
 .let{p,a,dx,r,n,t,rfl,hp,ha,hl,q0}:=h;rw[a8,(aZ,(fT,SU,@B)),(ec,@rw,@E,ay @nO)];rw[aO,a,@dN,@i9];have d:p≠c:=du hp hc;have cK:(cA,(ag H c (.lst @jn)) p,[]):=(D,d,hp);have i:aj K (aH,c,@jn) a @jn:=(aH @bj hc).seq ha;rw[gV,T.nA];refine{_,@d,a,_,@d,.inl (aAk cK i),_,@d,p,(dD,ao,T.nS,1)};rw[b8,ao,T.nT,2];rw[ax,@nu];have j:p≠u:=du ao hu;have l:c≠u:=by refine du (o:=.lst @jn) ?_ hu;rw[(@k4),(@k4),(@k4),ao]
  rw[dT,j,T.nU,3];refine q0 _ c u {{dx,by rw[ao,au,hl];rfl},?_,?_,l} hc ?_ ?_;.rw[(@k4),aA l,(@k4),(@k4),(@k4),ao]
  rw[ay,(@wn),ao];.have:=hu;rw[kU];exact this
  .intro b o e hb;have g:b≠c:=du e hc;have M:(I,u):=by have:=hu;rw[kU];exact this
   rw[(@dV),(fR,M),(@dV),(@dV),(@dV),aA g];exact e
abbrev Uv:aY:=top 113
def aAr:(ay,["row","other"],"row","other",Uv):=@D
def qG(n:Nat)(r q:db):Nat:=@uy
def akF(K:aM)(C:aa):Sp:=(h6,@G,@ap/\0<n/\@aQ/\@lS=@h/\∀(H':Hp)(p cl g:aa),(jt,(gS,@h1,@h1),@JA,[])->@dK->(I,cl)->(I,g)->@ab->Q @ao H')
def aAs(F:(o,"ring_of","ring_of",Uv))(B:@a9)(p:@JQ)(m:(kf,"Ring",@u7,NQ K C)):(jp,4,akF K C):=by
 refine(h,aAr,@C);.rw[dL];rfl
 .let{a,b,r,q,n,rfl,ha,hb,R,S,h0,hn,jv,q0}:=h;have hl:=R.len;have I:=E5 ha;have fin:∀(H1:Hp)(x dx a1:aa)(k t:Nat),@cB->(cV,x)->(cV,dx)->dx≠x->aj K @oY a1 ((r.drop k++r.take k).map @dg)->@h1=k->@JA=t->NQ K C (@gQ::([.ref a1,.int t]++[])) @oY @KP E0:=by
   intro H1 x dx a1 k t Y nx nd ne sq D et;refine{x,a1,dx,_,n,t,@d,ao,sq,by simp[hl];omega,λH' cl g N c1 c2 W=>@kB};rw[<-D,<-et]at N;have s2:@ab:=Y.trans (ae.made nx nd W);have hx:(I,x):=Y.free nx;have f1:∀u,(ag (ag H1 dx (.own x)) x (ad,[])) u=@r->(I,u):=λu hu=>by
    by_cases e1:u=x;.rw[e1,ao]at hu;cases hu
    .rw[aA e1]at hu;by_cases e2:u=dx;.rw[e2,ao]at hu;cases hu
     .rw[aA e2]at hu;exact Y.free hu
   exact q0 H' x cl g N hx (f1 _ c1) (f1 _ c2) s2
  have keep:∀(H1:Hp)(x dx a1:aa)(xs:@F),(cV,x)->(cV,dx)->aj K H1 a1 xs->aj K @oY a1 xs:=by
   intro H1 x dx a1 xs nx nd h;by_cases e:x=dx;.subst e;rw[kX,ag (ag H1 x (.own x)) x (.ins C x []),(g3,nx)];exact Y.seq h
   .rw[kX,@oY,(g3,nd)];exact Y.seq h
  have d:∀(H1:Hp),@cB->@h1=0->HN C (NQ K C) [] E0 (oY,0) (L2.start ["row","other"] [@W,@aH]) H1 Q:=by intro H1 Y e0;rw[am,λx dx nx nd ne=>fin H1 x dx a 0 0 Y nx nd ne ?_ e0 (O,e0)];rw[mM,DG,gk];exact keep H1 x dx a _ nx nd (Y.seq I)
  rw[bb,(aL,(eB,(c_,@a6),(bL,(fF,(cE,p,@B)))),Ak m @cf (be,bd m_ (qx @kr @Y (kS aE) vd) (mR,aE),(d_,@a6))),Ak m @cf (be,@Y,aE)];refine(e,a,_,@d,.inl I,@vT);rw[au,hl];rw[V]
  .rw[c6];refine(e,(E,a,b,r,q,n,@d,ha,hb,R,S,hn,@qt));rw[k9];rw[lD];have fO:(F,Lx 0 r q)↔@dS=1:=by
    have L:=jv;rw[My.agN R h0 T,iR]at L;have su:@dS=0\/@dS=1:=by have hm:@dS∈gL r q:=cZ uw;have lQ:@dS∈(bt r.length).map (λno=>@j5):=hm;let{x,_,e}:=bf.1 lQ;have h2:=eX (bB r x+bB q x) (eY,2>0);rw[e]at h2;omega
    have fY:∀no∈@aD,@j5=@dS:=λno ck=>bT (L _ (by unfold gL;rw[hl];exact(a0,no,ck)));have i:(W,1)∈@aD:=My.jm.2 @tH;unfold Lx;rw[My.rD R];constructor
    .intro hf;rcases su with q0|O;.exfalso;have:((bt n).all λno=>@j5==0)=@h:=iR.2 λno ck=>(ab,fY no ck,q0);rw[this]at hf;cases hf
     .exact O
    .intro lg;refine ig.2 λht=>?_;have:=iR.1 ht 1 i;rw[fY 1 i,lg]at this;cases this
   refine{p1,_,_,(gC,_,@d,@d,aj.of Z,(fz,uw))};rw[cx]
   .have e1:@dS=1:=(mf,bT cN);have es:@h1=1:=by unfold qG;rw[ai {T,fO.2 e1}]
    refine{_,@d,1,@d,a,_,@d,Y.seq I,@fX};rw[(@Ck),E4,<-wm];rw[c3,@DF,b7];refine{_,@d,1,@d,a,_,@d,s2.seq I,@sS};have JV:mn @jn @r (some @gO)=@A8:=by unfold mn;rw[HT.M6,(@Ck),HT.Cb,mM,Gf,wo,au,hl,wv @e]
    rw[JV];have s3:=(cu,@A8,s2,M);have y:=(hU,@A8,M,(aG,H1,p2,@DF));refine{p2,(dY,p3,y,ao,?_,λp4 c=>?_)};.rw[au,au,ik,eD];exact jb @a2
    .rw[<-bh];rw[dN,(r.drop 1++r.take 1).map @dg,c];refine(e,a,_,@d,.inl (s4.seq I),_,_,@d,@d,λx dx nx nd ne=>?_);have:=fin _ x dx p4 1 @aw s4 nx nd ne (keep _ x dx p4 _ nx nd @ih) es (O,es);rw[(gY,@aw,@aq-1)]at this;rw[au,hl];exact this
   .have e1:¬@dS=1:=λe=>cN (bq (show(b6,@dS)=V.int 1 by rw[e];rfl));rw[j2,e1 (fO.1 z.2)];exact d H1 Y es
  .rw[c8];rw[j2,ib z.1];exact d H @b5 es
abbrev qH(C:aa)(H:Hp)(p cl g:aa)(n:Nat)(G:db)(t0:Nat)(l:@o):@u:=rV C H p cl g n @lq @xL (cuts n t0 l)
def qH.push{H:Hp}{p:aa}{G:db}{t0:Nat}{l:@o}{i:Nat}(R:rV C H p cl g n (f7 @lq i) i (cuts n t0 l++[(i+n-@xL)%n])):(ei,H,l++[i]):=by
 unfold qH;rw[My.zO,My.Q7];have:(l++[i]).getLastD t0=i:=by simp[aSk]
 rw[aa];exact R
def Uw{t0:Nat}{l:@o}(h:@m1)(ht:t0<n):@xL<n:=by rw[aSk];cases e:l.getLast? with|none=>exact ht|some x=>exact h x (afd e)
def aAt{p:aa}{H H':Hp}{xs:@F}(o:@j0)(Z:@ec)(h2:b≠cl)(h3:b≠g)(h:aj K H b xs):aj K H' b xs:=by rcases h with(h|⟨o',h⟩)|h;rw[Q,.inl (o _ _ h Z h2 h3)];rw[Q,(a_,o',o _ _ h Z h2 h3)];rw[ac,h]
def aAu{i:Nat}{y:V}(h:(C,(aT,q),y)):i<@T/\y=(f4,cd q i):=by
 rw[be,fC,be]at h;rcases dH i q.length with hi|hi;.rw[My.oG hi]at h;cases h;exact{hi,@d}
 rw[bM,ny hi]
abbrev Ux:aY:=top 114
def IA:(ay,["ring","other","place","card","at"],"ring","other",Ux):=@D
def akG(K:aM)(C:aa):Sp:=λvs H Q _=>∃(p cl g b:aa)(n:Nat)(G q:db)(t0:Nat),(ci,@aH,(ei,H,[]),aG n G,@Ay,@ap/\@aQ/\t0<n/\@ec/\b≠cl/\b≠g/\(gm,(ei,H',(di,G)),@j0))
def aAv(F:(o,"put_in_order","put_in_order",Ux))(B:@a9)(JW:@B5)(c:@JP):(aI,3,"ring","other",akG K C):=by
 refine(h,IA,@C);.let{p,cl,g,b,n,G,q,t0,rfl,_}:=h;rfl
 .let{p,cl,g,b,n,G,q,t0,rfl,R,L,hb,J,hn,ht,e1,e2,e3,q0}:=h;have m:=J.len;have W:@nM:=by simp[bD,m]
  have dX:(jS,q)=n:=by rw[fC,au,au,m]
  rw[a4,ay (dV,(dW,@B),2,IA.nd,3,IA.nd,(aQ,(cI,IA.nd,(eo,JW,@tQ)),tN dh (ao,j4,@ak,@E) (aQ,(cI,IA.nd,(d_,@ak)),(ew,c,@ak))))];rw[aM,b,hb];refine(iw,b,(aT,q),∃(v2 O v4:@ag),σ=[@e5,@fF,v2,O,v4]/\(ei,H',@oo)/\@j0,{@r,@r,@r,@d,R,cw.of_same @bj},λi σ H' _⟨_,_,_,_,_,o⟩=>aAt o e1 e2 e3 hb)
  .rintro i y σ H' T hi⟨v2,O,v4,rfl,R',o'⟩hT;let{cM,rfl}:=aAu hi;have l:i<n:=@e;let{b1,b2}:=My.pk J l;have r:=(aK,(bV,.int @wZ),H',hT);have fY:∀j∈@oo,j<n:=My.L8 _ _ L.len;rw[gN,b8 G @oo,fY];have bG:(eN @zz 0 G).length<=2704:=(rb,eD,(v,min i (bD q).length<=52));have t:eN ((bD q).take @A) 0 G=@oo++eC (placeOf (b8 G @oo) @jR) i:=by rw[Gj,show(C,@cZ,@jR)by unfold bD;rw[be,My.oG cM];rfl,BJ,My.agX,eD,oz,wv @e]
   let{hs,_}:=(hJ,I2);have e:∃dx,(jA,rf cl n ((eN @zz 0 G).getLastD t0) g):=R'.ins;generalize v:@oo=E' at*;generalize hS:placeOf (b8 G E') @jR=S at*;let{dx,hp}:=e;rw[bP];refine(e,(hN,dx,r _ _ hp,@wZ,@d,p,cl,g,n,_,_,_,@jR,(O,vm),R'.same r,I2,hn,b1,b2,λH2 s2=>?_));rw[hS];have o2:(gL,H2):=o'.trans (cw.of_same (r.trans s2));refine Ce (λσ H3=>∃k:Nat,k<=S-i/\σ=(q5,@eF-k)/\(ei,H3,@BZ)/\(gL,H3)) (λσ _=>@FX) {0,@e,(O,(v,@eF-(A,0)=@eF)),(ai,DG,gk,(R'.same r).same s2),o2} ?_;rintro σ H3⟨k,hk,rfl,U,o3⟩;refine(e,(eU,_));rw[V]
   .have X:i+k<S:=@dY;have d:∀j∈@BZ,j<n:=by
     intro j hj;rcases bz.1 hj with h|h;.exact fY j h
     rw[aQ,My.LW (Bm h)]
    have I3:aG n (b8 G @BZ):=My.uT _ L d;let{Z,M}:=U.ins;rw[bN,σ'=(q5,@eF-(A,@aV))/\(ei,H',E'++(eC S i).take @aV)/\@j0];.rintro σ' H4⟨rfl,R4,D⟩;refine{_,?_,@d,@aV,@e,@d,R4,D};show(@eF-(A,@aV)).toNat<(@eF-@av).toNat;omega
    .refine(e,_,_,@d,@d,_,@d,p,Z,_,@d,M,@d,_,@d,p,cl,g,n,_,_,_,(q1,S-1-k,U,@e,{?_,?_,o3.trans D}));.show(j6,@tc)=(j6,(A,S-1-k));rw[(v,(A,S-1-k)=@tc)]
     .rw[My.L6,dj,eD];omega
     .show[(cB,p),(cB,b),(bn,(W,i)),(bn,@wZ),(bn,@tc)]=_;rw[(v,@tc=@eF-(A,@aV))]
     .rw[My.Q3 @e,<-eM];exact qH.push R4
   .have fG:S<=i+k:=(fr,¬@aL<@eF-@av,@uj);rw[Bo (af,My.LV),<-t]at U;exact{_,_,_,@d,U,o3}
  .rintro σ H'⟨v2,O,v4,rfl,R',o'⟩;rw[dX,Bo @e]at R';exact q0 H' R' o'
abbrev Uy:aY:=top 116
def Uz:(ay,["ring","number","start","step"],"ring","number",Uy):=@D
def akH(C:aa):Sp:=λvs H Q _=>∃(p cl g:aa)(n:Nat)(G:db)(t0:Nat)(l:@o)(no:Nat),(ci,.int no,(ei,H,l),aG n G,@m1,@R<=8000/\@aQ/\t0<n/\@e1/\@e0/\(gm,(ei,H',l++lZ @lq no),@j0))
def aAw(F:(o,"bring_round","bring_round",Uy))(B:@a9)(T:@lL)(JW:@B5)(c:@JP):(aI,3,"ring","number",akH C):=by
 refine(h,Uz,@C);.let{p,cl,g,n,G,t0,l,no,rfl,_}:=h;rfl
 .let{p,cl,g,n,G,t0,l,no,rfl,R,L,hl,vP,hn,ht,b1,b2,q0}:=h;rw[gN,@lq,hl];let{hs,_}:=(hJ,I2);rw[a7];have b:lZ @lq no=(a2,@aw,((cb,@lq)+i)%n):=by unfold lZ;rw[I2.len]
  generalize hS:(cb,@lq)=S at*;rw[a4,(aQ,(bP,Uz.nd,(eo,JW,@B)),(fu,(d_,@aC),3,Uz.nd,ay (ew,c,bd fU (bd fb @E @H) @aC)))];refine{_,@d,p,dx,_,@d,hp,@d,(a5,p,cl,g,n,_,_,no,@d,R,I2,hn,b1,b2,λH1 Y=>?_)};rw[hS];refine(E,p,C,(fB,(aV,hp),T.nS,@Hi));refine va (n:=@wG) (λi σ H'=>(fW,σ=[@e5,(T,no),(T,S),v]/\(ei,H',@EG)/\@j0)) {@r,@d,by rw[List.range_zero,xG,gk];exact R.same Y,cw.of_same Y} ?_ ?_
  .rintro i σ H' hi⟨v,rfl,R',o'⟩;have d:∀j∈@EG,j<n:=by
    intro j hj;rcases bz.1 hj with h|h;.exact hl j h
    .let{a,_,rfl}:=bf.1 h;exact@kC
   have I3:=My.uT _ L d;let{Z,M}:=R'.ins;refine{_,@d,p,Z,_,@d,M,@d,(cQ,_,@d,(bT,p,C,Z,M,@V,T.nS,@d,_,_,@d,@d,@e,p,cl,g,n,_,_,_,(q1,(S+i)%n,R',@kC,{(T,@bQ),@d,?_,o'.trans D})))};.show(j6,(@eF+@bQ)%@aq)=(j6,(A,(S+i)%n));rw[zx,(gY,S+i,@eF+@bQ)]
   .rw[My.L6,dj,au,lu];omega
   .rw[qY,bh,<-eM];exact qH.push R4
  .rintro σ H'⟨v,rfl,R',o'⟩;rw[(@Ah),<-b]at R';exact q0 H' R' o'
abbrev UA:aY:=top 115
def NR:(ay,(dQ,"ring","other","card"),"ring","other",UA):=@D
def akI(K:aM)(C:aa):Sp:=λvs H Q _=>∃(p cl g b:aa)(n:Nat)(r2 q:db)(t:Nat)(cs:@o),(ci,@aH,rV C H p cl g n r2 t cs,aG n r2,@Ay,@ap/\@aQ/\∀(H':Hp)(d:aa),@ab->(I,d)->(aP,d,(wrong r2 q).map @aY)->Q @cD H')
def aAx(F:(o,"cards_on_wrong_side","cards_on_wrong_side",UA))(B:@a9)(T:@lL)(d:@lX):(aI,2,"ring","other",akI K C):=by
 refine(h,NR,@C);.let{p,cl,g,b,n,r2,q,t,cs,rfl,_}:=h;rfl
 .let{p,cl,g,b,n,r2,q,t,cs,rfl,R,I2,hb,J,hn,q0}:=h;rw[f6];have m:=J.len;rw[an,(j3,[("place",2),("card",3)],NR.nd,(dW,@B),(fm,2,NR.nd,3,NR.nd),(ao,tO,(eI,d),(aO,d,(ji,@E))),@tQ)];have G:=E5 hb;rw[aO,b,G,@bZ];refine Nv @dg q @Kc (ls,@l9) @e hD G @cg (λi z H' Q hz hs k=>?_) (λi z H' Q _ _ k=>(lT,@g1)) @sT
  .have hi:i<n:=(d6,m,hz);have a:z=cd q i:=by have:=My.oG (r:=q) (i:=i) @e;rw[dA];exact bZ this
   let{c1,_}:=My.pk J hi;let{c2,_}:=My.pk I2 hi;refine{_,@d,told z,@d,_,@d,p,(iz,(bw,hp),T.nA,(kS,cl,(dK,@d,(hi,gH),(hm,i,My.oG (aW,I2.len)),told (cd r2 i))))};rw[yo c2,a,yo c1,ft];rw[E,!(B,(av,@rX),(av,@zb)),@rX !=@zb,by cases(cd q i).up<;>cases(cd r2 i).up<;>rfl];have k':=@g1;rw[a]at k';rw[e];exact k'
  .refine q0 H1 D Y hD ?_;rw[Z];unfold wrong;rw[bC];rfl
abbrev UB:aY:=top 117
def UC:(np,"ring","number",UB):=@D
def akJ(K:aM):Sp:=(h6,∃o,@ez,@G/\@ap/\0<n/\@aQ/\@lS=@h/\(f6,(wayTo r q).map @aY))
def aAy(F:(o,"way_to","way_to",UB))(B:@a9)(T:@lL)(aF1:(dU,"ring_of","other",4,akF K C))(aF2:(Z,"put_in_order",["ring","other"],3,akG K C))(aF3:(Z,"cards_on_wrong_side",["ring","other"],2,akI K C))(aF4:(Z,"bring_round",["ring","number"],3,akH C))(I:@GS)(JW:@B5):(jp,5,akJ K):=by
 refine(h,UC,@C);.rw[dL];rfl
 .let{a,b,r,q,n,rfl,ha,hb,{ob,C8},R,S,h0,hn,jv,q0}:=h;have hm:=My.auR R S h0 jv;rw[as,UC.nd,(cE,aF1,@B),dr (cK,aF2,@B),(gd,(dw,(cK,aF3,@B),3,UC.nd,dr (cK,aF4,@H)),dr (gF,I,@E,(gF,JW,@E,(e6,@f0))),@df)];refine{_,(cO,a,b,r,q,n,@d,ha,hb,R,S,h0,hn,jv,λH1 p cl g N np X t Y=>?_)};have ec:@h1=@uy:=rfl;rw[<-ec]at hm;generalize@h1=c at N hm;dsimp only at hm;have L:aG n @ph:=My.L5 R;generalize@ph=G at N hm L;have ht:@uw<n:=by split<;>omega
  generalize@uw=t0 at N hm ht;have bp:@ec:=du C8 np;have bcl:b≠cl:=du C8 X;have bcu:b≠g:=du C8 t;have k:∀{H'},cw p cl g H1 H'->@ab:=λ{H'}o x u e=>o x u (Y x u e) (du e np) (du e X) (du e t);refine(e,(E,p,cl,g,b,n,G,q,t0,@d,N,L,@k_,S,hn,ht,bp,bcl,bcu,@Dw));have l:(hd,(di,G)):=My.L8 _ _ L.len;have FE:(eN @cZ 0 G).length<=2704:=(rb,show@nM by simp[bD,S.len],hn);generalize(di,G)=e at R2 l FE hm;rw[gN,@hZ,l];have su:IL K H2 b (bI q):=(k o2).seq hb;refine{_,@d,_,@d,p,cl,g,b,n,_,q,_,_,@d,R2,I2,su,S,hn,λH3 d s3 nd h3=>?_};have ll:(wrong @hZ q).length<=52:=by unfold wrong;rw[au];refine(cH,?_);rw[Lp,S.len];exact hn
  have JY:∀no∈wrong @hZ q,1<=no/\@e0:=by intro no ck;unfold wrong at ck;rw[aZ,ck];let{z1,z2}:=My.Q_ (gR.1 hx).1;rw[<-z2];exact My.pk S (G,S.len,z1)
  generalize wrong @hZ q=W at h3 ll JY hm;have dp:d≠p:=λz=>by let{dx,h}:=@tm;rw[z,h]at nd;cases nd
  have dcl:d≠cl:=(oE,R2.cards);have dcu:d≠g:=(oE,R2.cuts);rw[c0,d,h3];have o3:cw p cl g H1 H3:=o2.trans (cw.of_same s3);have J:∀i,i<=@e8->(lY (W.take i) @hZ).length<=2704:=λi _=>by refine cU (My.Q8 _ _ I2.len) ?_;rw[eD];exact Ge (v,min i @e8<=52) hn
  have CL:∀i,∀j∈@Aw,j<n:=λi j hj=>by
   rcases bz.1 hj with h|h;.exact l j h
   .exact My.Q9 h0 _ _ I2.len j h
  refine(dr,d,W.map @aY,(fW,σ=[@bc,@fF,@e5,v]/\(ei,H',@Aw)/\cw p cl g H1 H'/\(aP,d,W.map @aY)),{@r,@d,by rw[DG,show lY [] @hZ=[]from rfl,gk];exact R2.same s3,o3,h3},λi σ H' _⟨_,_,_,_,h⟩=>aj.of h);.rintro i y σ H' hi⟨v,rfl,R',o',U⟩;rw[aY];cases O:W[i]? with|none=>rw[gd]|some no=>rw[O]at hi;cases hi;let{b1,b2}:=JY no (cZ O);have hiw:i<@e8:=(fk.1 O).1;have bG:=J i @e;refine{_,@d,_,@d,p,cl,g,n,G,t0,@Aw,no,@d,R',L,CL i,(af,dj),hn,ht,b1,b2,λH4 R4 D=>{_,@d,?_,o'.trans D,D _ _ U dp dcl dcu}};rw[Gj,O,BJ,My.agY,<-eM,<-My.zO];exact R4
  .rintro σ H'⟨v,rfl,R',o',U⟩;rw[au,gn]at R';have fY:=CL @e8;have bG:=J @e8 @L;rw[gn]at fY bG;have I3:=My.uT _ L fY;let{Z,M}:=R'.ins;have s5:=k o';let{b1,b2}:=My.pk S h0;refine{_,@d,p,Z,_,@d,M,@d,?_};refine(e,(hN,Z,M,b,_,_,_,@d,@d,s5.seq (E5 hb),(fz,My.oG (d,S.len,h0)),told (cd q 0),@d,p,cl,g,n,_,_,_,(ca,0),(O,vm),R',I3,hn,b1,b2,λH5 s6=>?_));refine{p,cl,g,n,_,_,_,placeOf (b8 G (e++lY W @hZ)) (ca,0),@d,R'.same s6,Uw fY ht,(c9,My.L6,dj),λH6 R6 o6=>?_};let{{dx6,m},_,aF_,_}:=R6;refine{_,@d,p,C,dx6,_,_,@d,m,@V,T.nU,@d,q0 H6 g (k (o'.trans ((cw.of_same s6).trans o6))) ?_};rw[aF_,hm,My.Q7]
def IB(ns:@J)(n:Nat):@an:=!(@za||((B,n,1)&&@u4))&&ns.all λz=>(bY,0,z)&&decide (z<n)
abbrev UD:aY:=top 118
def UE:(p1,UD):=@D
def akK(K:aM):Sp:=(px,@aM<=4000/\(cj,IB ns n))
def aAz(F:(o,"is_way","is_way",UD))(B:@a9):(aI,1,"numbers","size",akK K):=by
 refine(h,UE,@C);.let{a,ns,n,rfl,_}:=h;rfl
 .let{a,ns,n,rfl,ha,hn,q0}:=h;rw[bb,(iM,(bL,@a6),(eB,(bL,@B),(gN,@a6))),(kN,(b8,"number",2,UE.nd,@Y,2,UE.nd,(o6,@B)))];have bG:@H1=@aM:=au _;refine pF @za ((B,n,1)&&@u4) (gX,(f1,a,@dN)) (λQ' q=>EX (B,n,1) @u4 (gX,@hL) (λQ' q=>(E,a,_,(dM,@dN))) q) ?_;.rw[ft,bG,(fh,(gO,@s_),@za)];exact q
  rw[aj,ft,(fy,@aq,1,n,1),q];rw[aj,bG,(fh,(ap,@gO,@s_),@u4),q]
  .unfold IB at q0;rw[V];.have q:=q0 H @b5;rw[hc]at q;exact q
   .rw[(@h7)]at q0;rw[cw];rw[dw,@aJ,ns,λz=>.bl ((bY,0,z)&&decide (z<n)),ha,(eU,_)]
    .have k:=@co;rw[V];.rw[hc,Bx]at k;exact(dx,_,_,@d,k)
     .rw[(@h7),wx]at k;exact k
    .rw[b0];refine{D,ns.map (λ(z:Int)=>(bY,0,z)&&(ap,z,@aq)),@d,aj.of (ab,u,bC),?_};rw[BG];exact@iu
abbrev UF:aY:=top 119
def E6:(jo,"way","size","result","number","two_turned","way",UF):=@D
def akL(K:aM):Sp:=λvs H Q _=>∃(a b:aa)(r:db)(l:@o)(n:Nat),(cz,@aH,@ee,aj K H b (l.map @aY),@c9,0<n/\@aQ/\@gc/\@xN/\@Ci/\(f6,(aT,(au,wq n l))))
def aAA(F:(o,"walked","walked",UF))(B:@a9)(G:@CU)(AY:@vy)(JZ:@Cf):(e5,3,"way",akL K):=by
 refine(h,E6,@C);.let{a,b,r,l,n,rfl,_}:=h;rfl
 .let{a,b,r,l,n,rfl,ha,hb,hl,h0,hn,aI,hk,h2,q0}:=h;have dX:(jS,r)=n:=by rw[fC,au,au,hl]
  rw[My.ag1 h0 l r hl aI hk h2]at q0;obtain⟨u,l',rfl⟩:∃u l',l=u::l':=by cases l with|nil=>rw[a2,aI]|cons x y=>exact{x,y,@d}
  have vL:u<n:=hk u @v;have d:=λk(hk:k<n)=>My.jK (jb hk) h0;rw[a8,(bP,@pT,@a6),(cJ,3,@pT,(cE,G,(cK,AY,@f0)),(jm,(mK,aE),4,@pT,(aw,5,@pT,(aU,G,@H,(cK,JZ,aE))),(bd,@pT,(aU,G,@a4,(cK,AY,@ak)))),@H)];rw[aM,a,@dN];rw[dX];refine(E,_,@d,(cQ,b,_,hb,@lw,n,u,@d,h0,hn,jb vL,λH1 p1 Y m1=>?_));refine{a,p1,r,cS n u,@d,@ct,m1,(eG,(d u vL).len),(d,hl,My.nI (d u vL)),λH2 p2 s2 m2=>?_};refine{_,@d,1,@d,b,_,@d,(i_,hb),@sS};rw[(@Ck),E4,<-wm];have g:(u::l').drop 1=l':=rfl;rw[g];have s3:=(cu,@nw,@ed,M);have e:=(ax,@nw,H2,M);rw[c0,p3,ao];have h3:(aa,(ag H2 p3 (.lst @nw)) p3,@nw):=ao;rw[c4,p3,@nw];refine(dr,p3,@nw,∃(v4 N:@ag)(c:aa),σ=[@bc,@fF,@fD,(J,c),v4,N]/\ae H3 H'/\(aP,c,(aT,@Au))/\(My.Et n r (u::l'.take i)).length=n,{@r,@r,p2,@d,@b5,e _ _ m2,by show(done (cS n u) r).length=n;unfold done;rw[au,(d u vL).len]},λi σ H' _⟨_,_,_,_,s,_⟩=>aj.of (as,h3))
  .rintro i y σ H' hi⟨v4,N,c,rfl,s4,hc,gH⟩;rw[aY];cases O:l'[i]? with
   |none=>rw[gd]
   |some k=>
    rw[O]at hi;cases hi;have v:k<n:=hk k (by simp[cZ O]);have S:@aX:=h2 (by have:=(fk.1 O).1;simp;omega);have HT:=My.qr (n:=n) S;have T:My.Et n r (u::l'.take @A)=done @cm (done @ca @Au):=by show(l'.take @A).foldl _ _=_;rw[Gj,O,BJ,DB];rfl
    generalize@Au=D at*;refine(e,_,@d,n,2,@d,h0,hn,S,λH5 p5 s5 m5=>?_);refine{c,p5,D,@ca,@d,(i7,hc),m5,(eG,HT.len),(d,gH,My.nI HT),λH6 p6 s6 m6=>?_};refine(E,_,@d,_,@d,n,k,@d,h0,hn,jb v,λH7 U s7 m7=>?_);have m:(done @ca D).length=n:=(j8,HT.len);refine{p6,U,done @ca D,@cm,@d,aj.of (eg,m6),m7,(eG,(d k v).len),(d,m,My.nI (d k v)),λH8 p8 s8 m8=>?_};refine{_,_,p8,@d,(((s4.trans s5).trans s6).trans s7).trans s8,(d,T,m8),?_};rw[T];unfold done;rw[au,(d k v).len]
  .rintro σ H'⟨v4,N,c,rfl,s4,hc,gH⟩;rw[au,gn]at hc;exact(am,q0 H' c @f5 hc)
abbrev UG:aY:=top 30
def aAB:(aq,["byte"],"byte",UG):=@D
def IC:Sp:=λvs H Q _=>∃b:Nat,vs=[@nA]/\Q (.str @cS) H
def aAC{l:aa}(F:(o,"kind_of","kind_of",UG))(G:Cf mg)(D:Dic P w K mg l):(bp,"byte",IC):=by
 refine(h,aAB,@C);.let{b,rfl,_}:=h;rfl
 .let{b,rfl,q0}:=h;rw[bs,(q6,G.FIRST_LETTER,@FY),(q6,G.FIRST_DIGIT,@yj),(aL,(dS,(dC,@Y,dB G.BLANK),(dC,@Y,dB G.LINE_END)),cR),aj7 D.SIGNS D.SIGNS_d @Y cR @ur];unfold bQ at q0;refine EX (bY,97,@hX) (ap,@hX,97+26) @o7 @Hf ?_;rw[V];.have Z:@j_:=@Kq;rw[ai Z]at q0;exact q0
  .have Z:¬@j_:=@Kx;rw[(@cl)]at q0;dsimp only[rP,pC,tM];refine EX (bY,48,@hX) (ap,@hX,48+10) @o7 @Hf ?_;rw[V];.have h2:@lU:=@Kq;rw[ai h2]at q0;exact q0
   .have h2:¬@lU:=@Kx;rw[(@fb)]at q0;try dsimp only[rP,pC,tM]
    rw[iN,(B,@hX,32),(B,@hX,10),ft,ft];rw[V]
    .have h3:@pl:=by rw[mN,bU,bU]at hc;omega
     rw[ai h3]at q0;exact q0
    .have h3:¬@pl:=λz=>hc (by rw[mN,bU,bU];omega);rw[af h3]at q0;refine(Q,_,@d,(bG,b),?_);rw[ay6];exact q0
abbrev UH:aY:=top 31
def NS:(ay,["text","place","kind","end"],"text","place",UH):=@D
def akM(K:aM):Sp:=(oc,vs=[@W,.int p]/\@h0/\@eB/\(eH,@aN))
def aAD(F:(o,"end_of_piece","end_of_piece",UH))(B:@a9)(N:@vs):(aI,2,"text","place",akM K):=by
 refine(h,NS,@C);.let{a,t,p,rfl,_}:=h;rfl
 .let{a,t,p,rfl,ha,hp,q0}:=h;rw[fe];rw[as,NS.nd,@J0,(bd,NS.nd,(b1,@B)),(bu,(hk,(dS,(bX,@E),(bX,@E)),tN dh (eB,(ao,jL,@H,@a6),(dC,(aO,N,@y4),@E)) (ay (bd,NS.nd,(b1,@H)))),@H)];rw[kB,ha];unfold bw at q0;generalize hk:@aW=k at q0;rw[aM,_,@d];dsimp only[kn,rP,pC,tM];rw[iN,(B,k,"word"),(B,k,"number"),fu,fu];rw[V]
  .have Z:@pf:=by rw[mN,bU,bU]at hc;exact hc
   rw[ai Z]at q0;have fG:=Tp k @hO;rw[ik]at fG;rw[c_,H'=H/\∃j:Nat,j<=@jf/\σ=(sr,p+1+j),match σ with|[_,_,_,some (.int y)]=>@ta-@qx|_=>0,{@d,0,@aO,@d}];rintro σ H1⟨rfl,j,hj,rfl⟩;refine(e,(E,a,_,(dM,@dN)));rw[bG];have exit:¬j<@jf->Q (b6,p+1+j) H1:=λc=>(d,(v,j=@jf),q0);rw[V]
   .have bn:p+1+j<@ah:=@dY;refine{_,@d,_,(ke,a,_,ha,(dK,Iq bn,(ek,p+1+j),@d,_))};rw[fu];rw[V]
    .have b:=@b6;have d:j<@jf:=by
      rcases dH j (hX k (t.drop (p+1)))with z|z;.exact z
      .have ej:j=@jf:=@e;have:=aka k @hO @lf;rw[<-ej,drop_getD]at this;exact absurd b this
     rw[ad,λσ' H'=>H'=H1/\σ'=(sr,p+1+@aj),?_,{_,@d,_,_,@d,@d,@d,@d}];rintro σ' H'⟨rfl,rfl⟩;refine{_,?_,@d,@d,@aj,@e,@d};show@ta-(cM,p+1+@aj)<@ta-(cM,p+1+j);omega
    .rw[am,exit @np];have:=Tq k @hO j z;rw[drop_getD]at this;exact(bm,this)
   .rw[am,exit @np];exact(bm,@e)
  .have Z:¬@pf:=λz=>hc (by rw[mN,bU,bU];exact z);rw[(@cl)]at q0;exact(am,q0)
abbrev UI:aY:=top 33
def NT:(aq,["spelt","number","byte"],"spelt",UI):=@D
def UJ(K:aM):Sp:=(h7,vs=@cM/\@h0/\(∀x∈t,48<=x)/\(eH,o_ t))
def aAE(F:(o,"number_of","number_of",UI))(G:Cf mg):(bp,"spelt",UJ K):=by
 refine(h,NT,@C);.rw[dO];rfl
 .let{a,t,rfl,ha,ht,q0}:=h;rw[bu,NT.nd,aE,(dw,@Y,2,NT.nd,(cn,NT.nd,bd kR (bd fb (bd vc @B aE) @E) @yj))];rw[aF,a,@mg,(dr,a,t.map @aY,H'=H/\(fW,σ=[@bc,(aB,@zW),v]),{@d,@r,@d},λi σ H' _⟨e,_⟩=>(cl,ha))];.rintro i y σ H1 hi⟨rfl,v,rfl⟩;rw[aY];cases O:t[i]? with|none=>rw[gd]|some x=>rw[O]at hi;cases hi;have hx:=ht x (cZ O);refine{_,@d,_,(a5,@d,@Bn,_,@d,_,(bs,@d,@d,@d,(T,x)))};exact(eC,[(cB,a),@ln,some @ma],show(A,@zW)*10+(u,x)-48=(A,o_ (t.take @A))by rw[E,o_ (t.take @A),10*@zW+(x-48),by unfold o_;rw[Gj,O,BJ,DB];rfl];rw[e];omega)
  .rintro σ H1⟨rfl,v,rfl⟩;rw[au,gn];exact(am,q0)
abbrev UK:aY:=top 34
def UL:(pT,UK):=@D
def UM(K:aM):Sp:=(h7,vs=@cM/\@h0/\@ah<=1000/\(cj,My.x9 t))
def aAF(F:(o,"is_decimal","is_decimal",UK))(B:@a9)(G:Cf mg)(N:@vs):(eu,"spelt",UM K):=by
 refine(h,UL,@C);.rw[dO];rfl
 .let{a,t,rfl,ha,hl,q0}:=h;rw[fe];rw[bb,(iM,(bL,@a6),(dR,(kN,(b8,"byte",1,UL.nd,@Y,1,UL.nd,(b7,(dp,N),cR))))),Sv (b7,@a6,aE) (rO (de,tO,@lp,@yj))];unfold My.x9 at q0;refine{_,(f1,a,@dN)};rw[bG,ft];rw[V];.have h0:@ah=0:=@dY;rw[E,t,[],o5.1 h0];subst e;have q:=q0 H @bj;exact q
  .have h0:0<@ah:=by
    rcases ae3 t.length with z|z;.exact absurd (bq (O,z)) hc
    .exact z
   rw[cw];rw[dw,@aY,t,λx=>.bl @uI,ha,{_,@d,z,@d,@d,(d,fu,@co)}];rw[b0];rw[ag,t.map λx=>V.bl @uI,(t.map λx=>@uI).map V.bl,(O,bC)];rw[e2]at u;refine(cm,D,@k6);have e3:(t.map λx=>@uI).all id=t.all QN:=by rw[BG];congr 1;funext x;exact(E1 x).symm
   rw[e3];rw[aU];have O:=@iu;rw[(@Gx)]at O;rw[cx]
   .have hd:(F,t.all QN):=by simpa using cN
    rw[hd]at O;exact O
   .have hd:t.all QN=@h:=by simpa using cN
    rw[hd]at O;refine{_,@d,a,_,@d,.inl @ct,@d,?_};rw[bG,ft,(fy,(u,@ah),1,@ah,1)];rw[aU];rw[aE,λj=>?_,λj=>?_];.rw[j]at O;exact O
    .rw[ig.2 j]at O;refine{_,@d,a,(iU,@ct,Iq h0)};rw[ft];rw[E,!(B,(A,(ek,0)),48),decide ((ek,0)≠48),by
      by_cases z:(ek,0)=48;.rw[z];rfl
      rw[ay,bq z,(@g5)]];rw[e];exact O
abbrev UN:aY:=top 35
def aAG:(aq,["spelt"],"spelt",UN):=@D
def akN(K:aM):Sp:=(h7,(fN,@h0,0<@ah,@mT,(∀x∈t,bQ x="number")/\(cj,oQ t)))
def aAH(F:(o,"is_number","is_number",UN))(B:@a9)(G:Cf mg)(j:@GM):(ae,3,["spelt"],akN K):=by
 refine(h,aAG,@C);.rw[dO];rfl
 .let{a,t,rfl,ha,h0,hl,hd,q0}:=h;rw[fe];rw[an,(o4,G.MOST_DIGITS,(cL,j))];unfold oQ at q0;rw[kc,@dN];rw[bG];rw[aU];rw[V];.have Z:@ah<=13:=@dY;refine{_,@d,a,t,@d,ha,hl,λH' Y=>?_};have q:=q0 H' Y;rw[E,My.x9 t,@B8,by unfold My.x9;have e1:t.all QN=@h:=iR.2 λx hx=>(r,E1,bq (hd x hx));rw[e1,(@Gx)];simp];rw[bq Z,Bx,<-e]at q;exact q
  .have Z:¬@ah<=13:=λz=>(bm,@e);have q:=q0 H @bj;rw[cG Z,wx]at q;exact q
structure wY(K:aM)(C:aa):@u where
 cl:@fk
 nK:(ak,"kind")
 nP:(ak,"place")
 nS:(ak,"spelt")
 nW:(ak,"word")
 nN:(ak,"number")
def akO{b:Nat}(h:@cS="word"):@j_:=by
 unfold bQ at h;split at h;.assumption
 rw[lb]
def akP{b:Nat}(h:@cS="number"):@lU:=by
 unfold bQ at h;split at h;rw[ai,h,@aG]
 .split at h;.assumption
  rw[lb]
abbrev UO:aY:=top 32
def UP:(pT,UO):=@D
def akQ(K:aM):Sp:=(h7,(fN,@h0,@mT,∀x∈t,97<=x/\x<123,(kR,.str (vo t))))
def aAI(F:(o,"word_of","word_of",UO))(G:Cf mg):(bp,"spelt",akQ K):=by
 refine(h,UP,@C);.rw[dO];rfl
 .let{a,t,rfl,ha,hl,ht,q0}:=h;rw[an,ayJ cR (b8,"byte",1,UP.nd,@Y,1,UP.nd,bW ajp (ay1 G.LETTERS) (bd kR @B @FY) @cg)];refine{@eD,_,@d,a,@d,@mg,@bZ};refine(sh,t,λb=>V.str ⟨#[b]⟩,ha,λi z H' Q hz _ q=>?_);.let{Z,h2}:=ht z @nx;exact{_,@d,_,_,@d,@d,_,_,z,@d,@d,@aG,ay7 Z h2,@co}
  .rw[b0];refine{_,D,t.map @o3,(cU,(aJ,(ab,u,bC)),?_)};.rw[E,((t.map @o3).map (·.length)).sum,@ah,(by clear u ha ht hl q0;induction t with|nil=>rfl|cons x t ih=>rw[cb,cb,ij,ih,cX];show 1+@ah=_;omega)];rw[e];show@ah+(t.map @o3).length*0<=16777216;omega
   rw[s,ay8,@iu]
abbrev UQ:aY:=iF (top 29) 0
def aAJ:(bf,@vt,@vt,UQ):=@D
def akR(C:aa):Sp:=λvs H Q _=>∃(p dx sp:aa)(kd:aq)(pl:Nat),vs=[@ao,.str kd,.int pl,.ref sp]/\@n3/\(gm,(jA,pf kd pl sp "" 0),@n_)
def aAK(F:(jf,"Piece.__init__",UQ))(T:wY K C):(ae,1,@vt,akR C):=by
 refine(h,aAJ,@C);.let{p,dx,sp,kd,pl,rfl,_}:=h;rfl
 .let{p,dx,sp,kd,pl,rfl,hp,q0}:=h;rw[a8,@lh,(ec,@E,@H,(aQ,@ry,(aZ,aE)))];rw[gY,T.nK];rw[b8,ao,T.nP,1];rw[b8,ao,T.nS,2];rw[aW,ao,T.nW,3];rw[aW,ao,T.nN,4];refine q0 _ (O,ao) λb o e hb=>?_;rw[(@dV),(@dV),(@dV),(@dV),(@dV)];exact e
def UR(xs:@F){p e:Nat}(hp:p<=e)(he:(iV,e)):(oQ,(u,p),(u,e),p,e-p):=(pR,wv (v,p<=@X),wv he)
def wZ(C:aa)(k H:Hp)(p:aa)(x:Pc):@u:=∃dx sp,@Iq/\@D4/\@yO/\k p=@r/\k sp=@r
def wZ.same{H H':Hp}{p:aa}{x:Pc}(h:@uQ)(s:@ab):wZ C k H' p x:=by let{dx,sp,a,b,c,d,e}:=h;exact{dx,sp,@dw,(as,b),c,d,e}
inductive nc(C:aa)(k H:Hp):(Y,@aa,@cQ)|nil:nc C k H [] []|cons{p x ps xs}:@uQ->@ka->nc C k H (p::ps) @lj
def nc.same{C:aa}{k H H':Hp}{ps:@aa}{xs:@cQ}(h:@ka)(s:@ab):nc C k H' ps xs:=by induction h with|nil=>rw[bp]|cons a _ ih=>rw[cO,a.same s]
def nc.push{H:Hp}{ps:@aa}{xs:@cQ}{p:aa}{x:Pc}(h:@ka)(hx:@uQ):nc C k H (ps++[p]) (xs++[x]):=by induction h with|nil=>exact(dX,hx)|cons a _ ih=>rw[cO,a]
def nc.len{H:Hp}{ps:@aa}{xs:@cQ}(h:@ka):@y9:=@C5
abbrev US:aY:=top 36
def UT:(bf,["text","place","end","spelt","piece"],["text","place","end"],US):=@D
def akS(K:aM)(C:aa):Sp:=(oc,vs=[@W,.int p,(a7,@aN)]/\@h0/\@mT/\@eB/\(mV,wZ C H H' q @mh))
def aAL(F:(o,"piece_at","piece_at",US))(T:wY K C)(N:@vs)(J0:(kf,"Piece",@vt,akR C))(O:(bH,"word_of","spelt",akQ K))(R:(Z,"is_number",["spelt"],3,akN K))(M:@Fq):(ae,4,["text","place","end"],akS K C):=by
 refine(h,UT,@C);.let{a,t,p,rfl,_}:=h;rfl
 .let{a,t,p,rfl,ha,dX,hp,q0}:=h;rw[cJ];have fG:=EZ hp;have eI:@iA=@aN-p:=@Kt;rw[a9,3,UT.nd,(kj,@B,@E),(cI,UT.nd,Ak J0 @cf (ab @J0 (be,@B,@H))),(gd,(hk,(bX,(id,@ak)),cT @ak (eI,O) @d),(hk,(bX,(id,@ak)),bN (iY (eI,R)) (ay (cT @ak (eI,M) @d)) (ay (cT @ak cR @d))),@ak)];refine(e,(E,_,@d,(dx,_,a,ha,λsp D=>?_)));rw[UR _ @e (fp,fG),<-wm,<-wo];rw[bn,@pA,D];have I:(aa,(ag H sp (.lst @pA)) sp,@pA):=ao;have g:∀H1,@cB->(aa,H1 sp,@pA)->∀(q dx:aa),(I,q)->(cA,H1 q,pf @uv p sp (gb t p @aN).word @ps)->Q @bi H1:=by
   intro H1 Y Z q dx U h2;have aI:@vp≠[]:=by intro z;have z2:@iA=0:=dg lz z;omega
   exact q0 H1 q Y ⟨dx,sp,h2,Z,aI,U,D⟩
  show _;rw[kB,@ct];rw[cE,λq dx n nd ne=>?_];refine{q,dx,sp,@aW,p,@d,ao,λH2 B W=>@kB};have s2:@jH:=Y.trans (ae.made n nd W);have J:(aa,H2 sp,@pA):=ae.made n nd W _ _ I;have y:(I,q):=Y.free n;have c:sp≠q:=du I n;have j:@uv=(H,@aW,"number",(j0,@ju,@aW),@aW):=rfl;have G:(gb t p @aN).word=(H,@aW,"word",vo @dL,""):=rfl;have m:@ps=(H,@aW,"number",(L,@ju,o_ @dL,0),0):=rfl;have l:∀k,@aW=k->@pf->∀x∈@dL,bQ x=k:=λk e hw=>akc e hw hp;generalize@aW=k at*;have L:k="number"->∀x∈@dL,bQ x="number":=λe x hx=>(cg,l k @d (.inr e) x hx);rw[gX,B];rw[fu];rw[V];.have d:k="word":=@b6;have xx:¬k="number":=(le,d);refine{_,@d,sp,_,@d,aj.of J,@e,λx hx=>akO (G,d,l k @d (.inl d) x hx),λH3 s3=>?_};refine(ef,q,C,dx,(ac,B),@V,T.nW,(el,5),?_);rw[gX,ao];rw[fu];rw[aE,λcN=>absurd (bT cN) xx,@gC];rw[hq];rw[gU,(ac,s2 b o e)];rw[aK,c,(ac,J)];.rw[ao,j,af xx,G,ai d,m,af xx];rfl
  .have d:¬k="word":=@uj;rw[gX,B];rw[fu];rw[cx]
   .have v:k="number":=bT cN;refine{_,@d,sp,_,@d,aj.of J,@e,@e,L v,@sU};have O8:=(ac,B);have r:=(ac,J);have u:=@g8;rw[aE,λhb=>?_,λhb=>?_];.refine{_,@d,sp,_,@d,aj.of r,λx hx=>(akP (L v x hx)).1,?_};refine{_,@d,q,(dD,O8,T.nN,5)};rw[hq];rw[gU,u b o e];rw[aK,c,r];.rw[ao,j,ai v,ai hb,G,af d,m,ai v,ai hb];rfl
    .refine{_,@d,q,(dD,O8,T.nK,5)};rw[hq];rw[gU,u b o e];rw[aK,c,r];.rw[ao,j,ai v,af hb,G,af d,m,ai v,af hb];rfl
   .have v:¬k="number":=λz=>cN (bq z);rw[am,g _ s2 J q dx y ?_];rw[B,j,af v,G,af d,m,af v]
abbrev UU:aY:=top 37
def ID:(aq,(dQ,"text","pieces","end"),"text",UU):=@D
def UV(C:aa)(k H:Hp)(l:aa)(xs:@cQ):@u:=∃ps:@aa,@tv/\@ka/\k l=@r
def UW(K:aM)(C:aa):Sp:=(h7,vs=@cM/\@h0/\@mT/\∀(H':Hp)(l:aa),(eR,UV C H H' l @pd,@bb))
def aAM(F:(o,"pieces_of","pieces_of",UU))(B:@a9)(N:@vs)(Z:(Z,"end_of_piece",["text","place"],2,akM K))(W:(Z,"piece_at",["text","place","end"],4,akS K C)):(ae,5,["text"],UW K C):=by
 refine(h,ID,@C);.rw[dO];rfl
 .let{a,t,rfl,ha,dX,q0}:=h;rw[fe];rw[a9,1,ID.nd,@bg,(bP,ID.nd,aE),(bu,tN dh (ao,jL,@E,@a6) (d9,3,ID.nd,(cE,Z,@E),(jg,(ao,tO,(aO,N,@rS),cR),@B,(nf,W)),(bP,ID.nd,@H)),@B)];rw[br];rw[jy];rw[c_,∃(p f:Nat)(v:@ag)(done:@cQ),p<=@ah/\@ah=f+p/\(g4,[@bc,@cr,(T,p),v],UV C H H' D @hv,done.length<=p,@hv++fN t f p=@pd),match σ with|[_,_,some (.int y),_]=>@ah-@qx|_=>0,{0,@ah,@r,[],@e,@e,@d,j,{[],ao,@ay,hD},@L,@d}];rintro σ H1⟨p,f',v,done,hp,hf,rfl,Y,hd,xz,he⟩;refine(e,(E,a,_,(eN,@ct)));rw[bG];rw[V]
  .have bn:@eB:=@dY;rw[cJ];have fG:=EZ bn;obtain⟨f2,rfl⟩:∃f2,f'=f2+1:={f'-1,@e};have T:fN t (f2+1) p=@vw++(ez,@j1):=by
    rw[ah,fN t (f2+1) p,@vw++(ez,f2),(fH,@u5,bn)];rw[e1];congr 1;have key:∀k,(ez,@j1+k)=(ez,@j1):=by intro k;induction k with|zero=>rfl|succ k ih=>rw[<-DD,akb t _ _ @e,ih]
    have:=key (f2-@j1);rw[(v,@j1+(f2-@j1)=f2)]at this;exact this
   rw[bN,∃n:@cQ,σ'=[@bc,@cr,(aB,@aN),(aB,@aN)]/\@ab/\UV C H H' D n/\n.length<=p+1/\n++(ez,@j1)=@pd];.rintro σ' H'⟨n,rfl,b1,b2,O,R⟩;refine{_,?_,@d,@aN,@j1,_,n,fG,@e,@d,b1,b2,@e,R};show@ah-(cM,@aN)<@ah-(cM,p);omega
   .refine(e,_,@d,a,t,p,@d,@ct,bn,?_);refine{_,(kS,a,(dK,@d,@ct,Iq bn,@kl))};rw[fu];let{ps,u,L,_}:=hd;rw[V]
    .have m:¬@aW="blank":=λz=>by rw[bq z]at hc;simp at hc
     refine(a5,(X,u),_,@d,_,@d,@d,a,t,p,@d,@ct,dX,bn,λH2 q s2 U=>?_);refine{D,_,_,(cU,(aM,u),?_)};rw[ba,L.len,@a2]
     .refine{_,@d,@hv++[@mh],@d,(aE,@ed),{ps++[q],(ab,ao,bh),?_,hD},@aS,?_}
      .have o:wZ C H H2 q @mh:=by let{dx,sp,a1,M,J,I,a5}:=U;exact{dx,sp,a1,M,J,Y.free I,Y.free a5}
       have e:=(L.same s2).push o;clear T;generalize ps++[q]=ps2 at e;generalize@hv++[@mh]=d2 at e;have l:=(aM,u);have up:∀{p' d},wZ C H H2 p' d->wZ C H (an,H2,D,(bK,@bB,q)) p' d:=by
        rintro p' d⟨dx,sp,e1,e2,e3,G,e7⟩;refine{dx,sp,(D,(λz=>by rw[z,l]at e1;cases e1),e1),?_,e3,G,e7};by_cases z:sp=D
        .exfalso;rw[z,l]at e2;have e4:@bB=d.spelt.map @qC:=by injection e2 with e2;injection e2
         cases g:d.spelt with|nil=>exact e3 g|cons b r=>rw[g]at e4;cases ps with|nil=>cases e4|cons c r'=>injection e4 with e5;cases e5
        rw[aK,z,e2]
       induction e with|nil=>rw[bp]|cons a _ ih=>rw[cO,up a]
      .rw[T,af m]at he;rw[eM];exact he
    .have ie:@tW:=by
      by_cases z:@tW;.exact z
      .rw[cG z]at hc;simp at hc
     refine{_,@d,@hv,@d,Y,⟨ps,u,L,hD⟩,@e,?_};rw[T,ai ie,Bt]at he;exact he
  .have um:p=@ah:=(fr,¬(u,p)<(u,@ah),@uj);have S:f'=0:=@e;subst S;have:fN t 0 p=[]:=rfl;rw[this,gk]at he;rw[am,q0 H1 D Y ?_];rw[<-he];exact hd
def aAN(x s:Nat):(H,(u,s),1,-(u,x),(u,x))=told ⟨x,s==1⟩:=by
 unfold told;by_cases h:s=1;.subst h;simp
 rw[ay,(@bd),af @yA]
def aAO(o s:@o):((nL o).zip (nL s)).map (λz=>V.int (H,z.2,1,-z.1,z.1))=(aT,@b4):=by rw[fC];unfold fM nL;rw[List.zip_map,bC,bC,bC];rw[ak];intro z _;show V.int (H,(A,z.2),1,-(A,z.1),(A,z.1))=(f4,⟨z.1,z.2==1⟩);rw[aAN]
def akT{i:Nat}(h:i<n):(C,@aD,@A):=by unfold bt;rw[be,xK h];rfl
def Co{H:Hp}(h:@kL)(hb:@bP):a≠b:=(gw,hb)
def akU(xs:@F)(k:Nat):mn xs @r (some @av)=xs.take k:=by
 unfold mn;rw[HT.Cb,HT.M6,mM,Gf];rcases aSi k xs.length with h|h;.rw[wv h]
 .rw[af_ h,gn,Bo h]
def IE{α β:@az}(f:α->β):∀(l:@as)(i:Nat),@DG=@DH|[],_=>rfl|_::_,0=>rfl|a::l,i+1=>(gk,f a::@DG,f a::@DH,IE f l i)
def aAP(i m:Nat):@HL:=@EO
def aAQ(i m:Nat):i/dE m/@aP=i/dE @aP:=by rw[aSl];show i/(dE m*@aP)=i/(@aP*dE m);rw[zv]
def aAR{i j c:Nat}(h:(ah,(gM,i),c))(hj:j<n):c<n-j:=by rw[nr];simp only[fB,au,lu,be]at h;rw[xK @e]at h;simp at h;rw[iU];omega
def aAS(m i:Nat):((br @aP).map @Ao)=(iW,@Ao)++[(i/2^m)%2]:=(ab,qY,bh)
abbrev UX:aY:=top 8
def NU:(ay,["numbers","sides","number","side"],"numbers","sides",UX):=@D
def UY(K:aM):Sp:=λvs H Q _=>∃(a b:aa)(o s:@o),(cz,@aH,(fE,nL o),IL K H b (nL s),@uz,@bY<=52/\(f6,(aT,@b4)))
def aAT(F:(o,"with_sides","with_sides",UX))(B:@ad):(aI,1,"numbers","sides",UY K):=by
 refine(h,NU,@C);.let{a,b,o,s,rfl,_}:=h;rfl
 .let{a,b,o,s',rfl,ha,hb,he,hn,q0}:=h;rw[an,(ig,[("number",2),("side",3)],NU.nd,(kM,@Y,@B),(fm,2,NU.nd,3,NU.nd),oN (bL,@H) (Ac Ad @E) @E)];refine{_,@d,_,@d,a,b,_,_,@d,ha,hb,@bZ};refine(rj,nL o,nL s',(H,y,1,-x,x),(af,j5),(c9,j5,j5),ha,hb,?_)
  .rw[bl];rw[ft];rw[V];.have hc:=@b6;rw[cE,?_];have k:=@g1;rw[ai hc]at k;exact k
   .have hc:¬y=1:=λq=>(bm,q);rw[aU];have k:=@g1;rw[af hc]at k;exact k
  .rw[aAO]at h3;exact q0 H3 D s3 h3
abbrev UZ:aY:=top 97
def Ar:(bf,["row","numbers","place","side","sums","at","number","sides","change","other"],@xt,UZ):=@D
def U1(K:aM):Sp:=λvs H Q _=>∃(a b:aa)(r:db)(o:@o)(n p s:Nat),vs=[@W,@aH,.int p,.int s]/\@ee/\IL K H b (nL o)/\@G/\@bY=n/\@F9/\p<n/\@aQ/\(hy,x8 r o p s)
def aAU(F:(o,"sides_by_one","sides_by_one",UZ))(B:@ad)(m:@va):(ae,3,@xt,U1 K):=by
 refine(h,Ar,@C);.let{a,b,r,o,n,p,s,rfl,_}:=h;rfl
 .let{a,b,r,o,n,p,s',rfl,ha,hb,R,W,L,hp,hn,q0}:=h;rw[a8,(cI,@ku,(cL,m)),(gd,(fV,7,@ku,[("at",5),("number",6)],(dW,@B),(fm,5,@ku,6,@ku),@mc,(eL,(bi,@ak,(d_,@bS)),@a4)),(aw,8,@ku,(eL,(bi,@cv,@E),@H)),(b8,"other",9,@ku,@cv,9,@ku,(eL,@k9,@dW)))];rw[h_];rw[aO,b,@k_,@bZ];have qO:=@k_;rw[Am]at qO;refine Nv @aY o @eX (λz=>.int (A,(bI,z.1,z.2))) @e hD qO @cg @pU @F_ @qN;.let{z1,z2}:=L z @nx;refine{_,@d,_,@d,_,_,@d,@d,p1,_,_,(a5,@d,(hi,Z),(py,z,z),_,@d,@BR)};have k:=@co;rw[(v,z-1+1=z)];rw[zx,GO]at k;exact k
  .rw[(@fC)]at h2;rw[ag,o.zipIdx.map λz=>(b6,(bI,z.1,z.2)),(pr,@aY),(O,bC)];rw[e2]at h2;have c:(hy,(pr,λz=>(z+(@FV+s')%2)%2)):=q0;have vP:(o.zipIdx.map λx=>@mM).length=n:=by simp[W]
   clear q0 e2;generalize@D0=l at h2 c vP;have d:(K,l,p,(ch,p)):=(d8,(@em));refine(e,(E,D,_,_,_,@d,@d,@ig,(hm,p,d),_,@d,_,_,@d,@d,_,_,@d,@d,@de,?_));rw[aF,D,(a1,h2),@g9];refine oP @aY l @eX (λz=>.int (A,(z+((ch,p)+s')%2)%2)) @e I @ig @bm @pU (λi z H' Q _ _ q=>{_,@d,_,@d,_,@BR}) @xl;.have k:=@co;rw[zx,GO,zx,GO]at k;exact k
   .rw[(@fC)]at h3;refine c H3 J @i5 ?_;rw[h3,Am,bC];rfl
abbrev U2:aY:=top 98
def akV:(bf,(dQ,"row","sides","settled"),["row","sides","place"],U2):=@D
def U3(K:aM):Sp:=λvs H Q _=>∃(a b:aa)(r:db)(l:@o)(n p:Nat),vs=[@W,@aH,.int p]/\@ee/\IL K H b (nL l)/\@G/\(cD,p)/\@aQ/\@R<=52/\(hy,kL r l p)
def aAV(F:(o,"settled_by_others","settled_by_others",U2))(B:@ad)(t:@BD):(ae,3,["row","sides","place"],U3 K):=by
 refine(h,akV,@C);.let{a,b,r,l,n,p,rfl,_}:=h;rfl
 .let{a,b,r,l,n,p,rfl,ha,hb,R,hp,hn,hl,q0}:=h;rw[a9,3,akV.nd,(fT,SU,@B),HG (eL,bd fb (cL,t) (h1,qx @kr @B vd (kS @E)),(h1,(mK,(b1,@E)))) (HF @H @E HQ),(aY,@H)];rw[aO,b,.inl hb,@bZ];rw[bn,@jL,hD];refine{_,@d,a,_,@d,@ct,by rw[fC,au,R.len];omega,λH1 s2=>?_};have u:=(aM,(aG,H,D,@jL));have s3:=@ed;refine(e,(dx,_,b,s3.seq hb,@sV));rw[akU];rw[dN,@Cv,cK];have d4:=(fJ,.lst @Cv,ae.refl H1,cK,u);rw[ah,@Cv,(V,l.take p),by unfold nL;rw[<-wo,<-wo]];refine{p1,nL (l.take p),@d,aj.of (r,ao,e1),?_};refine{_,_,@d,@d,_,@d,_,@d,_,_,(dx,@d,b,s4.seq hb,@fX)};rw[(v,(u,p)+1=(A,p+1)),E4];have s5:=(cu,@Cw,s4,b7);have C:=(hU,@Cw,b7,d4);rw[ag,@Cw,(V,l.drop (p+1)),by unfold nL;rw[<-wm,<-wm]];refine{p2,nL (l.drop (p+1)),@d,aj.of (r,ao,e2),?_};refine{_,_,@d,@d,_,_,@d,@d,@de,_,@d,_,@d,D,_,(mO,p,C,Iy (bO,j5,hp))};refine q0 _ D (aE,s5) ?_;rw[ao,NH R,Iv,Iv];unfold kL nL;rw[wj,wj];congr 3
abbrev U4:aY:=top 99
def Cq:(ay,["size","rank","choices","left","to_come","numbers","choice"],"size","rank",U4):=@D
def akW(K:aM):Sp:=(sd,@aQ,(hy,(hH,i)))
def aAW(F:(o,"numbers_of_rank","numbers_of_rank",U4))(B:@ad):(aI,1,"size","rank",akW K):=by
 refine(h,Cq,@C);.let{n,i,rfl,_}:=h;rfl
 .let{n,i0,rfl,hn,q0}:=h;rw[as,@mr,@bg,(sJ,3,@mr,(aQ,(cq,@E,bd fU @B @H),(cn,@mr,bd B9 @B @H))),aw (cI,@mr,(nJ,(be,aE,(b1,@Y)))) (cJ,5,@mr,@bg,(dG,(nB,@E),6,@mr,(dk,@a4,eR dO zH zI aju @ak (ab @bS ac))),@a4)];rw[br];rw[cv];rw[lS];refine(mn,@wf,@ab/\(b0,(V,fB i0 i))/\(fW,σ=[@fD,(aB,i0/dE i),@cr,v,@r,@r,@r]),{Y,ao,@r,(O,show i0/dE 0=i0 by simp[dE])})
  .rintro i σ H1 hi⟨s2,d2,v,rfl⟩;refine{_,@d,(X,d2),(cQ,_,@d,(bs,(g5,@gS),D,d2,by rw[au,j5];simp only[fB,au,lu];exact@a2))};refine(E,_,@d,_,_,@d,@d,(sF,@gS,@gS),(aE,s2),?_,(T,@gS),?_);.rw[ao,aAP];unfold nL;rw[bh,bh];rw[ez,(jI,_++[V.int ((A,i0/dE i)%@gS)]),_++[(b6,(i0/dE i)%@A)]];rw[zx,(@BH)]
   .rw[<-aAQ,QL (i0/dE i) @A,(@BH)];rfl
  .rintro σ H1⟨s2,d2,v,rfl⟩;rw[(@rL)]at d2;rw[h7];rw[hJ,λT hT=>?_];rw[(@rL)];have s3:=aH (o:=@lR) s2 b7;have d3:=(fJ,@lR,@b5,b7,d2);have p:=Co d3 hT;have r:=s3.free hT;rw[mc];rw[et];rw[dN,@ja,hT];have d4:=(hU,@ja,hT,d3);have t4:=(aG,ag H1 p2 @lR,T,@ja);rw[ax,λN S=>?_];have q:=Co d4 S;have FO:=Co t4 S;have t:=s4.free S;have s5:=(cu,[],s4,S);have C:=(hU,[],S,d4);have t5:=(hU,[],S,t4);rw[aM,D,aj.of C];have gH:(mD,fB i0 n)=n:=by simp[nL,fB]
   have e:(fB i0 n).length=n:=by simp[fB]
   refine azk (K:=K) (a:=D) (xs:=(V,fB i0 n)) @d (λi σ H'=>@ab/\(b0,(V,fB i0 n))/\∃(b l:@o)(v1 O v6:@ag),(aP,T,@jL)/\(aP,N,(V,b))/\@R=n-i/\@bX=i/\b++jY @KT l=(hH,i0)/\σ=[@fD,v1,@cr,O,(J,T),(J,N),v6]) {s5,C,[],@aD,_,_,@r,t5,ao,My.gq n,@d,@d,@d} (λi σ H' _ h=>aj.of @eK) ?_ ?_
   .rintro i x σ H' hx hi⟨s6,d6,b,l,v1,O,v6,t6,m,vP,g,j,rfl⟩;rw[gH]at hx hi;have eh:∃c,(C,(gM,i0),c)/\x=(b5,c):=by rw[be,Ch]at hx;rw[DE @e,e];cases ec:(fB i0 n)[n-1-i]? with|none=>rw[ec]at hx;cases hx|some c=>rw[ec]at hx;exact(aD,c,(bZ hx).symm)
    let{c,hc,rfl}:=eh;have u:=aAR hc hi;have d:(cD,c):=@e;have J4:@KT=c::(fB i0 n).reverse.drop @A:=by have bn:=(fk.1 hc);let{Z,h2}:=bn;rw[v_ Z,h2]
    rw[J4]at j;rw[l5,m,t6,c,l[c],t6];rw[ba,j5,aSm @e @e];rw[aL,be,Ch,bX d]
    .refine{N,_,_,(cU,(D,FO.symm,m),(bO,j5,@a2))};refine{cF (cF s6 r) t,(ai,aA q,aA p,d6),b++[l[c]],@nv,v1,O,(aB,c),?_,?_,?_,?_,?_,@d};.rw[aA FO,ao];unfold nL;rw[IE,IE]
     rw[nj];.rw[ae9,ai d];omega
     rw[ay,dj,g];.rw[<-j,eM];show b++(l[c]::_)=b++((ch,c)::_);rw[dy,bX d];rfl
   .rintro σ H'⟨s6,d6,b,l,v1,O,v6,t6,m,vP,g,j,rfl⟩;rw[am,q0 H' N s6 ?_];rw[<-j,gH,wb (ai,jU,e,@L)];rw[ez,_,(V,b++[])];rw[gk];exact m
abbrev U5:aY:=top 100
def NV:(ay,["size","rank","sides","place"],"size","rank",U5):=@D
def akX(K:aM):Sp:=(sd,0<n,n<=52/\(hy,nO @aw i))
def aAX(F:(o,"sides_of_rank","sides_of_rank",U5))(B:@ad):(aI,1,"size","rank",akX K):=by
 refine(h,NV,@C);.let{n,i,rfl,_}:=h;rfl
 .let{n,i0,rfl,h0,hn,q0}:=h;rw[as,NV.nd,@bg,(fu,(d_,@Y),3,NV.nd,(aQ,(cq,@E,(dI,@B)),(cn,NV.nd,bd B9 @B aE))),(aY,(nC,@E))];rw[br];rw[cv];refine(e,@Hi);refine(hA,@wG,@ab/\(b0,(V,(jF,λj=>(i0/2^j)%2)))/\(fW,σ=[@fD,(aB,i0/2^i),@cr,v]),{Y,ao,@r,(O,show i0/2^0=i0 by simp)})
  .rintro i σ H1 hi⟨s2,d2,v,rfl⟩;refine{_,@d,(X,d2),_,@d,_,_,@d,@d,(bs,@de,D,d2,by rw[au,j5,au,lu];exact@a2)};refine(e,_,_,@d,@d,{@de,(dA,(u,2)<1073741824)},(aE,s2),?_,(T,@bQ),?_);.rw[ao,aAS];unfold nL;rw[bh,bh];rfl
   rw[ay,show i0/2^@A=i0/2^i/2 by rw[Dz,aSl],QL (i0/2^i) 2]
  .rintro σ H1⟨s2,d2,v,rfl⟩;rw[aO,D,aj.of d2,@cu];refine q0 _ p (aH s2 hp) ?_;rw[ao];unfold nO nL;rw[<-KR,<-KR,(@Ah)]
abbrev U6:aY:=top 101
def IF:(jo,"rank","size","numbers","rest","sides","rank",U6):=@D
def akY(K:aM):Sp:=λvs H Q _=>∃(a:aa)(r:db)(n i:Nat),(cz,@a3,@ee,@G,0<n,@aQ/\i<uI n/\(it,(aT,Ly r i)))
def aAY(F:(o,"row_of_rank","row_of_rank",U6))(B:@ad)(g:(cW,"numbers_of_rank","size","rank",akW K))(b:@BB)(O:@Js)(k:@HK)(v:@IP)(d:(cW,"sides_of_rank","size","rank",akX K)):(e5,4,"rank",akY K):=by
 refine(h,IF,@C);.let{a,r,n,i,rfl,_}:=h;rfl
 .let{a,r,n,i,rfl,ha,R,h0,hn,hi,q0}:=h;rw[bv,R.len];rw[as,IF.nd,@a6,(bd,IF.nd,(cK,g,bd azN @B (gf,b))),(bR,4,IF.nd,bd fU @B (gf,b),(aL,(c_,@E),(aU,O,@H,(iL,k,@Y,@H,aE,@ak))),(bu,(aw,5,IF.nd,(es,v,@Y,bd m_ (cK,d,@ak) @pR,(d_,@E))),(aU,O,@H,@a4)))];rw[aM,a,@dN];rw[au,dX];have D:0<@br:=(qe,My.G4 e,My.LU e,asK @Z);refine{_,@d,_,(cO,n,@d,h0,hn,_,_,@d,@d,{(g5,(W,@br)),by have:=My.agO hn;show(A,@br)<18446744073709551616;omega},n,@h4,(O,QL),hn,@qt)};refine{_,@d,_,@d,n,@d,h0,hn,_,_,@d,@d,(g5,(W,@br)),?_};dsimp only;rw[<-zx i @br];rw[co];have hp:=My.RH @h4 n;rw[ni,(r,hp.length_eq,My.gq)];have L:∀x∈(hH,@h4),1<=x/\x<=n:=λx hx=>My.jm.1 (hp.mem_iff.1 hx);rw[V];.rw[c6];have e:=My.ava R h0 T hi;refine{_,@d,_,@d,_,@d,_,@d,a,p1,r,_,n,0,i%@br,@d,@ct,aj.of Z,R,bG,L,h0,hn,@jv};refine{p1,p2,_,_,@d,@of,@ig,by rw[bG];simp[x8,bG],@e,@ga};refine q0 H3 p3 @i5 ?_;rw[My.G4 T]at h3;rw[h3,e]
  .rw[c8];have e:=My.avb R ib hi;have eI:@Li=@aw:=by simp[nO]
   refine{_,@d,_,@d,_,@d,n,i%@br,@d,h0,hn,@jv};rw[P,@fY,@sS];have s3:=(ax,[@cy],H2,M);refine{p2,(dY,p3,(ac,h2),ao,by rw[au,j5,eI];exact@un,λp4 c=>?_)};rw[dN,(V,@on)++[@cy],c];have e4:(V,@on)++[@cy]=(V,@on++[0]):=@BT;refine{_,@d,_,_,@d,@d,a,p4,r,@on++[0],n,@aw,by show[@m7,V.ref p4,V.int (@aq-1)]=[@m7,V.ref p4,(b6,@aw)];rw[(v,@aq-1=(A,@aw))],(Y.trans @yg).seq ha,aj.of (r,ao,e4),R,(eJ,dj,eI),hn,by rw[dj,eI];simp;omega,@sW};refine{_,@d,_,@d,p1,p5,_,_,@d,(i7,(bB,(aM,Z))),aj.of h5,by rw[bG];simp[kL,eI];omega,@e,λH6 p6 s6 h6=>?_};refine q0 H6 p6 ((Y.trans @yg).trans (s5.trans s6)) ?_;rw[h6,e]
def Keeps(N:@bh)(H H':Hp):@u:=∀a o,N a->@kL->(R,H' a)
def NW{H H':Hp}(s:@ab):Keeps N H H':=λa o _ h=>s a o h
def akZ{H:Hp}{D:aa}(h:¬N D):Keeps N H @dB:=λa o' n e=>by have aI:a≠D:=λq=>h (G,q,n);rw[aA aI];exact e
def ng(N:@bh)(A:@iy):@u:=∀(H H':Hp)(p:aa)(x:α),Keeps N H H'->N p->A H p x->A H' p x
def b6(N:@bh)(A:@iy)(H:Hp)(l:aa)(xs:@as):@u:=(fo,α,(ag,l,@cP)/\@ij=xs/\∀z∈zs,N z.1/\A H z.1 z.2)
def b6.stab{A:@iy}(M:@kP):ng N (b6 N A):=by rintro H H' p x k n⟨zs,h,e,hz⟩;exact{zs,k _ _ n h,e,λz m=>(nF,k)}
def b6.same{A:@iy}(M:@kP){H H':Hp}{p:aa}{x:@as}(h:b6 N A H p x)(s:@ab):b6 N A H' p x:=(ox,(as,Z),(nF,NW s))
def b6.mono{b:@bh}{A c:@iy}{H:Hp}{p:aa}{x:@as}(h:b6 N A H p x)(S:∀a x,N a->A H a x->b a/\c H a x):b6 b c H p x:=(ox,Z,S _ _ @pX @qb)
def b6.nil{A:Hp->aa->α->@u}{H:Hp}(h:(ag,l,[])):b6 N A H l []:={[],h,@d,@hW}
def b6.snoc{A:@iy}(M:@kP){H:Hp}{p:aa}{xs:@as}{x:α}(h:@uM)(hl:¬N l)(n:N p)(a:A H p x):(gy,@X,b6 N A @oS l (xs++[x])):=by rw[cl];rw[fg];rw[cc];rw[cU];rw[fl,(nF,akZ hl),n,M _ _ _ _ (akZ hl) n a]
def b6.len{A:@iy}{H:Hp}{xs:@as}(h:@uM):(s4,@X):=by rw[cl];exact{_,aj.of h,@v}
def b6.ix{A:@iy}{H:Hp}{xs:@as}(h:@uM){i:Nat}(hi:@hS):∃ys p,aj K H l ys/\(bz,ys,@aL,@ao)/\N p/\A H p xs[i]:=by rw[cl];have g:i<@cX:=@hd;let{n,a}:=hz zs[i] @h9;refine{_,zs[i].1,aj.of h,fX @d (dg,bX g),n,?_};rw[iI];exact a
def As{zs:(b9,α)}{xs:@as}(e:@ij=xs){i:Nat}{z:aa×α}(h:(C,zs,z)):(C,xs,z.2):=by rw[<-e,be,h];rfl
def NX(c:α->V)(l:@as)(f:α->β)(N:@bh){A:Hp->(Y,aa,β)}(M:@kP){H1:Hp}{D:aa}(hl:@n0)(hD:@eM)(S:¬N D)(U:@n9)(hw:@j8)(step:(ry,l))(hd:(mm,@q8)):(ki,@py,@pz,@pD):=by rw[jw,(mp,@Ac),{@gT,@h2}];rintro i x H' hx⟨hs,hm⟩;rw[ff];rw[hB,@w6,hm];rw[cp];simp only[kU,iQ];rw[mC];rw[me];rw[cW,ys,hy,@oR];rw[bq,cP,eD,@op];rw[s,My.qo f hz,qb]
def aAZ(c:α->V)(l:@as)(f:α->β)(N:@bh){A:Hp->(Y,aa,β)}(M:@kP){H1:Hp}{D:aa}(hn:n=(l.map c).length)(hl:@n0)(hD:@eM)(S:¬N D)(U:@n9)(hw:@j8)(step:(ry,l.reverse))(hd:(mm,l.reverse.map f)):(ki,@Dj,@Dk,@Ds):=by refine akk (K:=K) (a:=a) (xs:=l.map c) hn (mp,(l.reverse.take i).map f) {@gT,@h2} @Eu ?_ (oH,jU);rintro i x H' hx hi⟨hs,hm⟩;rw[au]at hi hx;rw[iy,l.reverse,(by rw[be]at hx;rw[DE hi];cases e:l[l.length-1-i]? with|none=>rw[fv]|some z=>rw[iC])];rw[hB,@w6,hm];rw[cp];simp only[kU,iQ];rw[mC];rw[me];rw[cW,ys,hy,@oR];rw[bq,cP,eD,(sv,(d,jU,hl))];rw[s,My.qo f hz,qb]
def aA0{γ:@az}(c:α->V)(d:β->V)(l:@as)(l2:List β)(f:α->β->γ)(N:@bh){A:Hp->(Y,aa,γ)}(M:@kP){Y s2:Nat}{H1:Hp}{D:aa}(he:@R=l2.length)(hl:@n0)(hD:@eM)(S:¬N D)(U:@n9)(B:aj K H1 b (l2.map d))(hw:@Ct)(step:∀(i:Nat)(x:α)(y:β)(H':Hp)(Q:VK),(C,l,x)->(C,l2,y)->@d_->@w6->(s0,f x y)->te (iG,some (c x),some (d y)) H' Q)(hd:(mm,Bv f l l2)):@H8:=by
 have ic:(Bv f l l2).length=@R:=(af,aP3);refine azm (K:=K) (a:=a) (b:=b) (xs:=l.map c) (ys:=l2.map d) (bO,au,he) (mp,(Bv f l l2).take i) {@gT,@h2} (λi H' _ h=>{h.1.seq U,h.1.seq B}) ?_ (oH,ic);rintro i x y H' T hx hy⟨hs,hm⟩hT;rw[ff];obtain⟨u,hu,rfl⟩:∃z,(C,l2,z)/\d z=y:=by rw[be]at hy;cases e:l2[i]? with|none=>rw[e]at hy;cases hy|some z=>rw[e]at hy;exact(aD,z,bZ hy)
 rw[fZ,@Bh];have m2:=hm.same M (aK,@Bh,_,hT);rw[hB,ag H' T @Bh D≠@r,m2];rw[ho];simp only[kU,iQ];refine step i z u _ _ hz hu s2 aI λH4 p h4 np ap=>?_;let{ys,hy,cP,qb}:=(m2.same M h4).snoc M S np ap;rw[cW,ys,hy,(aE,s2.trans h4)];.rw[cP,eD,ic];exact@op
 .have e:(C,Bv f l l2,f z u):=(aA,List.getElem?_zipWith,hz,hu);have:=My.qo id e;rw[qX,qX]at this;rw[aa];exact qb
def b6.sub{A:@iy}{H:Hp}{p:aa}{xs:@as}(h:@uM)(k:Nat):(gy,@X,(nW,ys.drop k,xs.drop k)/\(nW,ys.take k,xs.take k)/\(nW,ys.reverse,@uP)):=by rw[cl];refine{_,h,@v,(nP,zs.drop k,wm,wm),(nP,zs.take k,wo,wo),(nP,zs.reverse,KR,KR)};rw[il,afh m];rw[il,Bm m];rw[il,Bn.1 m]
structure jN(mg:@aT):@u where
 RIGHT:(ba,"RIGHT",1)
 BOTTOM:(ba,"BOTTOM",3)
 MOST_BYTES:(ba,"MOST_BYTES",600)
 DEEPEST:(ba,"DEEPEST",20)
 MOST_TIMES:(ba,"MOST_TIMES",1000000000000)
 BACK:(ba,"BACK",-1)
 FAULT:(ba,"FAULT",-1000)
 NO_DECK:(ba,"NO_DECK",-1)
 NO_ROW:(eb,"NO_ROW",2)
 NO_GRID:(eb,"NO_GRID",3)
 NO_CARD:(eb,"NO_CARD",4)
 NOT_COME_TO:(eb,"NOT_COME_TO",5)
 MORE_THAN_ONE_PILE:(eb,"MORE_THAN_ONE_PILE",5)
 TOO_MANY:(eb,"TOO_MANY",6)
 TEXT_TOO_LONG:(eb,"TEXT_TOO_LONG",7)
 NO_SUCH_NUMBER:(eb,"NO_SUCH_NUMBER",7)
 NOTHING_TOLD:(eb,"NOTHING_TOLD",8)
 WRONG_LIST:(eb,"WRONG_LIST",9)
 MOST_CARDS_FOR_LEAST:(ba,"MOST_CARDS_FOR_LEAST",6)
 MOST_CARDS_NAMED:(ba,"MOST_CARDS_NAMED",4)
 MOST_CARDS_FOR_GROUP:(ba,"MOST_CARDS_FOR_GROUP",8)
 MOST_TOLD:(ba,"MOST_TOLD",4)
 LOAD:(ba,"LOAD",0)
def ak0{i:Nat}{v:V}{H:Hp}{Q:@eL}(h:Q (σ.set i @dh) H):kn i v σ H Q:=h
def IG{t u:TS}{D:Ends}{H:Hp}(h:@J6):pC t u D σ H:=h
def II{g:TG}{D:Ends}{H:Hp}(h:(hv,g x σ H1 D.nx)):MV te g D σ H:=h
def E7{t1 t2:TE}{H:Hp}(b:Bool)(v:V)(ht:∀Q':@fS,Q' b H->tt σ H Q')(Z:b=@h->(iN,v,t1 σ H Q'))(h2:(F,b)->(iN,v,t2 σ H Q'))(h:Q v H):tIf tt t1 t2 σ H Q:=by refine ht _ ?_;cases b with|true=>exact cq (Z @d _ h)|false=>exact cI @B0
def NY{l:@bR}{j:_}{p:cO}{t:TA}(ha:PE X (.Tuple l j p) te)(hr:@rO):PA X (.Tuple l j p::es) (wV te t):=ab ha hr (by rfl)
def ak1{a:Int}{k:_}{p:cO}{t:TA}(hr:@rO):PA X (.Constant @js k p::es) (wV (tC @js) t):=ab aE hr (by rfl)
def aA1(a b:Int):TE:=SJ (wV (tC @js) (wV (tC @nA) yk))
def NZ{a b:Int}{k m:_}{p q r:cO}{j:_}:PE X (.Tuple [.Constant @js k p,.Constant @nA m q] j r) (aA1 a b):=jC (ak1 (ak1 ac))
def jq(H:Hp)(p:aa)(c:@kt):@u:=(ag,p,(aT,c))
def j6:ng N jq:=λH H' p x k n h=>k _ _ n h
abbrev yp:@bh:=@fd
abbrev N0(H:Hp)(l:aa)(xs:@cC):@u:=b6 yp jq H l xs
abbrev rW(H:Hp)(g:aa)(xs:cV):@u:=b6 yp (b6 yp jq) H g xs
def aA2{H:Hp}{xs:@cC}(h:@zO):b6 @or jq H l xs:=h.mono λa x _ p=>{λq=>(by unfold jq at p;rw[q]at p;cases p),p}
def aA3{H:Hp}{xs:cV}(h:@zP):b6 @or (b6 @or jq) H l xs:=h.mono λa x _ p=>{λq=>(by let{zs,e,_}:=p;rw[q]at e;cases e),aA2 p}
def Cr{b:@bh}{H:Hp}{xs:@cC}(h:@zO)(w:∀a,N a->b a):b6 b jq H l xs:=(pz,p)
def aA4{b:@bh}{H:Hp}{xs:cV}(h:@zP)(w:∀a,N a->b a):b6 b (b6 b jq) H l xs:=(pz,Cr p w)
def aA5{H:Hp}{xs:@cC}(h:@zO):N0 H l xs:=Cr h λ_ _=>eY
def N1{H:Hp}{xs:cV}(h:@zP):rW H l xs:=aA4 h λ_ _=>eY
def aA6(c:cQ):@FJ:=(eO,My.agJ c @h,(@ax))
def aA7(xs:@F)(i j:Nat)(h:(iV,j))(hi:i<=j):(oQ,@aL,(u,j),i,j-i):=(pR,wv h,wv @e)
abbrev U7:aY:=top 55
def aA8:(bf,["height","width","size"],["height","width","size"],U7):=@D
def At(a b n:Int):@an:=decide (1<=a)&&(decide (1<=b)&&decide (a*b=n))
def U8:Sp:=λvs H Q _=>∃a b n:Int,vs=[@js,@nA,@dd]/\-(2^64)<a/\a<2^64/\(c0,At a b n)
def aA9(F:(o,"is_grid","is_grid",U7)):(ae,1,["height","width","size"],U8):=by
 refine(h,aA8,@C);.let{a,b,n,rfl,_}:=h;rfl
 .let{a,b,n,rfl,Z,h2,q0}:=h;rw[an,tK (de,yj,@Y,aE) (tK (de,yj,@B,aE) (rO (b7,bd vc @Y @B,@E)))];unfold At at q0;refine@od
  .rw[hc,Bx]at q0;refine@od;.rw[hc,Bx]at q0;refine(E,_,@d,(jz,@d,(bC,Z,h2),_));rw[ft];exact q0
   .rw[(@h7),wx]at q0;exact q0
  .rw[(@h7),wx]at q0;exact q0
abbrev U9:aY:=top 58
def U_:(aq,["pile","card"],"pile",U9):=@D
def ak2(K:aM):Sp:=λvs H Q _=>∃(p:aa)(c:@kt),(hq,jq H p c,@cJ<=52/\(md,(I,q),jq H' q (iS c)))
def aA_(F:(o,"turned_pile","turned_pile",U9))(B:@ad):(bp,"pile",ak2 K):=by
 refine(h,U_,@C);.let{p,c,rfl,_}:=h;rfl
 .let{p,c,rfl,hp,hc,q0}:=h;rw[an,(em,"card",1,U_.nd,(nB,@Y),1,U_.nd,Ac Ad @B)];have yP:aj K H p (aT,c):=aj.of hp;rw[aO,p,yP,@bZ];have bG:(jS,c)=@cJ:=(aA,au,fC,au);refine akk (K:=K) (a:=p) (xs:=(aT,c)) @d (λi H'=>@ab/\(b0,(c.reverse.take i).map λc=>(f4,c.turned @h))) {@gT,ao} (λi H' _ h=>h.1.seq yP) ?_ ?_
  .rintro i x H' hx hi⟨hs,hm⟩;rw[bG]at hx hi;obtain⟨z,hz,rfl⟩:∃z,(C,c.reverse,z)/\x=(f4,z):=by rw[be,fC,be]at hx;rw[DE hi];cases e:c[c.length-1-i]? with|none=>rw[fv]|some z=>rw[iK]
   rw[ae,@d];simp only[kU,iQ];refine(bh,_,@d,_,hm,?_,@kK);rw[ba,eD,dA (af,jU)];.rw[ao,My.qo _ hz,aA6]
  .rintro H'⟨hs,hm⟩;refine q0 H' D hs hD ?_;unfold jq;rw[hm,bG,<-jU,gn,fC];unfold iS;rw[bC,bC];rfl
abbrev Va:aY:=top 59
def Vb:(aq,["piles","pile"],"piles",Va):=@D
def ak3(K:aM):Sp:=λvs H Q _=>∃(l:aa)(xs:@cC),vs=[@bb]/\N0 H l xs/\(∀c∈xs,@ti)/\@X<=52/\(md,(I,q),b6 (λa=>(I,a)) jq H' q (xs.map iS))
def aBa(F:(o,"turned_over","turned_over",Va))(B:@ad)(b:(bH,"turned_pile","pile",ak2 K)):(eu,"piles",ak3 K):=by
 refine(h,Vb,@C);.let{p,c,rfl,_}:=h;rfl
 .let{l,xs,rfl,{zs,hl,rfl,hz},hc,hn,q0}:=h;rw[an,(b8,"pile",1,Vb.nd,@Y,1,Vb.nd,(dp,b))];have L:@cX<=52:=by simpa using hn
  rw[aF,l,(a1,hl),@bZ];refine NX @ui zs (λz=>iS z.2) (λa=>(I,a)/\a≠D) j6 @e hD @AJ (aj.of hl) @bm (λi z H' Q iP hs aI q=>?_) λH' hs qb=>?_;.have m:=cZ iP;refine{_,@d,z.1,z.2,@d,(bw,@qb),hc _ (a0,z,m),λH2 p s2 hp h2=>q H2 p s2 {hs.free hp,@uD} h2}
  .refine q0 H' D hs hD ?_;rw[bC];exact(m3,qb)
abbrev Vc:aY:=top 56
def IJ:(bf,["row","height","width","grid","line","card"],["row","height","width"],Vc):=@D
def ak4(K:aM):Sp:=λvs H Q _=>∃(a:aa)(r:db)(h w:Nat),vs=[@W,.int h,.int w]/\@ee/\r.length=h*w/\r.length<=52/\h<=52/\w<=52/\(h_,@t4)
def aBb(F:(o,"laid","laid",Vc))(B:@ad):(ae,1,["row","height","width"],ak4 K):=by
 refine(h,IJ,@C);.let{a,r,h,w,rfl,_}:=h;rfl
 .let{a,r,h,w,rfl,ha,T,hn,hh,hw,q0}:=h;rw[a9,3,IJ.nd,@bg,(fu,@B,4,IJ.nd,(dk,@H,(b8,"card",5,IJ.nd,(kj,bd vc @ak @E,bd vc @tC @E),5,IJ.nd,(eQ,@a4)))),(aY,@H)];rw[br];rw[cv];rw[g1,(u,h)];refine(hA,(bk,h),(rF,@z6,[@bc,(T,h),(T,w),@cr,v,v2]),@HS)
  .rintro i σ H1 hi⟨s2,d2,v,v2,rfl⟩;rw[cg,i<h];have fG:@A*w<=h*w:=DL _ hi;let{ys,lT,cP}:=d2.len (K:=K);let{L,O9,aoo,js}:=d2.sub 0 (p:=D);have OU:H1 D≠@r:=(d,O9,@ml);refine{_,@d,(fC,lT),(mB,@d,@d,@oe,_,@d,_,@d,_,(bT,@d,_,@d,@d,@oe,_,@d,a,_,@d,s2.seq ha,@cu))};rw[ah,@bQ*@gX,(A,i*w),(aX,Lv)];rw[ag,(@bQ+1)*@gX,(A,@A*w),by rw[Lv];congr 1;omega];dsimp only;rw[e1,e2,aA7 _ _ _ (by rw[au,fC,au];omega) (DL _ @e),(hs,@A*w-i*w=w,KW),fC,bC,<-wm,<-wo];have s3:=(cu,(lF,@dg),s2,hp);have d3:=d2.same @gR (ax,(lF,@dg),_,hp);rw[ap,p,@d,(a1,ao),@g9];refine NX @dg ((r.drop (i*w)).take w) (λc=>[c]) (λa=>a≠D/\a≠J) j6 @tj I @AJ @ih @bm @ym @yn;.rw[b_,@fY,λO g=>q _ O (aH @b5 g) {@c8,λe=>aI (cg,g)} ao];have:=hs.free g;rw[bm];let{zs,X,_}:=d3;rw[X]at this;cases this
   .have d4:=d3.same @gR s4;have nD:J≠D:=λe=>by let{zs,X,_}:=d3;rw[e,X]at I;cases I
    rw[j3,(m3,h4)];rw[l2,@f5,_,@d];rw[bq,b,lu,@a2];rw[aj,qY,bh,t]
  .rintro σ H1⟨s2,d2,v,v2,rfl⟩;rw[am,q0 H1 D s2 ?_];rw[My.Se];rw[(v,(bk,h)=h)]at d2;exact N1 d2
abbrev Vd:aY:=top 57
def IK:(aq,(dQ,"grid","columns","line"),"grid",Vd):=@D
def ak5(K:aM):Sp:=λvs H Q _=>∃(a:aa)(g:cV)(h w:Nat),(fN,rW H a g,@bU,0<h,h<=52/\w<=52/\(h_,@en))
def aBc(F:(o,"columns_of","columns_of",Vd))(B:@ad):(bp,"grid",ak5 K):=by
 refine(h,IK,@C);.let{a,g,h,w,rfl,_}:=h;rfl
 .let{a,g,h,w,rfl,ha,R,h0,hh,hw,q0}:=h;rw[bu,IK.nd,@bg,(fu,(aS,@lp),2,IK.nd,(dk,@B,(b8,"line",3,IK.nd,@Y,3,IK.nd,(bi,@H,@E))))];rw[br];rw[cv];have gl:=R.len;have k:=aA3 ha;have c:ng @or (b6 @or jq):=@gR;let{ys,L,lT,ky,u,y4}:=(k.same c Y).ix (K:=K) (i:=0) @e;let{p,y,C}:=y4.len (K:=K);have l:@d2=w:=(d,C,(eD,@h9));refine(e,a,_,_,_,@d,@d,lT,ky,L,_,@d,.inl y,_,@d,@e,@e,?_);rw[l];refine(hA,(bk,w),(rF,@k0,[@bc,@cr,v,v2]),@HS)
  .rintro i σ H1 hi⟨s2,d2,v,v2,rfl⟩;rw[cg,i<w];let{ys,lT,cP}:=d2.len (K:=K);let{zs,X,gh,hz}:=k.same c s2;refine{_,@d,(fC,lT),_,@d,a,@d,(a1,X),@g9};have ic:@cX=h:=(gr,gl,gh);refine NX @Jy zs (λz=>z.2.getD i []) @or j6 @e I (λh=>h (s2.free I)) (aj.of X) @bm (λj z H' Q iP hs aI q=>?_) @yn;.have m:=cZ iP;have M:z.2.length=w:=(eD,(dt,gh,z,m));let{O,pz,x,G,FQ,Jo}:=((hz z m).2.same j6 hs).ix (K:=K) (i:=i) @e;refine(E,_,@d,(f0,z.1,x,(d,(v,@bQ=@aL),G),q H' pz @b5 FQ ?_));rw[My.gD @e];exact Jo
   .have d4:=d2.same @gR s4;have nD:J≠D:=λe=>by let{zs,X,_}:=d2;rw[e,X]at I;cases I
    rw[j3,Cr h4 λa h e=>h (cl,hD)];rw[l2,@yg,_,@d];rw[bq,b,lu,@a2]
    .rw[qY,bh];have e5:(ja,z.2.getD i [])=@k0:=by rw[<-gh,bC];rfl
     rw[e5]at t;exact t
  .rintro σ H1⟨s2,d2,v,v2,rfl⟩;rw[am,q0 H1 D s2 ?_];unfold iq;rw[(@kG)];rw[(v,(bk,w)=w)]at d2;exact N1 d2
def Ct(g:cV):@u:=∀r∈g,∀c∈r,@ti
def getD_mem{l:@as}{i:Nat}{d:α}:@ul∈l\/@ul=d:=by rw[dy];cases e:l[i]? with|none=>exact@dU|some x=>exact .inl (cZ e)
def ak6{g:cV}(h:Ct g):Ct @en:=by
 intro r hr c hc;unfold iq at hr;let{i,_,rfl}:=bf.1 hr;rw[aZ,hc];rcases getD_mem (l:=x) (i:=i) (d:=([]:List cQ))with z|z;.exact h x hx _ z
 rw[s,z,@aO]
def ak7{g:cV}(h:Ct g):Ct @p0:=λr hr=>h r (Bn.1 hr)
abbrev Ve:aY:=top 60
def rX:(ay,["strips","number","pile","none","piles","above","below","result","place","upper","lower","one","other"],"strips","number",Ve):=@D
def ak8(K:aM):Sp:=λvs H Q _=>∃(a:aa)(s:cV)(k h w:Nat),(cz,@id,rW H a s,dZ w h s,0<w,w<=52/\h<=52/\k<=w/\Ct s/\(h_,kN k s))
def aBd(F:(o,"first_folded","first_folded",Ve))(B:@ad)(aGv:(Z,"turned_over",["piles"],2,ak3 K)):(aI,3,"strips","number",ak8 K):=by
 refine(h,rX,@C);.let{a,s,k,h,w,rfl,_}:=h;rfl
 .let{a,g,k,h,w,rfl,ha,R,U,hw,hh,hk,uz,q0}:=h;rw[a8,(fV,3,@fn,[("pile",2)],eQ @lp,(eS,2,@fn),@mc,@bg),(bF,(fV,5,@fn,[("piles",4)],(nB,(mR,@B)),(eS,4,@fn),@mc,(aO,aGv,@ak)),(aw,6,@fn,qx @kr @Y (kS @B) vd),(cJ,7,@fn,@bg,(fu,bm (aw0 @d) (by rfl) B.max boot_max (be,(aS,@a4),(aS,@bS)),8,@fn,(bR,9,@fn,oN (ao,jL,@dW,(aS,@a4)) (bi,@a4,@dW) @H,(aw,10,@fn,oN (ao,jL,@dW,(aS,@bS)) (bi,@bS,@dW) @H),(dk,@cv,(ig,[("one",11),("other",12)],@fn,(kM,@k9,pv 10),(fm,11,@fn,12,@fn),bd m_ (pv 11) (pv 12))))),@cv))];have gl:=R.len;rw[hU];let{ys,L,lT,ky,_,y4}:=ha.ix (K:=K) (i:=0) @e;have aGw:(g[0]'@e).length=h:=(eD,@h9);have uw:g.headD []=g[0]'@e:=by cases g with|nil=>simp at gl;omega|cons x l=>rfl
  let{C,lp,ez0,hm0}:=y4;have aS7:@vX=h:=(gr,aGw,ez0);refine{_,@d,a,_,_,_,@d,@d,lT,ky,L,@d,(a1,lp),λD0 hD0=>?_};refine NX @ui C @u8 (λa=>a≠D0) j6 @e hD0 @se (aj.of lp) @bm @ym λH1 Y FR=>?_;.exact{@aO,λp hp=>q _ p @rH @uD ao}
  have eN0:(C.map @u8)=@p4:=by rw[uw,<-ez0,bC];rfl
  rw[eN0]at FR;replace FR:=aA5 FR;let{zs,X,gh,hmz}:=ha.same t Y;have ic:@cX=w:=(gr,gl,gh);refine(e,(dx,_,a,aj.of X,@sV));rw[akU,<-wo];have s2:=(ax,(zs.take k).map @km,H1,cK);refine{p1,_,@d,@ih,λD1 u=>?_};refine aAZ @Jy (zs.take k) (λz=>z.2.map iS) (λa=>a≠D1) (A:=b6 (λa=>a≠D1) jq) @gR @d @tj u @se @ih @bm @ym λH3 s3 Pa=>?_;.have m:z∈zs:=Bm (Bn.1 @nx);have mg:z.2∈g:=(dt,gh,z,m);refine{_,@d,z.1,z.2,@d,(hmz z m).2.same j6 (s2.trans hs),uz _ mg,(d,(eD,mg),hh),λH2 p s5 hp h2=>q H2 p s5 @uD (Cr h2 λa h e=>aI (cg,h))}
  have eAb:((zs.take k).reverse.map λz=>z.2.map iS)=(g.take k).reverse.map @ky:=by rw[<-gh,<-wo,<-KR,bC];rfl
  rw[eAb]at Pa;replace Pa:=N1 Pa;have kc:=@g8;let{ysg,hyg,aS8,J4,_,_}:=(ha.same t (Y.trans kc)).sub k (p:=a);refine(e,(dx,_,a,aj.of hyg,@g9));rw[E4];have s4:=(ax,ysg.drop k,H3,I);have hBe:=J4 _ J s4 t ao;have aou:=Pa.same t s4;have hN4:=(FR.same j6 kc).same j6 s4;have sH4:=(l_,kc);generalize(an,H3,J,ysg.drop k)=H4 at*;have J6:((g.take k).reverse.map @ky).length=k:=by rw[au,jU,eD];omega
  have J7:(g.drop k).length=w-k:=(r,ik,gl);have qc:(kN k g).length=@d1:=by unfold kN;rw[au,lu,gl,wv hk]
  rw[ax,λD3 O=>?_];have s5:=(bM,H4,O);let{M,r,J8}:=(aou.same t s5).len (K:=K);let{y2,vT,aGD}:=(hBe.same t s5).len (K:=K);refine{_,@d,D1,_,@d,.inl r,_,@d,J,(gC,_,@d,.inl vT,_,_)};rw[J8,aGD,J6,J7];have aGE:(if(A,w-k)>@av then(A,w-k)else@av)=(A,@d1):=by
   by_cases hc:(A,w-k)>@av;.rw[ai hc,Nat.max_eq_right @e]
   .rw[af hc,Nat.max_eq_left @e]
  rw[aGE];have O4:@d1<=52:=@e;rw[ab,@e,@e];refine(hA,(cM,@d1),ae H4 H'/\b6 (λa=>a≠D3) (b6 (λa=>a≠D3) jq) H' D3 ((kN k g).take i)/\∃v2 v4 v8 N v10 v11 T:@ag,σ=[@bc,(T,k),v2,(J,D0),v4,(J,D1),(J,J),(J,D3),v8,N,v10,v11,T],{s5,@h2,_,_,@r,@r,@r,@r,@r,@d})
  .rintro i σ H5 hi⟨s6,d6,v2,v4,v8,N,v10,v11,T,rfl⟩;rw[cg,i<@d1];have hA6:=aou.same t s6;have hB6:=hBe.same t s6;have hN6:=hN4.same j6 s6;let{u1,hu1,aGF}:=hA6.len (K:=K);let{G,li,aGG}:=hB6.len (K:=K);have ei:@bQ=@aL:=@e;have up:(rt,@vC,@tX,D1,@tX):=(r9,k,hA6.ix (K:=K) (i:=i) (d,J6,hc),J6,J6);have lo:(rt,@vq,@tY,J,@tY):=(r9,w-k,hB6.ix (K:=K) (i:=i) (d,J7,hc),J7,J7);let{b,hU,hU1,hU2}:=up;let{pL,W,hL1,vU}:=lo;have hUw:(((g.take k).reverse.map @ky).getD i @p4).length=h:=by
    rcases getD_mem (l:=(g.take k).reverse.map λl=>l.map iS) (i:=i) (d:=((g.headD []).map λ_=>[]))with z|z;.rw[cG,z];rw[<-e,au];exact(eD,@zV)
    rw[aj,z,au,R.head U]
   have hLw:((g.drop k).getD i @p4).length=h:=by
    rcases getD_mem (l:=g.drop k) (i:=i) (d:=((g.headD []).map λ_=>[]))with z|z;.exact(eD,afh z)
    rw[aj,z,au,R.head U]
   have hUs:∀c∈@vC,@ti:=by
    intro c hc;rcases getD_mem (l:=(g.take k).reverse.map λl=>l.map iS) (i:=i) (d:=((g.headD []).map λ_=>[]))with z|z;.rw[cG,z];rw[<-e]at hc;let{y,hy,rfl}:=bf.1 hc;have:=uz x @zV y hy;unfold iS;rw[au,jU];exact this
    .rw[z]at hc;let{_,_,rfl}:=bf.1 hc;exact@aO
   have hLs:∀c∈@vq,@ti:=by
    intro c hc;rcases getD_mem (l:=g.drop k) (i:=i) (d:=((g.headD []).map λ_=>[]))with z|z;.exact uz _ (afh z) c hc
    .rw[z]at hc;let{_,_,rfl}:=bf.1 hc;exact@aO
   have acQ:(C,kN k g,Bv (·++·) @vC @vq):=by unfold kN;rw[be,xK (ai,gl,wv hk,hi)];rfl
   rw[fd,@tX,@aH,λQ' q=>(e,(E,D1,_,(eN,hu1)))];.rw[aGF,J6,(fh,(ap,@bQ,@av),@tX)];exact q
   rw[lY,hU1 hc,D1];.exact{_,(O,hU2 hc),q}
   refine ak0 ?_;dsimp only;refine IG ?_;refine II ?_;rw[fd,@tY,.ref pL,λQ' q=>(e,(E,J,_,(eN,li)))];.rw[aGG,J7,(fh,(ap,@bQ,(A,w-k)),@tY)];exact q
   rw[lY,hL1 hc,J];.exact{_,(O,vU hc),q}
   generalize@vC=lU at hU hUw hUs acQ;generalize@vq=lL at W hLw hLs acQ;let{zU,hzU,eU,mU}:=hU;let{zL,hzL,v,mL}:=W;have aS9:zU.length=h:=(gr,hUw,eU);have aS_:zL.length=h:=(gr,hLw,v);let{y6,hy6,aTa}:=d6.len (K:=K);refine(e,(fC,hy6),_,@d,_,@d,b,pL,_,_,@d,aj.of hzU,aj.of hzL,λD4 S=>?_);have aoG:H5 D3≠@r:=by let{z6,h6,_}:=d6;rw[h6];exact@ml
   refine aA0 @ui @ui zU zL (λx y=>x.2++y.2) (λa=>a≠D3/\a≠D4) j6 @e @e S @AJ (aj.of hzU) (aj.of hzL) @cg (λj x y H' Q hx hy hs aI q=>?_) λH6 s7 h7=>?_
   .have mx:=cZ hx;have D:=cZ hy;have lx:=hUs x.2 (dt,eU,x,mx);have ly:=hLs y.2 (dt,v,y,D);refine{_,@d,_,@d,x.1,(dY,y.1,(bw,(mU x mx).2),(bw,(mL y D).2),?_,λp hp=>q _ p @rH {@c8,@uD} ?_)};.rw[au,au,fC,fC,au,au];exact jb @a2
    .have:=hs.free hp;rw[bm];exact aoG this
    .show ag H' p _ p=_;rw[ao,fC,fC,fC,bh,bh]
   .have e7:Bv (λ(x y:aa×List cQ)=>x.2++y.2) zU zL=Bv (·++·) lU lL:=by rw[<-eU,<-v,List.zipWith_map]
    rw[e7]at h7;have nD:D4≠D3:=λe=>aoG (cg,S);let{ys7,hy7,acS,aGK}:=(d6.same @gR s7).snoc @gR @se nD (m3,h7);refine{D3,_,_,@d,@d,hy7,?_,cF @sY O,?_,_,_,_,_,_,_,_,@d};.rw[acS,eD,qc];exact@a2
    .have:=My.qo id acQ;rw[qX,qX]at this;rw[aa];exact aGK
  .rintro σ H5⟨s6,d6,v2,v4,v8,N,v10,v11,T,rfl⟩;rw[am,q0 H5 D3 (sH4.trans s6) ?_];rw[(v,(cM,@d1)=@d1),<-qc,gn]at d6;exact N1 d6
def aBe{h w d k:Nat}{g:cV}(R:@bU)(h0:0<h)(U:0<w)(l:1<=k)(hk:@tn):∃h' w',0<h'/\h'<=h/\0<w'/\w'<=w/\dZ h' w' @pi:=by
 unfold rM;by_cases hd:d<=1;.rw[ai hd]at hk;rw[ai hd];have C:=My.tw R h0;refine{h,@d1,h0,@L,@e,@e,?_};by_cases he:d%2=0;rw[aT,he,My.tw (My.wN C U @e) @e];rw[bk,he,My.tw @DI @e]
 .rw[af hd]at hk;rw[af hd];refine{max k (h-k),w,@e,@e,U,@L,?_};by_cases he:d%2=0;rw[aT,he,My.wN R h0 @e];rw[bk,he,My.uV (My.wN (My.uV R) h0 @e)]
def ak9:∀ns:@J,@aM%2=0->(fF ns).zip (fF @v0)=oI ns/\(fF ns).length=(fF @v0).length
 |[],_=>@ds
 |[a],h=>@a5
 |a::b::r,h=>by
  let{e1,e2}:=ak9 r (by simp at h;omega);cases r with
  |nil=>exact@ds
  |cons c r=>
   rw[ae,?_];.show(a,b)::(fF (c::r)).zip (fF r)=(a,b)::oI (c::r);rw[<-e1];rfl
   .show(fF (c::r)).length+1=(fF r).length+1;rw[e2];rfl
abbrev Vf:aY:=top 61
def ak_:(rW,Vf):=@D
def ala(K:aM):Sp:=λvs H Q _=>∃(p:aa)(g:cV)(a b:Int),vs=[@ao,@js,@nA]/\rW H p g/\0<@eV/\(c0,@oA)
def aBf(F:(o,"is_fold","is_fold",Vf))(B:@ad)(G:@bT):(ae,1,["grid","side","number"],ala K):=by
 refine(h,ak_,@C);.let{p,g,a,b,rfl,_}:=h;rfl
 .let{p,g,a,b,rfl,hg,h0,q0}:=h;rw[bL,(iM,(ip,@B),(go,@B,G.BOTTOM)),(bd,ak_.nd,(nA,(aS,@lp),@a6)),(o6,@H)];unfold tD at q0;refine pF (ap,a,0) (decide (a>3)) @o7 @o7 ?_;rw[V]
  .have:¬@Al:=by rcases Bool.or_eq_true_iff.1 hc with z|z;rw[aQ,bT z];rw[aQ,bT z]
   rw[cG this,wx]at q0;exact q0
  .have h3:@Al:=by have:=xP.1 @h7;have z1:=Ef @l8;have z2:=Ef @tk;omega
   rw[bq h3,Bx]at q0;let{ys,L,lT,ky,_,y4}:=hg.ix (K:=K) (i:=0) h0;let{y0,d,c}:=y4.len (K:=K);let{M,r,J8}:=hg.len (K:=K);have uw:g.headD []=g[0]:=by cases g with|nil=>simp at h0|cons x l=>rfl
   dsimp only[rP];refine IG ?_;refine II ?_;rw[fd,decide (a<=1),.int @CI,@o7];.rw[ai @b6,uw]at q;exact(e,p,_,_,_,@d,@d,lT,ky,L,_,@d,.inl d,(d,c,q))
   .rw[af (Ef hc)]at q;exact(e,p,_,@d,.inl r,(d,J8,q))
   .generalize@CI=z at q0;refine@od;.have Z:1<=b:=@b6;refine(bh,_,@d,_,_,@d,@d);rw[(ii,decide (1<=b/\b<z)=(ap,b,z),λq=>q.2,λq=>⟨Z,q⟩)]at q0;exact q0
    .have Z:¬1<=b:=@uj;rw[cG (λz=>Z z.1)]at q0;exact q0
abbrev Vg:aY:=top 62
def N4:(rW,Vg):=@D
def alb(K:aM):Sp:=λvs H Q _=>∃(p:aa)(g:cV)(h w d k:Nat),vs=[@ao,.int d,@id]/\rW H p g/\@bU/\0<h/\0<w/\h<=52/\w<=52/\Ct g/\k<(if d<=1 then w else h)/\(h_,@pi)
def aBg(F:(o,"folded_once","folded_once",Vg))(B:@ad)(G:@bT)(n:(bH,"columns_of","grid",ak5 K))(m:(Z,"first_folded",["strips","number"],3,ak8 K)):(ae,4,["grid","side","number"],alb K):=by
 refine(h,N4,@C);.let{p,g,h,w,d,k,rfl,_}:=h;rfl
 .let{p,g,h,w,d,k,rfl,hg,R,h0,U,hh,hw,uz,hk,q0}:=h;rw[a9,3,N4.nd,(nA,(cL,n),@Y),bN (c_,@B) (ay (bd,N4.nd,(aU,m,@H,@E))) (ay (bd,N4.nd,(nC,(aU,m,(nC,@H),@E)))),(aY,(nA,(eI,n),@H))];rw[hU];unfold rM at q0;have u:∀{b:Bool},(B,V.int ((u,d)%2),@ex)=b->(b=@h↔d%2=0):=by intro b e;rw[<-e,ft,bU];exact{@d8,@d8}
  by_cases hd:d<=1
  .rw[ai hd]at q0 hk;rw[bI];rw[gW];refine(E,p,g,h,w,@d,hg,R,h0,hh,hw,@qt);have C:=My.tw R h0;rw[co];rw[V];.have he:d%2=0:=(u @d).1 hc;rw[ai he]at q0;refine{_,(cO,p1,@en,k,h,w,@d,Z,C,U,hw,hh,@e,ak6 uz,@jv)};rw[bI];rw[gW];exact{_,@d,p2,kN k @en,@d1,h,@d,h2,My.wN C U @e,@e,@e,hh,λH3 p3 s3 h3=>@Cb}
   .rw[jl];rw[af he]at q0;let{M,r,J8,_,_,l}:=Z.sub 0 (p:=p1);rw[aO,p1,aj.of r,@fX];have s2:=(ax,M.reverse,H1,b7);have h2:=l _ p2 s2 t ao;refine{_,@d,p2,@Dt,k,h,w,@d,h2,My.uV C,U,hw,hh,@e,ak7 (ak6 uz),@ga};rw[iv];rw[kI];have s4:=(ax,v.reverse,H3,c);have h4:=j _ p4 s4 t ao;rw[bI];rw[gW];exact{_,@d,p4,@Ad,@d1,h,@d,h4,@DI,@e,@e,hh,λH5 p5 s5 h5=>q0 H5 p5 ((Y.trans @g8).trans @jw) h5}
  .rw[af hd]at q0 hk;rw[bI];rw[gZ];rw[aU];rw[co];rw[V];.have he:d%2=0:=(u @d).1 hc;rw[ai he]at q0;refine{_,(cO,p,g,k,w,h,@d,hg,R,h0,hh,hw,@e,uz,@jv)};rw[bI];rw[gZ];exact(am,q0 H2 p2 s2 h2)
   .rw[jl];rw[af he]at q0;let{M,r,J8,_,_,l}:=hg.sub 0 (p:=p);rw[aO,p,aj.of r,@fX];have s2:=(ax,M.reverse,H,b7);have h2:=l _ p2 s2 t ao;refine{_,@d,p2,@p0,k,w,h,@d,h2,My.uV R,h0,hh,hw,@e,ak7 uz,@ga};rw[iv];rw[kI];have s4:=(ax,v.reverse,H3,c);have h4:=j _ p4 s4 t ao;rw[bI];rw[gZ];exact(am,q0 _ p4 @A9 h4)
abbrev Vh:aY:=top 63
def N6:(ay,["grid","folds","side","number"],"grid","folds",Vh):=@D
def alc(K:aM):Sp:=λvs H Q _=>∃(p b:aa)(g:cV)(n h w:Nat)(ns:@J),(ci,@aH,rW H p g,IL K H b ns,@ob,@aQ/\@bU/\0<h/\0<w/\h<=52/\w<=52/\@aM<=10000/\(h_,(if@tF then@r else qt g (oI ns)).getD []))
def aBh(F:(o,"folded","folded",Vh))(B:@ad)(L:(Z,"is_fold",["grid","side","number"],1,ala K))(S:(Z,"folded_once",["grid","side","number"],4,alb K)):(aI,5,"grid","folds",alc K):=by
 refine(h,N6,@C);.let{p,b,g,n,h,w,ns,rfl,_}:=h;rfl
 .let{p,b,g,n,h,w,ns,rfl,hg,hb,W,hn,R,h0,U,hh,hw,sf,q0}:=h;rw[bL,(aL,(c_,@rw),@bg),(dV,(kM,azv (K:=K) @B,azw (K:=K) @B),2,N6.nd,3,N6.nd,(aQ,(aL,(dR,(nf,L)),@bg),(aw,0,N6.nd,(nf,S)))),@Y];rw[hU];refine(e,b,_,@d,.inl hb,@vT);rw[au];rw[V];.rw[ft]at hc;have N:@tF:=@dY;rw[ai N]at q0;exact{@aO,λD hD=>q0 _ D @gT @h2}
  .have he:¬@tF:=λz=>hc (d,ft,@gP);rw[af he]at q0;let{l,q}:=ak9 ns @e;rw[aO,b,hb,@sV];rw[Tv];rw[bn,@wI,cK];have n1:=(aG,H,p1,@wI);rw[aO,b,@k_,@fX];dsimp only;rw[<-List.map_tail,Tv];have s2:=(ax,@tZ,@Bl,b7);have n2:=(aM,n1);refine{p1,p2,_,_,@d,aj.of n2,@ih,?_};have n3:=(aG,@Bl,p2,@tZ);rw[b2];generalize(an,@Bl,p2,@tZ)=H2 at*;have dF:(oI ns).length=(fF ns).length:=by rw[<-l,afe,<-q];omega
   refine azl (K:=K) (D:={nx:=Sw (EL 0) {nx:=λx H'=>Q V.non H',rt:=Q},rt:=Q}) (a:=p1) (b:=p2) (xs:=@wI) (ys:=@tZ) (bO,au,q) (λi σ H'=>ae H2 H'/\∃(p':aa)(g':cV)(h' w':Nat)(v2 O:@ag),σ=[(J,p'),@fF,v2,O]/\rW H' p' g'/\GoodG n g'/\dZ h' w' g'/\0<h'/\0<w'/\h'<=52/\w'<=52/\qt g' ((oI ns).drop i)=qt g (oI ns)) {@b5,p,g,h,w,@r,@r,@d,hg.same t eV,W,R,h0,U,hh,hw,@d} (λi σ H' _ h=>{(ey,n2),(ey,n3)}) ?_ ?_
   .rintro i x y σ H' T hx hy⟨hs,p',g',h',w',v2,O,rfl,u,k,R',yO,Pb,v,j,d⟩hT;obtain⟨x,eh,rfl⟩:∃z,(C,fF ns,z)/\x=V.int z:=by rw[be]at hx;cases e:(fF ns)[i]? with|none=>rw[fv]|some z=>rw[iK]
    obtain⟨y,vT,rfl⟩:∃z,(C,fF @v0,z)/\y=V.int z:=by rw[be]at hy;cases e:(fF ns.tail)[i]? with|none=>rw[e]at hy;cases hy|some z=>rw[e]at hy;exact(aD,z,(bZ hy).symm)
    have m:(C,oI ns,(x,y)):=by rw[<-l,aRW];exact⟨eh,vT⟩
    have X:(oI ns).drop i=(x,y)::(oI ns).drop @A:=by let{Z,h2}:=fk.1 m;rw[v_ Z,h2]
    rw[X,qt]at d;have s3:=(aK,(bW,.int x,y),H',hT);refine{T,(E,@mi,@d,_,_,@d,(cm,_,@d))};refine{_,@d,_,@d,_,@d,p',g',x,y,@d,u.same t s3,(d,R'.len,yO),_,@d,?_};cases hok:tD g' x y with|false=>rw[hok,(@dT)]at d;rw[<-d]at q0;exact{@aO,λD hD=>q0 _ D ((eV.trans hs).trans (aH s3 hD)) @h2}|true=>rw[hok,(@ax)]at d;let{c1,c2,C,c4,c5}:=(My.Hu R' yO).1 hok;have uz:Ct g':=λr hr c hc=>cU (My.avC k r hr c hc) hn;let{ju,G,a1,M,J,I,R2}:=aBe R' yO Pb c4 c5;refine{_,@d,_,@d,_,@d,p',g',h',w',x.toNat,@qx,(ab,(gY,x.toNat,x),(gY,@qx,y)),u.same t s3,R',yO,Pb,v,j,uz,c5,@jx};exact{hs.trans @f5,p4,_,ju,G,_,_,@d,h4,(My.Sc k hok).1,R2,a1,J,@e,@e,d}
   .rintro σ H'⟨hs,p',g',h',w',v2,O,rfl,u,k,R',yO,Pb,v,j,d⟩;rw[au,<-dF,asB,qt]at d;rw[<-d]at q0;exact(am,q0 H' p' (eV.trans hs) u)
def ald{c d:cQ}(h:@cK=d.no)(Z:@kT):(B,@ci,told d)=!(d.up !=@ce):=by let{a,u}:=c;let{b,v}:=d;cases h;have Z:1<=a:=Z;cases u<;>cases v<;>simp[told]<;>omega
abbrev Vi:aY:=top 64
def IM:(jo,"width","alike","place","card","changes","width",Vi):=@D
def ale(K:aM):Sp:=λvs H Q _=>∃(a:aa)(r:db)(n w:Nat),(cz,.int w,@ee,@G,0<n,@aQ/\0<w/\w<=52/\(hy,Lz w r))
def aBi(F:(o,"alike_when_folded","alike_when_folded",Vi))(B:@ad)(d:@lX):(e5,2,"width",ale K):=by
 refine(h,IM,@C);.let{a,r,n,w,rfl,_}:=h;rfl
 .let{a,r,n,w,rfl,ha,R,h0,hn,U,hw,q0}:=h;have hl:=R.len;rw[bv,hl];rw[as,IM.nd,@bg,(dV,(dW,@Y),3,IM.nd,4,IM.nd,(aQ,(aw,5,IM.nd,bd fb (bd fb (bd fb (bd B9 @H @B) (bd fU @H @B)) (aO,d,@ak)) (aO,d,@lp)),(jg,(c_,@a4),@E,(e6,@ak)))),(aY,(mQ,@E))];rw[br];rw[cv];rw[aM,a,@ct];have b:(bz,(aT,r),(A,0),(f4,r.getD 0 @mb)):=fX @d (by rw[be,fC,be,(@em),dy,(@em)];rfl);have k:1<=(fL,0):=(ai,dy,(@em),(R.no_bounds (j:=0) @e).1);refine(lW,∃(O v4 N:@ag),σ=[@bc,(T,w),@cr,O,v4,N]/\@ab/\(b0,((r.zipIdx.take i).filter λx=>@so).map λx=>(b5,@l9)),{@r,@r,@r,@d,Y,ao})
  .rintro i y σ H' T hi⟨O,v4,N,rfl,hs,hm⟩hT;rw[g9];rw[em];rw[j4];rw[ee,@xa];rw[jG];rw[bP];refine(e,(E,_,_,@d,@d,(sF,@gX,@gX),_,@d,_,@d,_,(cQ,@d,(g5,@gX),(cQ,@ci,@d,(cQ,a,_,s3.seq ha,b,told (r.getD 0 @mb),@d,_,_,@d,@d,?_)))));rw[co];rw[ft,yo b1,yo k];have g:(gO,(@aL/@gX+@aL%@gX+(av,@ce)+(av,(dO,0)))%2)=((i/w+i%w+az @ce+@p1)%2==0):=by rw[<-QL,<-zx];generalize i/w=A1;generalize i%w=A2;generalize az @ce=A3;generalize@p1=l;rw[aD];rw[bU,eW];exact{@d8,@d8}
   rw[g];have snoc:=To (λx:cQ×Nat=>@so) (λx:cQ×Nat=>(b5,@l9)) hc;rw[cx];.rw[ai cN]at snoc;refine{_,@d,(X,I),(bT,@ci,@d,D,@d,I,?_,_,_,_,@d,(aE,s3),?_)};rw[s,au,dA (cH,(c9,eD,Lp))];.rw[ao,snoc,vm]
   .rw[af cN,gk]at snoc;exact{_,_,_,@d,s3,(d,snoc,I)}
  .rintro σ H'⟨O,v4,N,rfl,hs,hm⟩;rw[au,dX,<-hl,<-Lp (i:=0),gn]at hm;have v:(ov,λx=>(b5,@l9))=(V,B1 w r):=by unfold nL B1;rw[bC,bC];rfl
   rw[v]at hm;let{hp,Pd}:=My.avD R w;refine{_,@d,D,_,@d,aj.of hm,?_,λJ p M G m=>?_};.rw[j5];unfold B1;rw[au];exact nz (o8 _ _) (af,Lp)
   .refine q0 _ p (aH hs m) ?_;rw[ao];have Z:J.Perm (nL (Lz w r)):=M.trans (hp.map _);have h2:(nL (Lz w r)).Pairwise @ki:=by unfold nL;rw[xI];exact Pd.imp @qG
    rw[Z.eq_of_pairwise @K7 G h2]
abbrev Vj:aY:=top 76
def Cu:(jo,"other","places","place","card","move","other",Vj):=@D
def Vk(K:aM):Sp:=(h6,@G,@ap/\@aQ/\(hC,@fW))
def aBj(F:(o,"move_between","move_between",Vj))(B:@ad):(jp,1,Vk K):=by
 refine(h,Cu,@C);.rw[dL];rfl
 .rw[jR];have hl:=R.len;rw[bv,hl];rw[as,@mD,Ii,(hV,3,@mD,4,@mD,(gv,@E,(e6,@ak),@H)),(cJ,5,@mD,@bg,(jm,@B,4,@mD,(bd,@mD,(gP,@E,(e6,@ak))),(cq,@a4,(b3,@H,oN (dC,@y4,@ak) aE aE))),@a4)];refine@bZ;rw[gz];rw[aM,a,@ct];refine(rU,(g4,[@bc,@fF,@cr,O,v4,@r],(bl,D,@b9),@tu,∀(j:Nat)(hj:@gY),j<i->cB kvs (bG,@f1)=some @k3))
  .rintro i y σ H' T hi⟨O,v4,kvs,rfl,hs,hm,pT,N⟩hT;rw[g9];rw[em];rw[ee,@xa];rw[jG];rw[bP];refine{_,@d,_,(cO,@ci,@d,D,_,@d,(r8,I,@a3,(aE,s3)))};.rw[vm];rfl
   .exact@a2
   rw[aQ,Nh kvs @mI @a3]
   .intro j hj t;rw[ajE];rw[dC];.subst e;rw[ai (aF,ec)]
    .rw[lx];rw[af aI];exact N j hj @e
  .rintro σ H'⟨O,v4,kvs,rfl,hs,hm,pT,N⟩;rw[au,dX]at N;rw[ax,λM hM=>?_];have l:=hs.free hM;have k:=Co hm hM;have s4:=(bM,H',hM);have d:aj K H b (q.map @dg):=E5 hb;rw[aF,b,{_,(hs.trans s4).seq d},?_];refine(eV,b,q.map @dg,λi σ H2=>∃(O v4:@ag),σ=[@bc,@fF,@cr,O,v4,(J,M)]/\ae H' H2/\Mv H2 M ((q.take i).map λc=>(@gZ,@ce !=@qj)),(ha,s4,Mv.nil),λi σ H2 _⟨_,_,_,s5,_⟩=>(hs.trans s5).seq d)
   .rintro i y σ H2 hi⟨O,v4,rfl,eJ,m⟩;rw[kh,q,(by rw[aY];cases e:q[i]? with|none=>rw[cA]|some z=>rw[gp])];rw[em];let{b1,b2}:=S.no_bounds cM;rw[ec]at b1 b2;let{pl,pn}:=(hJ,R);rw[iX,@gZ,r[@gZ]'@e];rw[W]at pn;have u:@qj=(r[@gZ]'@e).up:=(eO,My.Er R (j:=@gZ) @e,pn);have hv:=N @gZ @e pl;rw[pn]at hv;refine(e,_,@d,@ci,@d,D,_,@d,.inl {kvs,@mI,.inl (eJ _ _ hm),(O,vm),hv.symm},?_);let{G,g,yV}:=m;refine{_,@d,(X,g),_,@d,?_};rw[fd,(B,told (r[@gZ]'@e),@ci),(dn,@AD),(gX,(kS,a,@d,(hs.trans eJ).seq ha,fX @d (by rw[be,fC,be,bX (v,(dm,@gZ))];rfl),_,@d,@d,_,@d,(d,ft,q)))]
    .rw[ald pn @e,<-u]at hc;have:(F,@AD):=by simpa using hc
     rw[this]at q;exact q
    .rw[ald pn @e,<-u]at hc;have:@AD=@h:=by simpa using hc
     rw[this]at q;exact q
    rw[P,@b3,@fX];rw[fY,(@gZ,@ce !=@qj),(⟨G,g,yV⟩:Mv H2 M _),b7];refine{M,acc,_,(hT,e1,?_,_,cF (aH eJ b7) hM)};rw[bq,e2,eD,dA (by have:=S.len;omega)];rw[s,My.qo _ hc,e3]
   .rintro σ H2⟨O,v4,rfl,eJ,m⟩;rw[au,gn]at m;exact(am,q0 H2 M @yf m)
def gr:Cs->aq|.claim 0 _=>"up"|.claim 1 _=>"even"|.claim _ _=>"like"|.op .notW=>"not"|.op .andW=>"and"|.op .orW=>"or"|.op .par=>"("
def yq:Cs->@o|.claim _ cs=>cs|.op _=>[]
def ae.sqt{H H':Hp}{xs:@F}(s:@ab)(h:@fc):b_ K H' a xs:=(rr,(as,h),(as,h))
def Cv(K:aM)(H:Hp)(p:aa)(s:Cs):@u:=∃q,(bj,.tup [.str (gr s),@bi])/\(cc,q,(V,yq s))
def Vl{H H':Hp}(k:Keeps @fd H H'):@ab:=λb o h=>k b o eY h
def Cw:ng @fd (Cv K):=λH H' p x k _⟨q,Z,h2⟩=>{q,k _ _ eY Z,ae.sqt (Vl k) h2}
abbrev pJ(K:aM)(H:Hp)(l:aa)(ss:@bo):@u:=b6 @fd (Cv K) H l ss
def Au(ss:@bo):@u:=∀k cs,Cs.claim k cs∈ss->k<=2/\@cT=jB k
def aBk(H:Hp)(kvs:@bp)(S g:@bv)(c:Nat):@u:=∃p,cB kvs @ff=some @ao/\(bj,(mt,g c,S c))
def Cy(H:Hp)(d:aa)(S g:@bv)(j:@o):@u:=∃kvs,(a4,@b9)/\∀c∈j,aBk H kvs S g c
def Cy.same{H H':Hp}{S g:@bv}{j:@o}(h:@CY)(s:@ab):Cy H' d S g j:=by let{kvs,Z,h2}:=h;exact{kvs,(as,Z),λc hc=>let⟨p,a,b⟩:=h2 c hc;{p,a,(as,b)}}
def E8:@bp:=[(.inr "up",.int 1),(.inr "even",.int 1),(.inr "like",.int 2)]
def Vm:@bp:=[(.inr "(",@cy),(.inr "or",.int 1),(.inr "and",.int 2),(.inr "not",.int 3)]
structure DicC(P:cE)(w:cn)(K:aM)(mg:@aT)(aN aB:aa):@u where
 CARDS_NAMED:(fZ,"CARDS_NAMED",aN)
 CARDS_NAMED_d:(dy,aN,E8)
 BINDS:(fZ,"BINDS",aB)
 BINDS_d:(dy,aB,Vm)
abbrev Vn:aY:=top 50
def alf:(bf,["word","cards","lies","first"],["word","cards","lies"],Vn):=@D
def alg(K:aM):Sp:=λvs H Q _=>∃(q d:aa)(S g:@bv)(k:Nat)(cs j:@o),vs=[.str @jy,@bi,@cD]/\(cc,q,(V,cs))/\@CY/\k<=2/\@cT=jB k/\(∀c∈cs,c∈j)/\(c0,BY S g k cs)
def aBl(F:(o,"claim_holds","claim_holds",Vn)):(ae,1,["word","cards","lies"],alg K):=by
 refine(h,alf,@C);.let{q,d,S,g,k,cs,j,rfl,_}:=h;rfl
 .let{q,d,S,g,k,cs,j,rfl,U,{kvs,hd,x},hk,gH,jF,q0}:=h;rw[a9,3,alf.nd,(gP,@E,@rG),@Em,(bu,@Em,(b7,@w1,(hn,@E,@rG)))];have h0:0<@cT:=by rw[gH];unfold jB;split<;>omega
  have v:(K,cs,0,@fh):=(d8,bX h0);let{L,c,u}:=x _ (jF _ (cZ v));have l:(bz,(V,cs),(A,0),(b5,@fh)):=(nd,v);refine(hS,q,(hT,U,l,d,(hz,.inl (W,@fh),hd,c.symm)));have tt:(cc,L,[(dn,! g @fh),(dn,S @fh)]):=b_.of u;unfold BY at q0;have t:k=0\/k=1\/k=2:=@e;rw[bl];rcases t with rfl|rfl|rfl;.rw[kk];rw[Th];rw[(@ax)]at q0;exact q0
  .rw[aw,{_,@hL}];rw[kk];rw[(@dT),(@ax)]at q0;rw[show(B,(bq,az (! g @fh)),@ex)=g @fh by cases g (cs.getD 0 0)<;>decide];exact q0
  .rw[aw,{_,@hL}];rw[aq];have C:(K,cs,1,@jU):=(d8,bX (lB,gH));let{p1,b,cK}:=x _ (jF _ (cZ C));have e:(bz,(V,cs),(A,1),(b5,@jU)):=(nd,C);have a:(cc,p1,[(dn,! g @jU),(dn,S @jU)]):=b_.of cK;refine{_,@d,L,_,_,_,@d,@d,tt,@d,_,(kS,q,@d,U,e,d,_,@d,(hz,.inl (W,@jU),hd,b.symm),p1,(iU,a,@d))};rw[(@dT),(@dT)]at q0;rw[show(B,(bq,az (S @fh)),(bq,az (S @jU)))=(S @fh==S @jU)by cases S (cs.getD 0 0)<;>cases S (cs.getD 1 0)<;>decide];exact q0
abbrev Vo:aY:=top 49
def N7:(sI,"lies",Vo):=@D
def alh(K:aM):Sp:=(kK,@aQ,∀(H':Hp)(d:aa),(eR,Cy H' d (dt r) (λc=>@nN%2==0) @aD,@cD))
def aBm(F:(o,"lies_of","lies_of",Vo))(B:@ad)(d:@lX):(jn,alh K):=by
 refine(h,N7,@C);.rw[eg];rfl
 .let{a,r,n,rfl,ha,R,hn,q0}:=h;have hl:=R.len;rw[bv,hl];rw[bu,N7.nd,Ii,(hV,2,N7.nd,3,N7.nd,(gv,@B,@tQ,(b3,(dI,@E),(eI,d))))];refine@bZ;rw[gz];rw[aM,a,@ct];refine(rU,(sR,O,v4,(bl,D,@b9),@tu,∃p,cB kvs (bG,@f1)=some @ao/\(bl,p,(mt,j%2==0,@kU))))
  .rintro i y σ H' T hi⟨O,v4,kvs,rfl,hs,hm,pT,N⟩hT;rw[g9];rw[em];rw[j4];have s3:=(aK,@xa,H',hT);have I:=(ac,hm);rw[bP];refine(E,_,_,@d,@d,@de,_,@d,@ci,@d,@b3,@fX);rw[E,HO.tup [(bq,az (!@gJ)),(bq,az @ce)],HO.tup [V.int (@aL%2),V.int (pH @ci)],(r,yo b1,show@aL%2=(av,!@gJ)by
    rcases Gi i with e|e;.rw[e];show _=@d7;omega
    .rw[e];show _=@gO;omega)];rw[<-e];have s4:=aH (o:=(mt,@gJ,@ce)) s3 b7;have S:=(bB,hm);refine{_,(cO,@ci,@d,D,_,@d,(r8,S,.ref p2,(aE,hs.trans s4)))};.rw[vm];rfl
   .exact@a2
   rw[aQ,Nh kvs @mI (.ref p2)]
   .intro j hj t;rw[ajE];rw[dC];.subst e;rw[ai (aF,ec)];rw[ab,p2,@d];rw[aA (qj (Co I b7)),ao,ec]
    .rw[lx];rw[af aI];let{p,cK,M}:=N j hj @e;rw[ab,p,cK];have g:p≠D:=λe=>by rw[e,hm]at M;cases M
     rw[aA g];exact(bB,M)
  .rintro σ H'⟨O,v4,kvs,rfl,hs,hm,pT,N⟩;rw[au,dX]at N;rw[am,q0 H' D hs {kvs,hm,@i9}];let{b1,b2}:=My.jm.1 hc;let{pl,pn}:=(hJ,R);rw[iX,@nN,r[@nN]'@e];rw[W]at pn;have u:dt r c=(r[@nN]'@e).up:=(eO,My.Er R (j:=@nN) @e,pn);let{p,cK,b7}:=N @nN @e pl;rw[pn]at cK;rw[<-u]at b7;exact⟨p,cK,b7⟩
def aBn{k:Nat}(h:Cs.claim k cs∈ss){c:Nat}(hc:c∈cs):c∈@e3:=by induction ss with|nil=>cases h|cons s ss ih=>rcases de.1 h with e|e;rw[bZ,(aR,hc)];.cases s with|claim k' cs'=>exact(cx,ih e)|op w=>exact ih e
def ali{k:Nat}(cs:@o)(h:k<=2):@jy="up"\/@jy="even"\/@jy="like":=by
 have t:k=0\/k=1\/k=2:=@e;rcases t with rfl|rfl|rfl;.exact@aK
 rw[ac,@aK];rw[ac,@dU]
def aBo{S g:@bv}{i:Nat}{s:Cs}{st st':@cs}(hs:(C,ss,s))(h:(h8,@lb,st))(hf:∃v,(h8,ss,v)):∃st',rK S g s st=some st'/\(h8,@rj,st'):=by let{bn,e}:=fk.1 hs;let{v,hv}:=hf;rw[ah,ss,@lb++s::@yo,by rw[<-e,<-v_ bn,DF]];rw[ag,@rj,@lb++[s],(ab,rA,hs)];rw[e1,My.EC,h]at hv;have hv:(nS,@yo)=some v:=hv;cases hr:rK S g s st with|none=>rw[hr]at hv;cases hv|some st'=>rw[ab,st',@d];rw[e2,My.EC,h];show(nS,[])=_;rw[hr];rfl
def alj{S g:@bv}:∀(ss:@bo)(st st':@cs),ip S g ss st=some st'->st'.length<=@v4+@h6
 |[],st,st',h=>by cases h;simp
 |s::ss,st,st',h=>by
  have h:(nS,ss)=some st':=h;cases hr:rK S g s st with
  |none=>rw[cV,hr]
  |some u=>
   rw[hr]at h;have:=alj ss u st' h;have hu:@je<=@v4+1:=by
    cases s with
    |claim k cs=>cases hr;simp
    |op w=>
     cases w with
     |par=>cases st<;>cases hr
     |notW=>cases st with|nil=>cases hr|cons b st=>cases hr;simp
     |orW=>rw[i0]
     |andW=>rw[i0]
   rw[cX];omega
abbrev Vp:aY:=top 51
def E9:(ay,["steps","lies","found","word","cards","second","first"],"steps","lies",Vp):=@D
def Vq(K:aM):Sp:=λvs H Q _=>∃(a d:aa)(S g:@bv)(ss:@bo)(j:@o)(v:Bool),(cz,@cD,(gt,a),Au ss,@CY,(∀c∈@e3,c∈j)/\@rE/\(h8,ss,[v])/\(cj,v))
def aBp(F:(o,"holds_of","holds_of",Vp))(B:@ad)(G:DicC P w K mg aN aB)(C:(Z,"claim_holds",["word","cards","lies"],1,alg K)):(aI,2,"steps","lies",Vq K):=by
 refine(h,E9,@C);.let{a,d,S,g,ss,j,v,rfl,_}:=h;rfl
 .let{a,d,S,g,ss,j,v,rfl,ha,hok,De,x,eI,xh,q0}:=h;rw[as,@p8,@bg,(dV,eQ @Y,3,@p8,4,@p8,ay (bN (bX,@H) (dk,@E,awC @ua) (ay (bN (Aa (azn G.CARDS_NAMED G.CARDS_NAMED_d @H)) (dk,@E,(es,C,@H,@ak,@B)) (bR,5,@p8,@ua,(aw,6,@p8,@ua),(dk,@E,oN (bX,@H) (tK @bS (rO @a4)) (Sv @bS (rO @a4)))))))),(aY,@ty)];rw[br];rw[cv];let{zs,X,gh,hz}:=ha;rw[cu,@h6,gh];rw[aF,a,(a1,(aV,X)),?_];refine(o5,∃(st:@cs)(O v4 N v6:@ag),σ=[@bc,@fQ,@cr,O,v4,N,v6]/\(b0,@I9)/\(h8,@lb,st),{Y,[],@r,@r,@r,@r,@d,ao,@d})
  .rintro i y σ H' hi⟨hs,st,O,v4,N,v6,rfl,hm,dM⟩;rw[cN,@vk,@u_];have r:(C,ss,z.2):=As gh iP;rw[bD,iP];have ms:=cZ r;let{q,hp,U}:=@tG;let{st',jx,AK}:=aBo (st':=st) r dM {_,xh};have bG:@v4<=1000:=by have:=alj _ _ _ dM;rw[eD]at this;simp at this;omega
   have p:(st.reverse.map V.bl).length=@v4:=(r,au,jU);rw[ds,z.1,b_.of (bw,hp)];rw[bl];generalize z.2=sz at*;cases sz with
   |claim k cs=>
    let{k2,cl}:=hok k cs ms;have t:@jy≠"not":=by rcases ali cs k2 with e|e|e<;>rw[e]<;>decide
    have u:(cB E8 (.inr @jy)).isSome=@h:=by rcases ali cs k2 with e|e|e<;>rw[e]<;>decide+kernel
    rw[cG (λe=>t (V.str.inj e))];rw[aw,(Q,_,@d,.inr @jy,?_)];rw[u];rw[am,cq ?_];refine(e,(X,hm),_,@d,_,(cO,q,d,S,g,k,cs,j,@d,ae.sqt hs U,De.same hs,k2,cl,λc hc=>x c (aBn ms hc),?_));refine{D,_,_,@d,@d,hm,(d,p,@a2),@kK,st',_,_,_,_,@d,?_,AK};rw[fD,BY S g k cs];rw[ao,e,kJ,bh];rfl
   |op J=>
    cases J with
    |par=>cases st<;>cases jx
    |notW=>cases st with|nil=>cases jx|cons b st=>rw[bK];rw[fD,! b];refine(E,(X,hm),_,@d,(X,hm),D,_,@f3,@d,@d,hm,?_,_,@d,?_);rw[nm];refine{D,_,_,(sH,(aE,@kK))};rw[aj,asQ,p,@a2];.rw[ao,e,kJ,kJ,bh,bh];show(jI,(atN V.bl st.reverse++[V.bl b]).dropLast++_)=_;rw[KY];rfl
    |andW=>rw[mG,"and",l&&b,cq ?_,@I3,@GJ]
    |orW=>rw[mG,"or",l||b,cI ?_,@GJ,@I3]
  .rintro σ H'⟨hs,st,O,v4,N,v6,rfl,hm,dM⟩;rw[au,ic,gn,xh]at dM;cases dM;exact(e,(f0,D,aj.of hm,@d,q0 H' hs))
def tY(ks:@o):@bp:=ks.map λ(c:Nat)=>((b2,c),V.bl @h)
def aBq(ks:@o)(c:Nat):((tY ks).any λD=>(B,D.1,(b2,c)))=decide (c∈ks):=by
 unfold tY;rw[afM];rw[aD];rw[PZ,bU];constructor;.rintro⟨x,hx,e⟩;have e:=wy (bT e);rw[a3,x,c];rw[bj];exact hx
 rw[e_,c,@eG]
def aBr(ks:@o)(c:Nat):iE (tY ks) @ff @gE=tY (if c∈ks then ks else ks++[c]):=by
 unfold iE;rw[aBq];by_cases h:c∈ks;.rw[(@h_),(@ax),ai h];unfold tY;rw[bC];rw[ak];intro x _;show(H,(b2,x),@ff,((b2,x),V.bl @h),((b2,x),V.bl @h))=_;split<;>rfl
 .rw[cG h,(@dT),af h];unfold tY;rw[bh];rfl
def Vr{ks:@o}(h:ks.Nodup)(hb:∀c∈ks,@hH):@gm<=n:=(eO,h.length_le_of_subset (λx hx=>My.jm.2 (hb x hx)),My.gq)
abbrev Vs:aY:=top 48
def IP:(aq,["steps","named","word","cards","card"],"steps",Vs):=@D
def Vt(K:aM):Sp:=λvs H Q _=>∃(a:aa)(ss:@bo)(n:Nat),(fN,(gt,a),@rE,@aQ,@zc/\∀(H':Hp)(p:aa)(m:@o),@ab->@yp->(gH,m,@e3)->(aP,p,(V,m))->Q @ao H')
def aBs(F:(o,"named_cards","named_cards",Vs))(B:@ad):(bp,"steps",Vt K):=by
 refine(h,IP,@C);.let{a,ss,n,rfl,_}:=h;rfl
 .let{a,ss,n,rfl,ha,eI,hn,vV,q0}:=h;rw[a9,1,IP.nd,Ii,(dV,eQ @Y,2,IP.nd,3,IP.nd,ay (dG,ai4 @H,4,IP.nd,ay (gv,@B,@ak,g_))),(aY,(mQ,(fT,akp @d,@B)))];refine@bZ;rw[gz];let{zs,X,gh,hz}:=ha;rw[cu,@h6,gh];rw[aF,a,(a1,(aV,X)),?_];refine(o5,(rA,(bl,D,.dK (tY ks)),fo @lb),{Y,[],@r,@r,@r,@d,ao,QB,λc=>by simp[fo]})
  .rintro i y σ H' hi⟨hs,ks,v2,O,v4,rfl,hm,cJ,l⟩;rw[cN,@vk,@u_];have r:(C,ss,z.2):=As gh iP;rw[bD,iP];let{q,hp,U}:=@tG;have Ka:fo @rj=fo @lb++yq z.2:=by rw[rA,r,BJ,My.zV];congr 1;cases z.2 with|claim k cs=>simp[fo,yq]|op w=>rfl
   have js:∀c∈fo @rj,@hH:=λc hc=>vV c (by have e:=My.zV @rj @yo;rw[DF]at e;rw[e];exact(aR,hc));rw[ds,z.1,b_.of (bw,hp)];rw[aF,q,{_,ae.sqt hs U},?_];refine ai6 (K:=K) (a:=q) (xs:=(V,yq z.2)) (λj σ H2=>@jH/\(rA,H2 D=some (.dK (tY ks)),fo @lb++(yq z.2).take j)) {hs,ks,_,_,_,@d,hm,cJ,λc=>(ai,DG,gk,l c)} (λj σ H2 _ h=>ae.sqt h.1 U) ?_ ?_
   .rintro j y σ H2 hj⟨eJ,d,w2,w3,w4,rfl,m,g,t⟩;obtain⟨c,hc,rfl⟩:∃c:Nat,(ah,yq z.2,c)/\y=(b5,c):=by rw[be,Ch]at hj;cases e:(yq z.2)[j]? with|none=>rw[fr]|some c=>rw[ku]
    have vK:d.length<=n:=Vr g (λc hc=>js c (by
     rw[Ka];rcases bz.1 ((t c).1 hc)with h|h;.exact(aR,h)
     .exact(cx,Bm h)));refine(ef,_,@d,D,.inl {tY d,@ff,m,@d,?_,@d},(aE,eJ),if c∈d then d else d++[c],_,_,_,@d,?_,?_,?_);.unfold tY;rw[au];exact@a2
    .rw[ao,aBr]
    .by_cases h:c∈d;rw[aT,h,g];rw[bk,h,Du.2 {g,@v,λx hx y hy e=>h (by rw[cz]at hy;rw[<-hy,<-e];exact hx)}]
    .intro x;have et:(yq z.2).take @aj=(yq z.2).take j++[c]:=(ab,rA,hc);rw[et,<-eM,bz,<-t x];by_cases h:c∈d;rw[aT,h,{.inl,λq=>q.elim id λq=>(d,cz.1 q,h)}];.rw[af h,bz]
   .rintro σ H2⟨eJ,d,w2,w3,w4,rfl,m,g,t⟩;refine{eJ,d,_,_,_,@d,m,g,λc=>?_};rw[t c,Ka,au,j5,gn]
  .rintro σ H'⟨hs,ks,v2,O,v4,rfl,hm,cJ,l⟩;rw[au,ic,gn]at l;rw[aO,D,hm,@cu];have v:((tY ks).map λx=>kV x.1)=(V,ks):=by unfold tY nL;rw[bC,bC];rfl
   rw[v];have s2:=(cu,(V,ks),hs,hp);have vK:@gm<=n:=Vr cJ λc hc=>vV c ((l c).1 hc);refine{p,_,@d,@ih,(af,j5),λJ q M G U=>?_};have xx:∀z∈J,0<=z:=λz hz=>by have:=M.mem_iff.1 hz;unfold nL at this;let{x,_,rfl}:=bf.1 this;omega
   rw[ah,nL (J.map oA),J,by
    unfold nL;rw[bC];conv=>rhs;rw[<-qX J]
    rw[ak];intro z hz;have:=xx z hz;show(A,z.toNat)=z;omega];have b7:(J.map oA).Perm ks:=by
    have:=M.map oA;rw[ag,(nL ks).map oA,ks,by
     unfold nL;rw[bC];conv=>rhs;rw[<-qX ks]
     rw[ak];intro z _;show(i8,z)=z;omega];rw[e2]at this;exact this
   refine q0 _ q (J.map oA) (aH s2 U) ?_ (λc=>?_) ?_;.have u:(J.map oA).Nodup:=b7.nodup_iff.2 cJ;have fG:(J.map oA).Pairwise @ki:=(d,xI,G.imp @qG);exact(fG.and u).imp λ⟨a,b⟩=>@e
   rw[s,b7.mem_iff,l c];.rw[ao,e1]
abbrev qC:=@jM
abbrev iM:=List qC
def dU(zs:(b9,qC)):@bp:=(ja,@vc)
def alk(x:qC):HO:=(bW,(dn,!@bw),(av,@eO))
def kX(H:Hp)(d:aa)(p:iM):@u:=(fo,qC,(a4,@mA)/\@ij=p/\∀z∈zs,(P,z.1,alk z.2))
def kX.same{H H':Hp}{p:iM}(h:@j6)(s:@ab):kX H' d p:=(sU,(as,c z m))
def Av:ng @fd kX:=@Gl
def kX.updL{H:Hp}{D:aa}{p:iM}{xs:@F}(h:@j6)(hD:(co,D)):kX @dB d p:=by let{zs,a,b,c}:=h;rw[ap,zs,?_,b,λz m=>?_];rw[aK,(λe=>by rw[e,hD]at a;cases a),a];.have:=c z m;rw[aA (jC,hD)];exact this
abbrev i8(H:Hp)(l:aa)(cs:@jl):@u:=b6 @fd kX H l cs
def i8.snoc{H:Hp}{p:aa}{xs:@jl}{x:iM}(h:i8 H l xs)(a:kX H p x):(gy,@X,i8 @oS l (xs++[x])):=by rw[cl];rw[fg];rw[cc];rw[cU];rw[fl,{eY,(hz z m).2.updL h},eY,a.updL h]
def i8.updD{H:Hp}{D:aa}{xs:@jl}(h:i8 H l xs)(hD:(ag,D,ys))(aI:l≠D):i8 @dB l xs:=(qd,(hz z m).2.updL hD)
def IR{c:Nat}:(kz,@fz,@ff,c):=by unfold cB dU;rw[Eg];rw[e6,aW,(B,D.1,(b2,c)),λz:aa×qC=>@vc,(fP,c),(kV,(b2,@aF),@ff,λq=>@rA)];rw[aa];cases zs.find? λz=>z.2.1==c<;>rfl
def aBt{p:iM}(e:@ij=p)(c:Nat):(p.find? (fO,c))=(zs.find? (fP,c)).map @bA:=by rw[<-e,Eg];rfl
def kX.get{H:Hp}{p:iM}(h:@j6){c:Nat}(hc:c∈@cO):∃kvs q,(a4,@b9)/\cB kvs @ff=some @bi/\(P,q,(bW,(dn,! cf p c),(av,cx p c))):=by let{zs,a,b,hz}:=h;rw[ae,@fz];have hf:=aBt b c;cases e:zs.find? λz=>z.2.1==c with|none=>rw[e]at hf;have:=we.1 hf;rw[aZ,hc];exact absurd (P8 x.1) (this x hx)|some z=>rw[e]at hf;rw[av,z.1,a,(ab,IR,e)];rw[hz z (zq e)];unfold cf cx;rw[hf];rfl
def kX.has{H:Hp}{p:iM}(h:@j6)(c:Nat):∃kvs,(a4,@b9)/\(f5,@ff)=(lw,c):=by let{zs,a,b,hz}:=h;rw[a4,a];rw[IR,BH,<-b,bC];rw[aD];rw[atQ,gA,bf];exact{λ⟨z,m,e⟩=>{z,m,eW.1 e},λ⟨z,m,e⟩=>{z,m,eW.2 e}}
def kX.lies{H:Hp}{p:iM}(h:@j6):Cy H d (cx p) (cf p) @cO:=by let{zs,a,b,hz}:=id h;refine{_,a,@i9};let{kvs,q,Z,h2,h3}:=h.get hc;rw[a]at Z;cases Z;exact⟨q,h2,h3⟩
abbrev Vu:aY:=top 109
def Vv:(o3,Vu):=@D
def alm(K:aM):Sp:=(m2,@aM<=52/\(f6,@Kn))
def aBu(F:(o,"sides_of","sides_of",Vu))(d:@lX):(jn,alm K):=by
 refine(h,Vv,@C);.rw[f4];rfl
 .let{a,ns,rfl,ha,hn,q0}:=h;rw[an,(b8,"card",1,Vv.nd,@Y,1,Vv.nd,(dp,d))];rw[cw];rw[g_,pH z];rw[b0];refine q0 H1 D Y ?_;rw[u,bC];rfl
abbrev Vw:aY:=top 105
def E_:(bf,["cards","case","place","size","odd_places","even_places","card","odd"],@xy,Vw):=@D
def Vx(K:aM):Sp:=λvs H Q _=>∃(a d:aa)(m:@o)(p:iM)(i n:Nat),vs=[@W,@cD,@a3,@dd]/\(fE,nL m)/\@j6/\(lt,@cO)/\@bW<=52/\i<=n/\n<=52/\(cj,@CV)
def aBv(F:(o,"have_room","have_room",Vw))(B:@ad):(ae,1,@xy,Vx K):=by
 refine(h,E_,@C);.let{a,d,m,p,i,n,rfl,_}:=h;rfl
 .let{a,d,m,p,i,n,rfl,ha,hd,hm,jw,hi,hn,q0}:=h;rw[a9,4,@p9,bd kR (bd B9 @H aE) (bd B9 @E aE),(aw,5,@p9,bd kR (bd kR @H @E) @ak),(bu,(aw,7,@p9,(h1,(b8,"card",6,@p9,@Y,6,@p9,(hn,@B,@bS)))),tK (de,B_,@cv,@ak) (rO (de,B_,bd kR @a6 @cv,@a4)))];have c2:SE @aq 2:={@Z,@Z};have C:SE @aL 2:={@Z,@Z};refine(e,_,_,@d,@d,c2,_,@d,_,_,@d,@d,C,_,_,@d,@d,?_);refine(e,(E,_,_,(kZ,@d)));rw[cw];rw[jP];refine(sh,m,λc=>(dn,! cf p c),I,@F_);.let{kvs,t,Z,h2,h3}:=(hd.same hs).get (hm z @nx);exact{_,@d,_,@d,d,_,@d,(hz,(bG,z),Z,@mn),(f0,t,b_.of h3,@d,@co)}
  .rw[b0];have v:(m.map λc=>(bq,az (! cf p c)))=(V,m.map @vU):=by unfold nL;rw[bC,bC];rfl
   rw[v]at u;refine(cm,D,@k6);have fG:@wc<=@bW:=by
    clear hm jw ha I v u q0;induction m with
    |nil=>exact@L
    |cons x m ih=>
     rw[cb,ij,cX];have:az (!@eb)<=1:=by cases cf p x<;>decide
     omega
   have k:=@iu;rw[Iv];generalize@wc=S at k fG⊢;rw[ah,@aq/2-@aL/2,(A,@gI),@e];rw[ag,@FM,(A,n-i-@gI),@e];refine(e,@od);.have Z:S<=@gI:=@dY;rw[bq Z,Bx]at k;refine(e,a,_,@d,.inl (Y.seq I),_,@d,_,_,(kZ,@d));rw[au];have g:(bY,(u,@bW)-@eF,@FM)=(bY,@bW-S,n-i-@gI):=kh.2 {@d8,@d8};rw[<-g]at k;exact k
   .have Z:¬S<=@gI:=λq=>(bm,by show@eF<=@aq/2-@aL/2;omega);rw[cG Z,wx]at k;exact k
def N8{H:Hp}{u v:HO}(hd:(a4,u))(h:@ez)(aI:u≠o):(R,ag H d v b):=(D,λe=>by rw[e,hd]at h;exact aI (bZ h),h)
def Vy{H H':Hp}{u v:HO}(hd:(a4,u))(s:ae (ex,v) H'):ae H @ou:=by
 intro b o h;by_cases e:b=d;.rw[e,ao];rw[e,hd]at h;exact h
 rw[aK,e,s b o (D,e,h)]
def Vz{H:Hp}{xs:@F}{od:bA}(hd:(a4,@b9))(h:@bO):aj K (ex,.frz od @b9) a xs:=(rr,@Gk,@Gk)
def aln{od:bA}(f:qC->V){H1:Hp}{D:aa}(hl:(c1,@cX))(hD:@eM)(hd:H1 d=some @w5)(hw:@j8)(step:@Gm)(N:(hx,(zs.map @bA).map f)):(ki,@FF,@FG,@FI):=by rw[je];rw[mD,((zs.take i).map @bA).map f];rintro i k v H' hk⟨hs,hm⟩;rw[mt];rw[cp];simp only[kU,iQ];refine(hZ,z,H',hz,hs,hm,@oR);rw[bq,au,eD,@op];.rw[ao,bC,bC,My.qo _ hz];rfl
def alo(cJ:@yq){z:aa×qC}(hz:z∈zs):@E_:=by
 induction zs with
 |nil=>cases hz
 |cons y zs ih=>
  rw[cb,mJ]at cJ;rcases de.1 hz with e|e;.subst e;simp[o7]
  .have aI:¬(c3,y.2.1,@aF):=λq=>cJ.1 (d,eW.1 q,(a0,z,e));rw[o7];simp only[ig.2 aI];exact ih cJ.2 e
abbrev VA:aY:=top 104
def yt:(jo,"case","sums","card","differences","difference","case",VA):=@D
def alp(K:aM):Sp:=λvs H Q _=>∃(a d:aa)(r:db)(p:iM)(n:Nat),(cz,@cD,@ee,@G,@aQ,@j6/\@sA/\(∀c∈@cO,@hH)/\@jJ/\(cj,tu r p))
def aBw(F:(o,"sides_in_reach","sides_in_reach",VA))(B:@ad)(m:@va)(t:@BD):(e5,3,"case",alp K):=by
 refine(h,yt,@C);.let{a,d,r,p,n,rfl,_}:=h;rfl
 .let{a,d,r,p,n,rfl,ha,R,hn,{zs,hd,gh,hz},cJ,hb,aI,q0}:=h;have hl:=R.len;rw[bv,hl];have o:@yq:=by rw[<-gh,bC]at cJ;exact cJ
  rw[cu,@d2,gh];have dF:@d2<=n:=(eO,Vr cJ hb,au);rw[bL,bN (c_,@a6) (cJ,2,@mJ,(cL,m),(cI,@mJ,(rk,(eL,(bi,@E,(d_,@H)),(dB,azq (K:=K) @d,B.sum,Lw,(gP,@B,@H))))),(kN,(b8,"difference",5,@mJ,@ak,5,@mJ,(b7,@a4,(fF,@ak))))) bS,(dT,(ao,jL,(dB,ayK,B.len,bO,@B),@a6)),(b7,(dI,(h1,(rk,(hn,@B,@H)))),(dI,(cL,t)))];rw[eO];rw[au,dX];rw[V]
  .rw[c6];rw[h_];have y:=@dn;refine{d,_,y,eY,λod=>?_};rw[kM];have C:aj K (ag H1 d @w5) p1 @Gi:=Vz y (aj.of Z);refine(rR,mh r x);.rw[bD,A8];let{b1,b2}:=hb @aF (by rw[<-gh,bC];exact(a0,z,mz));rw[iw,y,(aV,hz z mz)];refine{_,@d,_,@d,_,(bT,@d,p1,_,@d,hs.seq C,(py,@aF,@aF),_,@d,_,@d,d,(a5,@HQ,z.1,@K3,@d,b_.of ht,@BR))};have k:=@co;unfold mh at k;rw[(v,@aF-1+1=@aF)];rw[zx,GO,GO]at k;have es:(@K3:@J).sum=(av,!@v8)+(av,z.2.2.2):=@v;rw[es];exact k
   .rw[ae,(aM,ao)];have g:=Vy y s2;rw[hR,D≠d];have h3:(aa,ag H2 d @mA D,(p.map (mh r)).map @aY):=by rw[aA O,h2,gh,bC];rfl
    rw[el,@mA];have xz:(p.map (mh r)).length<=52:=@i2;have uw:(K,p.map (mh r),0,@kW):=by cases p with|nil=>rw[a2,aI]|cons x l=>rfl
    rw[lM,@Lj,ai T];generalize p.map (mh r)=b at*;rw[aF,D,(a1,h3),@g9];refine oP (λd:Nat=>(bq,d)) b @eX (λd=>.bl (B,d,@sZ)) @e I (aj.of h3) @bm @F2 @F3 @yn;.refine{_,@d,_,@d,D,(iU,(hi,h3),(fz,uw))};rw[ft,(fy,(u,z),(W,@sZ),z,@sZ)];exact@g1
    .rw[(@fC)]at h4;refine{J,b.map (λd=>(B,d,@sZ)),@d,aj.of (ab,h4,bC),?_};rw[BG];exact u H4 (l_,g)
  .rw[c8];rw[lM,decide (@d2<n)||(B,@sa%2,@cR%2),af ib];refine(e,d,_,@d,hd,_,@d,a,_,(dM,@dN));have pT:(dU zs).length=@d2:=by unfold dU;rw[au];exact ic
   rw[pT,au,dX];rw[V];.have Z:@d2<n:=@dY;have k:=u H @b5;rw[bq Z,aRk]at k;exact k
   .have Z:¬@d2<n:=λz=>(bm,@e);rw[cG Z]at u;refine{d,_,hd,eY,λod=>?_};rw[kM];refine(rR,az @eO);.rw[bD,A8];rw[iw,hd,hz z mz];exact(ef,_,@d,d,@HQ,(f0,z.1,b_.of ht,@d,@co))
    .rw[ae,(aM,ao)];have g:=Vy hd s2;rw[hR,D≠d];have h3:(aa,ag H2 d @mA D,(V,p.map (cZ,@eO))):=by rw[aA O,h2,gh];unfold nL;rw[bC,bC];rfl
     rw[el,@mA];refine(cm,D,aj.of h3);rw[ld,a,g.seq ha,@s0];refine{_,_,(cU,@de,@d)};have k:=u H4 (g.trans s4);rw[asG]at k;rw[ft,NH R,Iv,(fy,(A,@sa)%2,(A,@cR)%2,@sa%2,@cR%2)];exact k
def aBx{c:Nat}(h:c∉zs.map @qa)(q:aa)(e u:Bool):iE @fz @ff @bi=dU (zs++[(q,(c,e,u))]):=by
 rw[Ni];.unfold dU;rw[bh];rfl
 .rw[IR];have:(zs.find? (fP,c))=@r:=we.2 λz m e=>h (bf.2 {z,m,eW.1 e});rw[aa];rfl
def aBy{cs:@jl}{c:Nat}{m:@o}(h:@yr):∀p∈pw cs c,@cO=m++[c]:=by intro p hp;unfold pw at hp;let{a,ha,hp}:=jT.1 hp;let{u,hu,rfl}:=bf.1 hp;rw[bh,h a ha];have:=My.ahS c u hu;rw[bj];rfl
def alq(cs:@jl)(c:Nat):(pw cs c).length=4*@cT:=by unfold pw;induction cs with|nil=>rfl|cons p cs ih=>rw[Bq,dj,ih,au,cX];show 4+4*@cT=_;omega
def alr(m:@o)(c:Nat):lJ (m++[c])=pw (lJ m) c:=by unfold lJ;rw[DB];rfl
def N9:∀(m:@o)(i:Nat),i<=@bW->(∀p∈lJ @g_,@cO=@g_)/\(lJ @g_).length=4^i|m,0,_=>{λp hp=>by rw[DG]at hp⊢;cases cz.1 hp;rfl,@d}|m,i+1,h=>by let{Z,h2}:=N9 m i @e;rw[E,m.take @A,@g_++[m[i]'@e],(ab,rA,(@em))];rw[e,alr];rw[ae,aBy Z];rw[alq,h2,Dz];omega
abbrev VB:aY:=top 103
def Aw:(aq,["cards","cases","card","longer","case","lie","more"],"cards",VB):=@D
def als(K:aM):Sp:=λvs H Q _=>∃(a:aa)(m:@o),(fN,(fE,nL m),@v_,@bW<=4,(mx,i8 H' p (lJ m)))
set_option maxHeartbeats 8000000 in def aBz(F:(o,"all_cases","all_cases",VB))(B:@ad):(bp,"cards",als K):=by
 refine(h,Aw,@C);.let{a,m,rfl,_}:=h;rfl
 .let{a,m,rfl,ha,cJ,jw,q0}:=h;rw[bu,@kO,(eQ,Ii),(dG,eQ @Y,2,@kO,(d9,3,@kO,@bg,(dw,@B,4,@kO,(dG,ai4 (jC (NY NZ (NY NZ (NY NZ (NY NZ ac))))),5,@kO,(bR,6,@kO,(k1,azs,B.dict,boot_dict,@ak),(gv,@bS,@E,@a4),(dk,@H,@bS)))),(cn,@kO,@H)))];refine λd0 qM=>{@fY,λl0 y4=>?_};have Y:=(aK,@gV,H,qM);have s2:=(ax,[.ref d0],ag H d0 @gV,y4);have c0:i8 (an,ag H d0 @gV,l0,[.ref d0]) l0 [[]]:={[(d0,[])],ao,@d,λz mz=>by cases cz.1 mz;exact(Q,eY,[],(aM,ao),λz m=>absurd m rg)};rw[jP];rw[aF,a,{_,(i_,I)},?_];refine(dr,a,m.map @aY,@ab/\∃(l:aa)(v2 O v4 N v6:@ag),σ=[@bc,@c2,v2,O,v4,N,v6]/\i8 H' l (lJ @g_),{@ed,l0,@r,@r,@r,@r,@r,@d,c0},λi σ H' _ h=>h.1.seq I)
  .rintro i y σ H' hi⟨hs,l,v2,O,v4,N,v6,rfl,hc⟩;obtain⟨c,hci,rfl⟩:∃c:Nat,(C,m,c)/\y=(b5,c):=by rw[aY];cases e:m[i]? with|none=>rw[cA]|some c=>rw[gr]
   let{him,eci}:=fk.1 hci;let{j_,gH}:=N9 m i @e;have Ka:m.take @A=@g_++[c]:=(ab,rA,hci);have vW:c∉@g_:=by have:=cJ;rw[<-DF @A m,Ka,eM]at this;intro fY;exact(Du.1 this).2.2 c fY c @v @d
   have aoP:4^i<=64:=cU (ae_ @Z (v,i<=3)) @Z;rw[Ka,alr];generalize lJ @g_=cs at*;rw[ax,λL W=>?_];have s3:=(bM,H',W);let{zs,X,gh,hz}:=hc;have hlL:=Co X W;have ic:@cX=4^i:=(gr,gH,gh);rw[dY,(ac,X)];refine(eV,l,@cP,λj σ H2=>ae H' H2/\∃(v4 N v6:@ag),(qY,v4,H2,@ud),{s3,_,_,_,@d,@h2},λj σ H2 _ h=>(ey,X))
   .rintro j y σ H2 hj⟨eJ,w4,w5,w6,rfl,vU⟩;rw[cN,@vv,@ve];have v:(ah,cs,z.2):=As gh iP;have yG:j<4^i:=(d6,ic,iP);have p:@sX=@g_:=j_ _ (cZ v);have d:=(hz z (cZ iP)).2;have eln:pw (cs.take @aj) c=@ud++(gP c).map λu=>z.2++[u]:=by rw[rA,v];unfold pw;rw[PY];congr 1
    rw[eln];rw[P,@b3,λt0 CM=>{@b3,λt1 pX=>{@b3,λt2 U=>{@b3,λZ FS=>{(dA,4<=a7),λT hT=>?_}}}}];have r0:=(aK,(gJ,@cy),H2,CM);have G:=(aK,(bW,@cy,1),@C4,pX);have r2:=(aK,@Dx,@GW,U);have D:=(aK,(bW,.int 1,1),ag (ag @C4 t1 (bW,@cy,1)) t2 @Dx,FS);have q:=(d7,@Da,@Dn,hT);have g0:=(G.trans @Gp) _ _ ao;have g1:=(r2.trans (D.trans q)) _ _ ao;have g2:=(D.trans q) _ _ ao;have g3:=q _ _ ao;have gT:=ao (H:=@Dn) (a:=T) (o:=.tup @Da);have r:=r0.trans (G.trans @Gp);generalize ag @Dn T (.tup @Da)=H3 at*;have S:∀(k:Nat)(y:V),(K,(@Ib:@F),k,y)->∃(t:aa)(u:qC),y=V.ref t/\(K,gP c,k,u)/\H3 t=some (alk u)/\u.1=c:=by intro k y hk;match k,hk with|0,hk=>rw[eV,t0,g0]|1,hk=>rw[eV,t1,g1]|2,hk=>rw[eV,t2,g2]|3,hk=>rw[eV,Z,g3]|k+4,hk=>cases hk
    have n:i8 H3 L @ud:=vU.same Av r;have hLn:H' L=@r:=W;rw[av,T,@d,{_,b_.of gT}];refine ai6 (K:=K) (a:=T) (xs:=@Ib) (λk σ H4=>(cd,b≠L,(R,H3 b),H4 b)/\ae H' H4/\∃(N v6:@ag),(qY,(J,z.1),H4,@ud++((gP c).take k).map λu=>z.2++[u])) {λb o _ h=>h,eJ.trans r,_,_,@d,by rw[DG];show i8 H3 L (_++[]);rw[gk];exact n} (λk σ H4 _ h=>b_.of (h.1 _ _ (λe=>by let{z3,h3,_}:=n;rw[e,h3]at gT;cases gT) gT)) ?_ ?_
    .rintro k y σ H4 hk⟨g,sj,u5,u6,rfl,Pj⟩;let{t,u,rfl,hu,ht,hu1}:=S k y hk;have htL:t≠L:=λe=>by let{z3,h3,_}:=n;rw[e,h3]at ht;cases ht
     have J:=g _ _ htL ht;have aG6:=d.same sj;let{C,Pk,R,hte}:=aG6;rw[aO,z.1,Pk,λM hM=>?_];have r5:=(aK,.dK (dU C),H4,hM);have hML:M≠L:=λe=>by let{z3,h3,_}:=Pj;rw[e,h3]at hM;cases hM
     have AS:c∉C.map @qa:=by
      have:C.map @qa=@g_:=by rw[<-p,<-R,bC];rfl
      rw[aa];exact vW
     have FE:@vX<=52:=by
      have:@vX=(m.take i).length:=by rw[<-p,<-R,au,au]
      rw[aN,eD];omega
     refine(e,(bh,_,@d,M,_,@d,.inl {dU C,@ff,ao,@d,?_,@d}));.unfold dU;rw[au];exact@a2
     let{u0,ue,uu}:=u;have li:c=u0:=hu1.symm;subst li;rw[aBx AS t ue uu];have r6:ae H4 @Iu:=cF r5 hM;have JR:kX @Iu M (z.2++[(c,ue,uu)]):=by
      rw[ap,_,ao,(ab,bh,R),λx mx=>?_];rcases bz.1 mx with mx|mx;.exact r6 _ _ (hte x mx)
      .cases cz.1 mx;exact r6 _ _ J
     have hL6:=Pj.same Av r6;let{ys,hy,cP,qb}:=i8.snoc hL6 JR;refine{_,@d,(X,hy),_,@d,L,_,_,@d,@d,hy,?_,?_,?_,_,_,@d,?_};.have l1:(pw (cs.take j) c).length=4*(cs.take j).length:=alq _ _;rw[cP,dj,l1,au,eD,eD];have:(gP c).length=4:=rfl;exact@a2
     .intro b o hb C8;rw[(@dV)];exact r6 _ _ (g b o hb C8)
     .exact cF (sj.trans r6) hLn
     .have et:(gP c).take @aV=(gP c).take k++[(c,ue,uu)]:=(ab,rA,hu);rw[et,bh,<-eM];exact qb
    .rintro σ H4⟨g,sj,u5,u6,rfl,Pj⟩;exact{sj,_,_,_,@d,Pj}
   .rintro σ H2⟨eJ,w4,w5,w6,rfl,vU⟩;refine(e,@yf,L,_,_,_,_,_,@d,?_);rw[au,ic,<-gH,gn]at vU;exact vU
  .rintro σ H'⟨hs,l,v2,O,v4,N,v6,rfl,hc⟩;rw[au,gn]at hc;exact(am,q0 H' l hs hc)
def yu(n i:Nat)(m:@o)(p:iM):@an:=@CV
def nh(r:db)(n:Nat)(m:@o)(T:iM->@an)(p:iM):@an:=tu r p&&(yu n 0 m p&&! T p)
abbrev VC:aY:=top 106
def N_:(ay,["row","steps","named","failing","case"],"row","steps",VC):=@D
def alu(K:aM):Sp:=λvs H Q _=>∃(a b:aa)(r:db)(ss:@bo)(n:Nat)(T:iM->@an),(cz,@aH,@ee,@G,@aQ,(gt,b)/\Au ss/\@rE/\@zc/\@e3≠[]/\@Hy/\(qs,T p)/\∀(H':Hp)(l:aa)(m:@o),@ab->@yp->(gH,m,@e3)->i8 H' l ((lJ m).filter (nh r n m T))->Q @bb H')
def aBA(F:(o,"failing_cases","failing_cases",VC))(B:@ad)(M:@GD)(aG_:(bH,"all_cases","cards",als K))(aHa:(dU,"sides_in_reach","case",3,alp K))(U:@GC)(G:@HU):(e5,4,"steps",alu K):=by
 refine(h,N_,@C);.let{a,b,r,ss,n,T,rfl,_}:=h;rfl
 .let{a,b,r,ss,n,T,rfl,ha,R,hn,hb,hok,eI,vV,vW,FU,hT,q0}:=h;have hl:=R.len;rw[bv,hl];rw[as,N_.nd,@tJ,(bd,N_.nd,@bg),(bu,(dw,(gf,aG_),4,N_.nd,(jg,jd (tJ (iY (cE,aHa,@ak)) (tJ (iY (iL,U,@E,@ak,aE,@a6)) (uZ (dR,(aU,G,@B,@ak))))),@H,@ak)),@H)];refine(e,b,ss,n,@d,hb,eI,hn,vV,λH1 p1 m Y AG oe Z=>?_);rw[m1];rw[j6];rw[br];have s2:=(bM,H1,hD);refine{_,@d,p1,m,@d,@of,g,jw,λH2 p2 s3 h2=>?_};let{j_,vY}:=N9 m @bW @L;rw[gn]at j_ vY;rw[jn];have I:=(ac,(aG,H1,D,[]));let{zs,X,gh,hz}:=h2;have ic:@cX=4^@bW:=(gr,vY,gh);have J:@cB:=Y;have kc:@jb:=@g8;have S:p2≠D:=λe=>by
   rw[e,I]at X;have lp:zs=[]:=by have:=(f8,X);cases zs with|nil=>rfl|cons z zs=>cases this
   rw[lp]at ic;have:=asK (n:=@bW) (eY,0<4);simp at ic;omega
  rw[c0,p2,X];refine(eV,p2,@cP,λj σ H3=>(oD,H3 c)/\ae H1 H3/\∃v4:@ag,σ=@HR/\i8 H3 D (kt,j),(Q,@rk,kc,@r,b6.nil I),λj σ H3 _ h=>aj.of (h.1 _ _ S X))
  .rintro j y σ H3 hj⟨t,sg,v4,rfl,O⟩;rw[cN,@vv,@ve];have v:(ah,lJ m,z.2):=As gh iP;have p:@sX=m:=j_ _ (cZ v);have d:kX H3 z.1 z.2:=by let{es,e1,e2,e3}:=(hz z (cZ iP)).2;rw[ap,es,t _ _ (or,I) e1,e2,λx mx=>?_];have:=e3 x mx;exact t _ _ (jC,I) this
   have W:z.2≠[]:=λe=>by rw[e]at p;have:m=[]:=p.symm;cases jF:fo ss with|nil=>exact vW jF|cons c l=>have:=(oe c).2 (aX,jF);rw[‹m=[]›]at this;cases this
   rw[lE,(kt,@aj),(kt,j),@vJ,@vJ];have fin:∀H4,ae H3 H4->(F,@vJ)->(oD,H4 c)/\ae H1 H4/\∃v4:@ag,([@bc,@fF,(J,p1),@cr,(J,z.1)]:@kj)=@HR/\i8 H4 D (kt,@aj):=by intro H4 s4 hf;refine(Q,λc o hc N=>(bB,t c o hc N),sg.trans s4,_,?_);rw[L,hf];show i8 H4 D (_++[]);rw[gk];exact O.same Av s4
   refine{_,(cO,a,z.1,r,z.2,n,@d,(J.trans sg).seq ha,R,hn,d,(d,p,g),(d,p,@J7),W,@s0)};rw[am,bF @s1 @s1]
   .refine{_,@d,_,@d,_,@d,a,_,@d,.inl ((J.trans (sg.trans s4)).seq ha),p1,z.1,m,z.2,0,n,by rw[au,dX];rfl,aj.of ((sg.trans s4) _ _ Z),d.same s4,(d,p,λc hc=>hc),@e,@aO,hn,λH5 s5=>?_};rw[i9]
    .have k:=@jw;refine(e,_,@d,b,z.1,cx z.2,cf z.2,ss,m,T z.2,@d,hb.same Cw (J.trans (sg.trans k)),hok,(G,p,(d.same k).lies),λc hc=>(oe c).2 hc,eI,hT z.2,λH6 s6=>?_);have q:=k.trans s6;cases u:T z.2 with
     |true=>rw[aU];refine fin H6 q ?_;unfold nh;rw[u];simp
     |false=>
      rw[aU];have hf:@vJ=@h:=by unfold nh yu;rw[u,C,cN];rfl
      let{ys,hy,cP,qb}:=i8.snoc (O.same Av q) (d.same q);have aHd:@eM:=hD;refine(a5,(X,hy),_,@d,D,_,@d,@d,hy,?_,?_,cF (sg.trans q) aHd,_,@d,?_);rw[s,cP,dA (cH,(c9,eD,vY))];.intro c o hc N;rw[aA hc];exact q _ _ (t c o hc N)
      .rw[L,ai hf];exact qb
    .refine fin H5 @jw ?_;unfold nh yu;rw[ig.2 cN];simp
   .refine fin H4 s4 ?_;unfold nh;rw[ig.2 C];rfl
  .rintro σ H3⟨t,sg,v4,rfl,O⟩;rw[au,ic,<-vY,gn]at O;exact(am,q0 H3 D m (J.trans sg) AG oe O)
def aBB{xs:@F}{v:V}(h:xs.getLast?=some v):(bz,xs,-1,v):=by let{l,rfl}:=Bu.1 h;exact ajl l v
abbrev VD:aY:=top 108
def Ax:(bf,["case","row","numbers","card","sides","place","others"],["case","row","numbers"],VD):=@D
def alv(K:aM):Sp:=λvs H Q _=>∃(d a b:aa)(r:db)(p:iM)(o:@o)(n:Nat),vs=[@cD,@W,@aH]/\@j6/\@ee/\IL K H b (nL o)/\@G/\0<n/\@aQ/\@eJ/\@sA/\(∀c∈@cO,@hH)/\@jJ/\(it,(aT,iL r @cO o p))
def aBC(F:(o,"first_row_of","first_row_of",VD))(B:@ad)(O:@Js)(k:@HK)(v:@IP):(ae,4,["case","row","numbers"],alv K):=by
 refine(h,Ax,@C);.let{d,a,b,r,p,o,n,rfl,_}:=h;rfl
 .let{d,a,b,r,p,o,n,rfl,hd,ha,hb,R,h0,hn,X,cJ,Fo,aI,q0}:=h;have hl:=R.len;rw[bv,hl];have W:@bY=n:=(r,X.length_eq,My.gq);have L:@F9:=λx hx=>My.jm.1 (X.mem_iff.1 hx);have G:aj K H b (o.map @aY):=(G,Am,hb);rw[bc,bN (c_,@rw) (bu,(bd,@kS,(fF,(fT,akp @d,@Y))),(cK,O,(iL,k,@B,@E,eR dO afL atP SY @E (ab @H ac),(hn,@Y,@H)))) bS,(nK,@kS,"card",eQ @E,@kS,oN (Aa (ayl (jD hr) @H @Y)) (hn,@Y,@H) aE),(gd,(fV,6,@kS,[("place",5),("card",3)],(dW,@E),(fm,5,@kS,3,@kS),(m4,(jU,@H,@Y)),@a4),(hk,(gp,@bS),(cI,@kS,(es,v,@B,@ak,(bi,@bS,Ac Ad aE)))),(cK,O,@ak))];rw[eO];rw[au,dX];unfold iL at q0;rw[hl]at q0;rw[V]
  .rw[c6];rw[ai T]at q0;let{zs,y,gh,hz}:=id hd;let{N,hhu}:=My.ah2 (m:=@cO) (p:=p) {@d} cJ aI;let{C,fe}:=My.ah1 (o:=o) (X.nodup_iff.2 (My.zN n)) (X.mem_iff.2 (My.jm.2 (Fo _ N)));let{kvs,t,g1,g2,g3}:=hd.get N;rw[y]at g1;cases g1;rw[hhu]at g3;generalize uw:(p.headD @vN)=M at*;obtain⟨u,lp,ez0⟩:∃u,(K,@fz,0,((b2,M.1),u))/\True:=by
    cases zs with
    |nil=>rw[al,gh.symm,aI]
    |cons z zs=>
     have:M=z.2:=by rw[<-uw,<-gh];rfl
     rw[aa];exact(aD,@d5,eY)
   rw[aO,d,y,@sV];rw[bn,@DJ,cK];refine{p1,_,_,(E,@d,@ih,(fz,lp),?_)};rw[cm,p1,@DJ];refine(c5,_,@d,_,(fC,Y.seq G),_,@d,b,_,_,@oO,.int (A,o[@oO]' C),@d,@d,Y.seq G,@d,?_,?_,?_,?_,?_);rw[eX];rw[ay,be,bX C]
   .show mZ (b6,o[@oO]' C) (bq,M.1)=@h;rw[Aq];have:o[@oO]' C=M.1:=by have q:=fe;rw[dy,bX C]at q;exact q
    exact bq (by rw[aa])
   .intro j z' hj iP;rw[be]at iP;have yG:j<@bY:=afm hj C;rw[bX yG]at iP;cases iP;show mZ (b6,o[j]) (bq,M.1)=@K;rw[Aq];have:=aP5 hj;refine cG λq=>?_;rw[E,o[j],M.1,@e];simp[e]at this
   .refine(ef,_,@d,d,.inl (Q,@fz,(bG,M.1),.inl (aV,y),g2.symm),(bs,t,_,b_.of (aV,g3),@d));refine{a,b,r,o,n,@oO,az M.2.2,@d,@ct,@k_,R,W,L,@e,hn,@jv};refine{b,p2,o,_,@d,(i_,hb),@ig,by simp[x8],@e,@ga};exact@Cb
  .rw[c8];rw[af ib]at q0;rw[aF,b,{_,G},@bZ];refine oP @aY o @eX (λno=>.int (A,@KG)) @e hD G @bm @pU @xm @sT
   .let{kvs,k1,k2}:=(hd.same hs).has z;rw[gb,(hz,(bG,z),k1,@d)];have S:=@co;rw[k2];rw[V];.rw[ai hc]at S;let{Kf,t,g1,g2,g3}:=(hd.same hs).get (c:=z) (by simpa using hc);exact{_,@d,_,(q8,d,(bG,z),_,@d,@d,b_.of g3,@d,S)}
    .rw[af hc]at S;exact S
   rw[(@fC)]at Z;rw[ah,o.map λno=>(b6,@KG),(V,j0 @cO p o),by unfold j0;rw[Am,bC];rfl];rw[e1]at Z;rw[i4,@cO];rw[aO,b,Y.seq G,@g9];refine Nv @aY o (λx=>!(lw,x.1)) (ls,x.2) @e I (Y.seq G) @cg @Gq @yi @qN;.let{kvs,k1,k2}:=(hd.same (Y.trans hs)).has z;rw[gb,(hz,(bG,z),k1,@d)];rw[k2];exact@co
   rw[ag,(o.zipIdx.filter λx=>!(lw,x.1)).map λx=>(b5,x.2),(kM @cO o).map @aY,by unfold kM;rw[bC];rfl];rw[e2]at h2;rw[gf,J,h2];rw[au];cases qc:(kM (p.map (·.1)) o).getLast? with
   |none=>rw[qc]at q0;have g:kM @cO o=[]:=DM.1 qc;rw[g];rw[aq];refine{_,@d,_,@d,b,D,o,_,@d,(i_,hb),@of,@e,@e,@ga};exact@Cb
   |some j=>
    rw[qc]at q0;have bn:0<(kM @cO o).length:=by cases U:kM (p.map (·.1)) o with|nil=>rw[U]at qc;cases qc|cons x l=>simp
    let{{x,hx,_},_}:=My.ah0 qc;have yG:j<n:=(d6,W,hx);rw[(nj,(kM @cO o).length)];rw[bK];refine{_,@d,_,@d,_,@d,1,@d,(bs,J,_,@ig,aBB (ab,List.getLast?_map,qc))};refine{a,D,r,_,n,j,@d,(i_,ha),@of,R,@e,hn,@e,@ga};refine{_,@d,_,@d,b,p3,o,_,@d,((Y.trans s2).trans s3).seq hb,aj.of h3,by simp[kL,eI,W],@e,@jx};exact q0 H4 p4 (((Y.trans s2).trans s3).trans s4) h4
def aBD{t u:TE}{H:Hp}(a b:Bool)(Z:@ED)(h2:(F,a)->(iN,@f3,u σ H Q'))(h:(c0,a||b)):ai2 t u σ H Q:=(kD,(aD,a,?_),h,@B0)
def aBE(x:Nat)(l:@o):wW @ma (l.map λ(y:Nat)=>(bq,y))=l.contains x:=by
 unfold wW;rw[afM];rw[aD];rw[PZ,gA];constructor;.rintro⟨y,hy,e⟩;have F:mZ (bq,y) @ma=@h:=e;rw[Aq]at F;have:=bT F;rw[a3,y,x];rw[bj];exact hy
 .intro h;rw[ab,x,h];show mZ @ma @ma=@h;rw[Aq];exact@eG
def aBF{od:bA}(g:qC->@an)(f:qC->V){H1:Hp}{D:aa}(hl:(c1,@cX))(hD:@eM)(hd:H1 d=some @w5)(hw:@j8)(ht:∀(i:Nat)(z:aa×qC)(H':Hp)(Q:@fS),(C,zs,z)->@d_->(gV,g z.2)->tt (kY,(T,(u,@aF))) H' Q)(step:@Gm)(N:(hx,((zs.map @bA).filter g).map f)):(er,@FF,@FG,@FI,(lj,λI H2=>@v9)):=by
 rw[je];rw[mD,(nD,i)];rintro i k v H' hk⟨hs,hm⟩;rw[mt];have L:(nD,@A)=(nD,i)++(L,g z.2,[f z.2],[]):=by rw[rA,hz,BJ,bh,af2,bh];congr 1;by_cases h:g z.2=@h;rw[aL,ai h,aga,afg h];rw[aL,af h,aga,aff h]
 rw[cp];refine ht i z H' _ hz hs λH3 h3=>?_;rw[aE,λhg=>?_,λhg=>?_]
 .refine(hZ,z,H3,hz,@ye,h3 _ _ hm,(aE,(hs.trans h3).trans h4));.rw[au];refine nz (o8 _ _) ?_;rw[au,eD];exact@op
  .rw[ao,L,ai hg]
 .rw[ae,@ye];rw[L,af hg,gk];exact h3 _ _ hm
def IS(m ns:@o)(c:Nat):@o:=m.filter λo=>o !=c&&! ns.contains o
def qI(n:Nat)(m ns:@o)(c:Nat)(p:iM):@an:=((cS,c)||(B,az (! cf p c),@qw))&&yu n (@aM+1) (IS m ns c) p
abbrev VE:aY:=top 107
def Cz:(bf,["cases","numbers","card","size","place","other","to_come","left","case","at_its_place"],@CT,VE):=@D
def alw(K:aM):Sp:=λvs H Q _=>∃(l b:aa)(cs:@jl)(m ns:@o)(c n:Nat),vs=[@bb,@aH,.int c,@dd]/\i8 H l cs/\IL K H b (nL ns)/\cs≠[]/\@cT<=1000/\@yr/\@bW<=52/\@aM<n/\@aQ/\(mV,i8 H' q (cs.filter @wP))
def aBG(F:(o,"cases_left","cases_left",VE))(B:@ad)(U:@GC):(ae,2,@CT,alw K):=by
 refine(h,Cz,@C);.let{l,b,cs,m,ns,c,n,rfl,_}:=h;rfl
 .let{l,b,cs,m,ns,c,n,rfl,hl,hb,vW,gH,j_,jw,hi,hn,q0}:=h;have G:aj K H b (ns.map @aY):=(G,Am,hb);let{zs,X,gh,hz}:=id hl;rw[j7,(by cases zs with|nil=>rw[al,gh.symm,vW]|cons z zs=>rw[a_,z])];have m0:=cZ lp;let{es,hd,r,he}:=(hz u m0).2;have M:u.2.map @aA=m:=j_ _ (dt,gh,u,m0);have FE:es.length=@bW:=by rw[<-M,<-r];simp
  rw[a9,4,@mR,@rw,ayr (fV,6,@mR,[("other",5)],Td @lp,(eS,5,@mR),(m4,(eB,(ao,tO,@a4,@E),(mE,@a4,@B))),@a4),(cJ,7,@mR,@bg,(jm,@Y,8,@mR,(aw,9,@mR,Sv (awy (Ih (jD hr) @E @dW)) (rO (b7,(hn,@dW,@E),(dI,@ak)))),(jg,(eB,iY @k9,iY (iL,U,@bS,@dW,@tC,@H)),@cv,@dW)),@cv)];rw[aM,b,.inl G];rw[au];refine{u.1,_,hd,eY,λod=>?_};have R:=Vz (od:=od) hd G;refine{_,@d,l,_,_,_,@d,@d,Vz hd (aj.of X),(fz,lp),u.1,od,@d,.inl {_,ao,@bZ}};refine aBF (λx=>x.1 !=c&&! ns.contains x.1) (ls,x.1) @e hD ao @bm @xm @yi @qN
  .refine EX (@aF !=c) (! ns.contains @aF) @ey @ey @co
   .rw[aF,_,@d,?_];have:(!(B,(bq,@aF),(bq,c)))=(@aF !=c):=by rw[ft];rw[aD];rw[xM,l9,P1];exact{λq e=>q (by rw[e]),λq e=>q @e}
    exact(am,(d,this,k))
   .refine(e,_,@d,b,_,@d,.inl (hs.seq R),@d,?_,?_);rw[eX];.exact(am,(ai,(@ax),aBE,k))
  have g:=Vy hd s2;rw[ae,(aM,ao)];rw[hR,D≠u.1];have h3:(aa,ag H2 u.1 (.dK (dU es)) D,(V,IS m ns c)):=by rw[aA O,h2,r,Am,<-M];unfold IS;rw[Gq,bC];rfl
  rw[ek,u.1,.dK (dU es)];rw[ax,@g9];have s4:=(bM,H3,I);rw[dY,(bB,g _ _ X)];have qc:∀H4,ae H3 H4->ae H H4:=λH4 s=>g.trans s;refine(eV,l,@cP,λj σ H4=>ae H3 H4/\∃v8 N:@ag,σ=(n4,v8,N)/\i8 H4 J @JV,(Q,s4,@r,@r,@h2),λj σ H4 _ h=>(ey,g _ _ X))
  .rintro j y σ H4 hj⟨sj,v8,N,rfl,S⟩;rw[cN,@vv,@ve];have v:(ah,cs,z.2):=As gh iP;have p:@sX=m:=j_ _ (cZ v);have d:kX H4 z.1 z.2:=(hz z (cZ iP)).2.same (qc _ sj);let{kvs,k1,k2}:=d.has c;rw[p]at k2;rw[lE,@JW,@JV,@vK,@vK];refine ak0 ?_;dsimp only;refine IG ?_;refine II ?_;refine aBD (cS,c) (B,@y6,@qw) @ey (λha Q' k=>?_) ?_;.refine(bh,_,@d,z.1,_,@d,(hz,@ff,k1,@d));rw[k2];exact k
   .have AS:c∈@sX:=(d,p,gA.1 (by simpa using ha));let{Kf,t,g1,g2,g3}:=d.get AS;refine{_,@d,_,(q8,z.1,@ff,(a5,@d,b_.of g3,@d,_,@d,_,(cU,@de,@d)))};rw[ft,(fy,(av,! cf z.2 c),@s_%2,@y6,@qw)];exact k
   have fin:∀H5,ae H4 H5->(F,@vK)->ae H3 H5/\∃v8 N:@ag,((n4,(J,z.1),some (.bl ((cS,c)||(B,@y6,@qw)))):@kj)=(n4,v8,N)/\i8 H5 J @JW:=by intro H5 s5 hf;rw[bV,sj.trans s5,_,?_];rw[L,hf];show i8 H5 J (_++[]);rw[gk];exact S.same Av s5
   rw[cE,bF @s1 @s1]
   .refine(e,(E,_,@d,_,_,@d,(cO,D,z.1,IS m ns c,z.2,@aM+1,n,@d,aj.of (sj _ _ h3),d,?_,?_,@e,hn,λH5 s5=>?_)));.intro x hx;rw[p];exact(gR.1 hx).1
    .exact(cH,jw)
    rw[i9]
    .have hf:@vK=@h:=by unfold qI yu;rw[C,cN];rfl
     let{ys,hy,cP,qb}:=i8.snoc (S.same Av s5) (d.same s5);refine{_,@d,(X,hy),_,@d,J,_,_,@d,@d,hy,?_,cF (sj.trans s5) I,_,_,@d,?_};rw[s,cP,dA (cH,@tj)];.rw[L,ai hf];exact qb
    .refine fin H5 s5 ?_;unfold qI yu;rw[ig.2 cN];simp
   .refine fin H4 @b5 ?_;unfold qI;rw[ig.2 C];rfl
  .rintro σ H4⟨sj,v8,N,rfl,S⟩;rw[cu,@cT,gh];rw[au,ic,gn]at S;exact(am,q0 H4 J (qc _ sj) S)
def aBH(e:Bool)(i:Nat):(B,az (! e),i%2)=(e==@gJ):=by have h:i%2=0\/i%2=1:=@e;rcases h with h|h<;>rw[h]<;>cases e<;>rfl
def aBI{i:Nat}{m ns left:@o}{l:@jl}(hm:m.Nodup)(hi:@A<=n)(sf:@aM=i)(d:(lt,@aD))(W:@GN)(hl:∀p∈l,@bn)(c:Nat):l.filter @wP=(li,c):=by unfold nQ;apply P9;intro p hp;unfold qI yu IS;rw[sf,aBH,My.ah5 hi hm (hl p hp) _ (left:=(dL,c)) @gW];rw[aD];rw[gA,gR,W x,dJ,xM,<-KJ,gA];exact{λ⟨a,b⟩=>{{d x hx,b},a},λ⟨⟨_,b⟩,a⟩=>⟨a,b⟩}
def Oa:@FP|[]=>rfl|x::l=>(aA,HT.EO,(@ax),Oa l)
def VF:∀{a b c:@J},HT.lexLt a b=@h->HT.lexLt b c=@h->HT.lexLt a c=@h
 |[],[],_,h,_=>by rw[Oa]at h;cases h
 |[],_::_,[],_,h=>@ch
 |[],_::_,_::_,_,_=>rfl
 |_::_,[],_,h,_=>@ch
 |_::_,_::_,[],_,h=>@ch
 |x::a,y::b,z::c,Z,h2=>by
  rw[HT.EO]at Z h2⊢;by_cases e1:x=y
  .rw[ai e1]at Z;by_cases e2:y=z;.rw[ai e2]at h2;rw[ai (e1.trans e2)];exact VF Z h2
   rw[fo]
  .rw[af e1]at Z;have h3:=bT Z;by_cases e2:y=z;rw[s,(@bd),@gP];rw[fo]
def VG:∀{a b:@o},@ol->(F,HT.lexLt (nL b) (nL a))->iK a b
 |[],[],_,_=>eY
 |[],_::_,h,_=>@a5
 |_::_,[],h,_=>@a5
 |x::a,y::b,h,Z=>by
  have hc:(F,HT.lexLt ((u,y)::nL b) ((u,x)::nL a)):=Z;rw[HT.EO]at hc;by_cases e:(u,y)=x;.rw[ai e]at hc;exact(a_,@e,VG @c7 hc)
  .rw[af e]at hc;have:=Ef hc;exact .inl @e
def aBJ{r:db}(H:@G):(bI r).map pH=nL (fA r):=by unfold nL fA;rw[fC,bC,bC];rw[ak];intro c hc;have hp:@kT:=@FZ;show pH @ci=(A,az @ce);unfold pH told;cases c.up with|true=>show(if(-cY @cK)<0 then@gO else 0)=(A,az @h);rw[ai @Fn];rfl|false=>show(if cY @cK<0 then@gO else 0)=(A,az @K);rw[af @Fn];rfl
def aBK(c:α->V)(l:@as)(f:α->@J){H1:Hp}{D:aa}(hl:@n0)(hf:∀z∈l,f z≠[])(hD:@eM)(U:@n9)(hw:@j8)(step:∀(i:Nat)(z:α)(H':Hp)(Q:VK),(C,l,z)->@d_->(∀t p,ae H' t->(aa,t p,(f z).map @aJ)->Q @ao t)->(g1,@m0))(hd:∀H'(zs:(b9,@J)),@d_->(b0,@cP)->@ij=@q8->(∀z∈zs,@D6)->j H'):(iD,@fy,@HT,(l1,@py,@pz,@vP/\∀x H',@pD->(lj,@wj))):=by
 refine(sV,(iy,(fo,@J,(b0,@cP)/\@ij=@Ac/\∀z∈zs,@D6/\z.1≠D)),(Q,@gT,[],ao,@hW),λH' h=>?_)
 .rintro i x H' hx⟨hs,zs,Z,h2,h3⟩;rw[ff];rw[cp];simp only[kU,iQ];refine step i z H' _ hz hs λH4 p h4 hp=>?_;have S:=h4 _ _ Z;have g:p≠D:=λe=>by rw[e,S]at hp;have e1:=(f8,hp);have aI:=hf z @nx;cases d:f z with|nil=>exact aI d|cons y ys=>rw[d]at e1;cases zs with|nil=>cases e1|cons w zs=>cases e1
  refine{_,S,?_,@oR,zs++[(p,f z)],?_,?_,?_};.have:=dg lz h2;rw[au,au,eD]at this;rw[au,this];exact@op
  rw[cc];rw[aL,bh,h2,My.qo f hz]
  .intro w mw;rcases bz.1 mw with m|m;.let{a1,M}:=h3 w m;rw[aA M];exact{h4 _ _ a1,M}
   .cases cz.1 m;rw[aA g];exact⟨hp,g⟩
 .let{hs,zs,Z,h2,h3}:=h;rw[au,gn]at h2;exact hd H' zs hs Z h2 λz m=>(h3 z m).1
abbrev VH:aY:=top 110
def rY:(ay,["row","steps","cases","size","numbers","to_come","place","at","left","case"],"row","steps",VH):=@D
def alx(K:aM):Sp:=λvs H Q _=>∃(a b:aa)(r:db)(ss:@bo)(n:Nat)(x:aSn),(cz,@aH,@ee,@G,0<n,@aQ/\(gt,b)/\Au ss/\@rE/\@zc/\@e3≠[]/\@Hy/\(eA,@e3)/\(qs,@hP)/\(it,(match sM r x with|none=>[]|some z=>bI z).map @aJ))
def aBL(F:(o,"first_failing_row","first_failing_row",VH))(B:@ad)(aHg:(dU,"failing_cases","steps",4,alu K))(aoT:(Z,"cases_left",@CT,2,alw K))(aHh:(Z,"first_row_of",["case","row","numbers"],4,alv K))(aHi:(is,"sides_of",alm K)):(e5,5,"steps",alx K):=by
 refine(h,rY,@C);.let{a,b,r,ss,n,x,rfl,_}:=h;rfl
 .let{a,b,r,ss,n,x,rfl,ha,R,h0,hn,hb,hok,eI,vV,vW,FU,Po,hT,q0}:=h;have CJ:=R.len;rw[bv,CJ];rw[as,@fo,(cE,aHg,@B),(aL,(bL,(aS,@E)),@bg),(bR,3,@fo,@a6,(cI,@fo,@bg),(cJ,5,@fo,(nJ,(be,aE,(b1,@H))),(fu,@H,6,@fo,aw (aw,7,@fo,aE) (bR,8,@fo,@Hg,tN dh (bL,(aS,@dW)) (aQ,(aw,7,@fo,(b1,@cv)),(aw,8,@fo,@Hg)),(aQ,(cq,@ak,eR dO zH zI aju @a4 (ab @cv ac)),(bP,@fo,@dW)))),aku aHi @cf B.min (b8,"case",9,@fo,@E,9,@fo,(es,aHh,@k9,@Y,@ak))))];refine{_,@d,_,@d,a,b,r,ss,n,λp=>@hP,@d,ha,R,hn,hb,hok,eI,vV,vW,FU,hT,λH1 l0 m Y AG oe Z=>?_};rw[m1];rw[j6];have d:@eH:=@J7;have hmu:(lt,@aD):=λc hc=>My.jm.2 (d c hc);have aoV:m≠[]:=λe=>by cases jF:fo ss with|nil=>exact vW jF|cons c l=>have:=(oe c).2 (aX,jF);rw[bm];cases this
  have O4:(eA,m):=λc=>(oe c).trans (Po c);have fY:(qV,@Ko):=by
   intro p;rw[gR,My.avi];constructor;.rintro⟨G,h⟩;unfold nh yu at h;rw[My.RT g G]at h;rw[dJ,dJ,xM]at h;exact{G,h.1,@eK,@mp}
   .rintro⟨G,Z,h2,h3⟩;rw[ae,G];unfold nh yu;rw[My.RT g G,Z,h2];show(bv,@h,@h&&!@hP);rw[h3];rfl
  let{aHj,aHk}:=My.avq R h0 g O4 aoV d fY;let{_,vY}:=N9 m @bW @L;rw[gn]at vY;rw[jn];have aHl:((lJ m).filter (nh r n m λp=>@hP)).length<=256:=(cH,@e);generalize@Ko=L0 at*;let{ys,hy,cP}:=Z.len (K:=K);refine{_,(f1,l0,.inl hy)};rw[cP];rw[V];.have W:L0=[]:=o5.1 @wa;rw[ax,λD hD=>q0 _ D (aH Y hD) ?_];rw[aHj W,ao];rfl
  .have W:L0≠[]:=λe=>(bm,@jG);let{pO,pN,pM}:=aHk W;rw[aM,a,.inl @ct];rw[au,dX];rw[ax,λN S=>?_];have s2:=(bM,H1,S);have n2:=(aG,H1,N,[]);have FR:(I,N):=Y.free S;rw[bo,N,[]];rw[h7];rw[ef,@lR,b7];rw[hJ,λT yV=>?_];rw[(@rL)];rw[ek,p2,@lR];rw[mc];rw[et];have aoW:ae H H3:=Y.trans @g8;have hT0:@ld:=aoW.free yV;have n3:=(ac,n2);have FO:N≠T:=Co n3 yV;have s4:=(ax,@ja,H3,yV);have t4:=(aG,H3,T,@ja);have n4:=(bB,n3);have c4:=Z.same Av (s2.trans @f5);have sH4:ae H (an,H3,T,@ja):=aoW.trans s4;generalize(an,H3,T,@ja)=H4 at*;have Jm:∀p∈L0,(iQ,0,@aD):=by intro p hp;let{G,_,h3,_}:=(fY p).1 hp;rw[ae,G];rw[<-h3,<-My.RT (n:=n) (i:=0) g G,<-My.ah5 (b9 n) g G @eX (left:=@aD) (λc hc=>(gA.2 (hmu c hc)).symm),(@fC)]
   rw[g1,@aq];refine(hA,(bk,n),@ab/\∃(ns left:@o)(cs:@jl)(l:aa)(v6 v7 v8:@ag),σ=(n2,v7,v8)/\(aP,N,(V,ns))/\(aP,T,(V,@au))/\i8 H' l cs/\@aM=i/\@zv/\@sD/\cs≠[]/\@cT<=256/\(∀p∈cs,(iQ,i,@au))/\@GN/\@J9=ns++(jz n m (n-i) i @au cs).1/\@KX=(jz n m (n-i) i @au cs).2,{sH4,[],@aD,L0,l0,@r,@r,@r,@d,n4,t4,c4,@d,(af,My.gq),My.Hl n,W,aHl,Jm,λc=>@v,@d,@d})
   .rintro i σ H5 hi⟨s5,ns,left,cs,l,v6,v7,v8,rfl,n5,t5,c5,sf,vP,Pd,jF,aoX,Dg,ac5,Dh,iu⟩;have CL:@yr:=λp hp=>(Dg p hp).1.names;have hlw:=λc=>aBI (n:=n) (i:=i) g @e sf hmu ac5 (λp hp=>(Dg p hp).1) c;let{u,vL,w1,w2,w3,w4,w5,w6}:=My.avr g vP @e Pd Dg jF;have aoZ:∀(k:Nat)(hk:@yV),(bz,(V,@au),@av,(b6,@gU)):=λk hk=>(nd,bX hk);refine(e,(r3,aj.of t5,0,(@au)[0]'@e,c5,aj.of n5,λH6 q6 s6 c6=>?_));rw[hlw]at c6;rw[c_,ae H5 H'/\∃(k:Nat)(hk:@yV)(q:aa)(v6:@ag),σ=(n2,(T,k),(J,q))/\(td,(js,(@au)[j]'@e))/\i8 H' q (js,@gU),match σ with|[_,_,_,_,_,_,_,some (.int k),_,_]=>n-@gn|_=>0,{s6,0,@e,q6,_,@d,@DW,c6}];rintro σ H7⟨s7,k,hk,q,v6',rfl,ac6,c7⟩;let{ys7,hy7,acS}:=c7.len (K:=K);refine{_,(f1,q,.inl hy7)};rw[acS];rw[aE,λhc7=>?_,λhc7=>?_]
    .have he7:(js,@gU)=[]:=o5.1 (mf,bT hc7);have hkk:k<u:=by
      rcases Bi k u with h|h|h;.exact h
      .exfalso;subst h;exact w1 he7
      rw[ai,ac6 u h,w1]
     rw[ab,λσ H'=>ae H5 H'/\∃(q:aa)(v6:@ag),σ=(n2,(T,@av+1),(J,q))/\i8 H' q (js,(@au)[@aV]'@e),?_]
     .rintro σ' H'⟨s',q',v',rfl,c'⟩;refine{_,?_,@d,s',@aV,@e,q',v',@d,?_,c'};.show n-(@av+1).toNat<n-(bk,k);omega
      .intro j hj;rw[eA];rw[bZ,he7];.exact ac6 j @e
     .refine(c5,_,_,@d,(r3,aj.of (eg,t5),@aV,(@au)[@aV]'@e,c5.same Av s7,aj.of (eg,n5),λH8 q8 s8 c8=>?_));rw[hlw]at c8;exact(Q,s7.trans s8,q8,_,c8)
    .have Pp:(js,@gU)≠[]:=λe=>hc7 (bq @jG);have hkk:k=u:=by
      rcases Bi k u with h|h|h;rw[ai,w2 k h,Pp];.exact h
      rw[ai,ac6 u h,w1]
     subst hkk;have n7:=(eg,n5);have t7:=(eg,t5);have hqT:q≠T:=λe=>by let{zs,z1,z2,_}:=c7;rw[e,t7]at z1;have e1:=(f8,z1);cases zs with|nil=>exact Pp z2.symm|cons z zs=>cases De:left with|nil=>rw[De]at hk;exact absurd hk (Qc _)|cons y ys=>rw[g7]
     have hqN:q≠N:=λe=>by let{zs,z1,z2,_}:=c7;rw[e,n7]at z1;have e1:=(f8,z1);cases zs with|nil=>exact Pp z2.symm|cons z zs=>cases De:ns with|nil=>rw[g7]|cons y ys=>rw[g7]
     rw[l5,n7,t7,k,@gU,t7];rw[ba,j5,aSm @e @e];rw[aL,be,Ch,bX hk]
     .refine{N,_,_,(cU,(D,FO,n7),(bO,j5,@a2))};have c8:=c7.updD (o:=.lst @Gn) t7 hqT;have n8:(aa,(bE,H7,T,@Gn,N),(V,ns)):=(D,FO,n7);have c9:=c8.updD (o:=.lst ((V,ns)++[(b5,@gU)])) n8 hqN;refine(e,cF (cF (s5.trans s7) hT0) FR,ns++[@gU],@rb,_,q,_,_,_,@d,?_,?_,c9,?_,?_,w5,Pp,?_,w6,?_,?_,?_);rw[nj];.rw[aA FO.symm,ao];unfold nL;rw[IE,IE]
      rw[ay,dj,sf];.rw[ae9,ai hk];omega
      .exact(cH,aoX)
      .intro c;rw[w4,gR,ac5 c,bz,cz,P1];exact{λ⟨⟨a1,M⟩,J⟩=>{a1,λh=>h.elim M J},λ⟨a1,M⟩=>{{a1,λh=>M @fN},λh=>M @sw}}
      .rw[Dh,(v,n-i=(n-@A)+1),w3,eM];rfl
      .rw[iu,(v,n-i=(n-@A)+1),w3]
   .rintro σ H5⟨s5,ns,left,cs,l,v6,v7,v8,rfl,n5,t5,c5,sf,vP,Pd,jF,aoX,Dg,ac5,Dh,iu⟩;rw[(@uV)]at sf vP Dg Dh iu;rw[Gh]at Dh iu;rw[ah,@J9,ns,by rw[Dh];show ns++[]=ns;rw[gk]];have e2:@KX=cs:=iu;rw[e1,e2]at pM;rw[e1]at pO;let{zs,z1,z2,z3}:=id c5;rw[cu,@cT,z2];have ac8:∀p∈cs,iL r @cO ns p=iL r m ns p:=λp hp=>(aF,(Dg p hp).1.names);rw[aF,l,(a1,z1),@bZ];refine aBK (λz:aa×iM=>@d5) zs (λz=>bI (iL r m ns z.2)) @e (λz hz e=>?_) hD (aj.of z1) @bm (λj z H' Q C5 hs q=>?_) λH6 L s6 d6 ws1 ws2=>?_;.have jx:=(My.ah8 (r:=r) (m:=m) (p:=z.2) pO).len;have e3:=dg lz e;rw[fC,au,jx]at e3;exact absurd e3 @aS
    .rw[bD,C5];have mc:z.2∈cs:=(dt,z2,z,mz);have j_:=(Dg z.2 mc).1.names;refine{_,@d,_,@d,_,@d,z.1,a,N,r,z.2,ns,n,@d,(z3 z mz).2.same hs,(s5.trans hs).seq ha,(hi,n5),R,h0,hn,pO,(d,j_,g),(d,j_,d),λe=>by rw[e]at j_;exact aoV j_.symm,λt p aHq hp=>?_};rw[ac8 _ mc]at hp;exact q t p aHq hp
    have ao3:(pC,(og,(aa,H6 p,(aT,@r8)))):=by intro i v hv;rw[be]at hv;cases O:L[i]? with|none=>rw[O]at hv;cases hv|some y=>rw[O]at hv;rw[kT];rw[ws1,be]at e3;cases C:zs[i]? with|none=>rw[C]at e3;cases e3|some z=>rw[C]at e3;have e4:bI (iL r m ns z.2)=y.2:=bZ e3;refine{y.1,z.2,(bZ hv).symm,As z2 C,?_};rw[e4];exact ws2 y (cZ O)
    have ll:@ew=@cT:=by have:=dg lz ws1;rw[au,au]at this;omega
    have ac9:∀c,aG n @r8:=λc=>My.ah8 pO;have X:∀c,(fA @r8).length=n:=λc=>by unfold fA;rw[au,(ac9 c).len]
    refine(rD,D,(og,(ag,p,(V,fA @r8))),HT.lexLt (nL (fA (iL r m ns (cs.getD i [])))) (nL (fA (iL r m ns @zt))),d6);rw[ba,ll,zp.2 jF];.rintro Ha Hb i v hs⟨p,c,e,Z,h2⟩;exact{p,c,e,Z,(bw,h2)}
    .intro i v Ha hv hs Q U;rw[mL];refine{p,_,@d,(hi,h2),by rw[fC,au,(ac9 c).len];omega,λHb p' xy yP=>U Hb _ xy {p',c,@d,Z,?_}};rw[yP,aBJ (ac9 c)]
    .rintro pins σ Ha sa i j vi vj ui uj Q E' I⟨p,c,rfl,Z,h2⟩⟨p',c',rfl,lg,ju⟩ri rj hQ;obtain rfl:ui=cy p:=ri;obtain rfl:uj=cy p':=rj;rw[(@Es),show@zt=c' by rw[dy,lg];rfl]at hQ;exact azI I h2 ju (by rw[j5,j5,X,X]) (jD hr) hQ
    .exact λx y z=>VF
    .exact λx=>Oa _
    .rw[mL];have mc:=cZ Z;let{yL,_}:=pM @r8 (a0,c,mc) (by intro q' lj;let{c',oS,rfl}:=bf.1 lj;let{j,hj,ej}:=lX oS;have h3:=uh j (bO,ll,hj);dsimp only at h3;rw[(@Es),show@zt=c' by rw[dy,bX hj,ej];rfl]at h3;exact VG (r,X,X) h3);refine q0 H7 p (s5.trans @sY) ?_;rw[yL];exact(eg,h2)
def aly{H:Hp}{ps:@aa}{h:ax}{D:aa}(t:@gi)(hD:@ir):dv @dB ps h:=by have tm:=@dv.mem H ps h t;unfold dv at t⊢;rw[<-t];rw[ak];intro p hp;rw[eP];exact aA (nu,ex)
def Mv.off{H:Hp}{D p:aa}{h:ax}{xs:@F}(m:Mv H p h)(aI:@e6)(hD:(co,D))(hx:(pi,xs)):p≠D:=by rintro rfl;let{ps,cH,ht}:=m;rw[cH]at hD;cases hD;cases h with|nil=>exact aI @d|cons x h=>let{q,U,e}:=@Jk;let{ys,hy}:=hx q (a0,q,cZ U);rw[hy]at e;cases e
def Mv.updO{H:Hp}{D p:aa}{h:ax}(m:Mv H p h)(hp:p≠D)(hD:@ir):Mv @dB p h:=by let{ps,cH,ht}:=m;exact{ps,(D,hp,cH),aly ht hD}
def dC(H:Hp)(l:aa)(hs:@Q):@u:=(fo,ax,(ag,l,@cP)/\@ij=hs/\@FC)
def dC.same{H H':Hp}{l:aa}{hs:@Q}(m:@jZ)(s:@ab):dC H' l hs:=(kQ,@dw,(c z mz).1.same s)
def dC.nil{H:Hp}(h:(ag,l,[])):dC H l []:={[],h,@d,@hW}
def dC.refs{H:Hp}{zs:(b9,ax)}(hz:@FC):(pi,@cP):=by intro q U;let{z,mz,e}:=bf.1 U;let{ps,cH,_}:=(hz z mz).1;cases e;exact{_,cH}
def dC.snoc{H:Hp}{p:aa}{h:ax}(m:@jZ)(a:Mv H p h)(aI:@e6):(gy,hs.length,dC @oS l (hs++[h])):=by
 let{zs,e,rfl,hz}:=m;have hr:=dC.refs hz;have g:(ce,H l):=(aN,e);refine{_,e,@v,zs++[(p,h)],?_,?_,?_};rw[cc];rw[cU]
 .intro z mz;rcases bz.1 mz with mz|mz;.exact{(hz z mz).1.updO ((hz z mz).1.off @tG e hr) g,@tG}
  .cases cz.1 mz;exact{a.updO (a.off aI e hr) g,aI}
def dC.len{H:Hp}(m:@jZ):(s4,hs.length):=by let{zs,h,rfl,hz}:=m;exact{_,aj.of h,@v}
def eG(x:@ar):@fw:=[(bG,x.1),(bG,az x.2)]
def gE(M:ax):@fA:=M.map eG
def aaa{x y:@ar}(h:@ha=eG y):x=y:=by
 let{a,b}:=x;let{c,d}:=y;unfold eG at h;injection h with Z h2;injection h2 with h3 _;rw[ah,(u,a),c,wy Z];rw[ag,(A,@b1),(W,az d),wy h3];rw[a3,a,c];subst this;have:b=d:=by cases b<;>cases d<;>first|rfl|(rw[al,e2,@Z])
 rw[aa]
def alz:∀{a b:ax},gE a=gE b->a=b|[],[],_=>rfl|[],_::_,h=>@ch|_::_,[],h=>@ch|x::a,y::b,h=>by have h':@ha::gE a=eG y::gE b:=h;injection h' with Z h2;rw[aaa Z,alz h2]
def kx(H:Hp)(b:aa)(M:ax):@u:=∃ps:@aa,(iC,@bB)/\dv H ps M
def kx.same{H H':Hp}{b:aa}{M:ax}(t:@pj)(s:@ab):kx H' b M:=(me,@dw,c.same s)
def kx.keep{H H':Hp}(t:@pj)(k:∀c xs,(P,c,@d9)->(bl,c,@d9)):kx H' b M:=by let{ps,a,c}:=t;rw[ab,ps,k _ _ a];have tm:=@dv.mem H ps M c;unfold dv at c⊢;rw[<-c];rw[ak];intro p hp;rw[eP];rw[ex];exact k _ _ ex
def Mv.keep{H H':Hp}{p:aa}{h:ax}(m:Mv H p h)(hd:∀xs,H d≠some (.lst xs))(on:(ce,H d))(k:(oy,c≠d)):Mv H' p h:=by let{ps,a,c}:=m;rw[ab,ps,k _ _ (nt,a) a];have tm:=@dv.mem H ps h c;unfold dv at c⊢;rw[<-c];rw[ak];intro p hp;rw[eP];rw[ex];exact k _ _ (λq=>on _ (G,q,ex)) ex
def kx.toS{H:Hp}(t:@pj):Al H b M:=(me,.inr a,c)
def kx.updN{H:Hp}{D:aa}(t:@pj)(hD:@ir):kx @dB b M:=by let{ps,a,c}:=t;exact{ps,(D,(nu,a),a),aly c hD}
def alA{H:Hp}:∀{ps:@aa}{M:ax},dv H ps M->Paired (λp(k:List aW)=>@JH) ps (gE M)|[],[],_=>@ay|[],x::M,t=>@AO|p::ps,[],t=>@AO|p::ps,x::M,t=>by rw[iq,dv H ps M];exact .cons t'.1 (alA t'.2)
def kx.nkey{H:Hp}(t:@pj):qv H b (gE M):=(me,a,alA c)
def IT(zs:(b9,@hr)):@hf:=(ja,(gE @aF,@d5))
def jO(H:Hp)(d:aa)(K:im):@u:=(fo,@hr,(a4,.dN (IT zs))/\@ij=K/\∀z∈zs,(cC,z.1,(V,@eR)))
def jO.same{H H':Hp}{K:im}(c:@oL)(s:@ab):jO H' d K:=let⟨zs,a,b,e⟩:=c;{zs,@dw,b,λz m=>(as,e z m)}
def jO.updO{H:Hp}{D:aa}{K:im}(c:@oL)(aI:d≠D)(hD:@ir):jO @dB d K:=by let{zs,a,b,e}:=c;rw[ap,zs,@rZ,b,λz m=>?_];rw[aA (nu,e z m)];exact e z m
def alB{zs:(b9,@hr)}(M:ax):(kz,IT zs,gE M,M):=by unfold cB IT;rw[Eg];rw[e6,@fA,(B,D.1,gE M),λz:aa×@hr=>(gE @aF,@d5),(fP,M),(kV,gE @aF,gE M,alz)];rw[aa];cases zs.find? λz=>z.2.1==M<;>rfl
def jO.has{H:Hp}{K:im}(c:@oL)(M:ax):∃kvs,(a4,@hR)/\@a7=K.length/\(f5,gE M)=decide (M∈@ib):=by let{zs,a,b,e}:=c;rw[av,_,a,by rw[<-b];simp[IT]];rw[alB,BH,<-b,bC];rw[aD];rw[atQ,bU,bf];exact{λ⟨z,m,q⟩=>{z,m,eW.1 q},λ⟨z,m,q⟩=>{z,m,eW.2 q}}
def jO.get{H:Hp}{K:im}(c:@oL)(cJ:@rc){x:@hr}(hx:x∈K):∃kvs t,(a4,@hR)/\cB kvs (gE x.1)=some @c1/\(cC,t,(V,x.2)):=by
 let{zs,a,b,e}:=c;subst b;let{z,mz,rfl}:=@kv;rw[bC]at cJ;have hf:@E_:=by
  clear a e hx;induction zs with
  |nil=>cases mz
  |cons y zs ih=>
   rw[cb,mJ]at cJ;rcases de.1 mz with q|q;.subst q;simp[o7]
   .have aI:¬(c3,y.2.1,@aF):=λr=>cJ.1 (bf.2 ⟨z,q,(eW.1 r).symm⟩);rw[o7];simp only[ig.2 aI];exact ih cJ.2 q
 exact{_,z.1,a,(ab,alB,hf),e z mz}
def jO.add{H:Hp}{t:aa}{K:im}{ks:@o}(c:@oL)(ht:(cC,t,(V,ks))):∃kvs,(a4,@hR)/\jO (ex,.dN (kvs++[(gE M,V.ref t)])) d (K++[(M,ks)]):=by
 let{zs,a,rfl,e}:=c;have hd:(ce,H d):=(aN,a);refine{_,a,zs++[(t,(M,ks))],?_,?_,?_};.rw[ao];unfold IT;rw[bh];rfl
 rw[cU];.intro z mz;rcases bz.1 mz with mz|mz;rw[aK,(nt,e z mz),e z mz];.cases cz.1 mz;rw[aA (nt,ht)];exact ht
abbrev rZ(H:Hp)(l:aa)(u:im):@u:=b6 @fd @Gv H l u
def alC:ng @fd @Gv:=@Gl
def rZ.updO{H:Hp}{D:aa}{u:im}(h:rZ H l u)(aI:l≠D)(hD:@ir):rZ @dB l u:=(qd,(hz z m).2.updN hD)
def rZ.snoc{H:Hp}{p:aa}{u:im}{x:@hr}(h:rZ H l u)(a:kx H p x.1):(gy,@je,rZ @oS l (u++[x])):=by rw[cl];have g:(ce,H l):=(aN,h);rw[fg];rw[cc];rw[cU];rw[fl,{eY,(hz z m).2.updN g},eY,a.updN g]
def alD{H:Hp}{ks:@o}{j:Int}{k:Nat}(hj:j=@av)(hl:@gm<a7)(ha:(P,a,(jN,ks)))(hb:(iC,[V.int j]))(h:∀H' t,(eR,(bl,t,(jN,@nZ)),@c1)):akm K @W @aH H Q:=by
 subst hj;rw[E,(V,ks)++[V.int @av],(V,@nZ),@BT];refine{a,b,_,_,@d,@d,b_.of ha,b_.of hb,@v,?_,λhx=>?_,λhx p hp=>?_};rw[ba,j5,hl];.refine h H b @b5 ?_;rw[<-e,hx];exact hb
 .refine h _ p @rH ?_;rw[ao,e]
def Ob{k:Nat}(hr:@lr):@r4:=by have:=hr.un;omega
def IU{c:TT}{D:Ends}{H:Hp}(Pv:α->@eL)(μ:α->Nat)(M:α)(h0:Pv M σ H)(hs:∀x σ H,Pv x σ H->(nX,@eL,∃m',m'<μ x/\∃d,m'=μ d/\Pv d σ' H')):Sx c tb D σ H:=by rw[ab,λm σ H=>∃x,m=μ x/\Pv x σ H,{_,M,@d,h0}];rintro m σ H⟨x,rfl,p⟩;exact hs x σ H p
structure Oc(n:Nat)(C:im):@u where
 one:n=1->C=[(fz 1,[])]
 all:@aX->HA n C
 short:@DL
abbrev aab:aY:=top 120
def tZ:(aq,["size","start","cuts","number","steps","level","further","move","step","there"],"size",aab):=@D
def alE:Sp:=(kL,n<=6/\∀(H':Hp)(q:aa)(C:im),@ab->jO H' q C->Oc n C->Q @bi H')
def aBM(F:(o,"fewest_cuts","fewest_cuts",aab))(B:@ad)(sD:@lV)(AY:@vy)(JZ:@Cf)(G:@oE):(ae,3,["size"],alE):=by
 refine(h,tZ,@C);.rw[dK];rfl
 .rw[f5];rw[eR];rw[a8,(cn,@gp,(kO,(cL,sD))),(bR,2,@gp,azi li @B (jC ac),(aL,(bL,@Y),@E),aw (nK,@gp,"number",@tK,@gp,(aU,G,(cE,AY,@H),(cE,JZ,aE))) (cJ,5,@gp,(eQ,@B),tN dh (gp,@a4) (d9,6,@gp,@bg,(dw,@a4,7,@gp,(dV,(dW,@ak),3,@gp,8,@gp,(aQ,(aw,9,@gp,(kO,(aU,G,@cv,@dW))),bN (Aa (azf li @k9 @E)) (aQ,azg li @E @k9 (qI,@E,@cv,@H) @d,(cq,@bS,@k9)) bS))),(aw,5,@gp,@bS)),@E))];refine(e,n,@d,h0,@e,λH1 p1 Y cK m1=>?_);let{ps,cH,ht}:=m1;rw[ap,p1,_,@d,(bC,@qM,λm CU=>?_)];have s2:=(d7,@bB,H1,CU);have t2:kx (ag H1 m (.tup @bB)) m @b8:={ps,ao,ht.same s2};rw[cM,m,.tup @bB];refine λd hd=>{_,@d,@aO,λt0 CM=>?_};have qM:(I,d):=(Y.trans s2).free hd;rw[ef,@k8,hd];have d3:=(f7,d,@k8);rw[el,@k8];have s4:=(d7,[],H3,CM);have d4:=(bB,d3);have e4:=(jT,t0,.tup []);generalize ag H3 t0 (.tup [])=H4 at*;have t4:=t2.same @f5;have sA:ae H H4:=(Y.trans s2).trans @f5;refine{m,gE @b8,@d,t4.nkey,d4,?_};have c5:jO @vx d @t8:=by
   have ht:t0≠d:=λq=>by rw[q,d4]at e4;cases e4
   rw[ap,[(t0,(@b8,[]))],ao,@d,λz mz=>?_];cases cz.1 mz;rw[aA ht];exact e4
  have t5:kx @vx m @b8:=t4.updN (aN,d4);have sB:ae H @vx:=cF sA qM;generalize@vx=H5 at*;refine{_,@d,@d,_,@d,bF @hD @hD};.have Z:n=1:=@wa;rw[am,q0 H5 d _ sB c5 {λ_=>(aF,Z),@qG,λx hx=>(d,(@mz),@aO)}]
  have h2:@aX:=by
   rcases dH n 2 with h|h;.exact absurd (bq (show V.int @aq=V.int 1 by rw[(v,n=1)];rfl)) hc
   .exact h
  refine(e,@aq,@d,@e,@e,λS hS=>?_);refine S7 (lo:=0) (n:=(bk,n)) (λi H'=>ae H5 H'/\dC H' S (jF,gw n)) {aH @b5 hS,dC.nil ao} ?_ ?_;.rintro i H' hi⟨hs,hm⟩;rw[aR,@e];rw[ae,@d];simp only[kU,iQ];refine(e,_,@d,n,i,(O,af7),h0,@e,@e,λH6 p6 s6 m6=>?_);refine{_,@d,n,2,@d,h0,@e,h2,λH7 U s7 m7=>?_};refine{p6,(jw,U,cS n i,@ca,(m6.same s7).toS,m7,(My.qr h2).len,(My.jK (jb g) h0).len,My.qr h2,λH8 p8 s8 m8=>?_)};have s58:=(s6.trans s7).trans s8;let{ys,hy,cP,qb}:=(hm.same s58).snoc m8 (λe=>by have:=dg lz e;rw[show aK (cS n i) @ca=gw n i from rfl,(My.Hy h2 g).len]at this;simp at this;omega);rw[cW,_,hy,cF (hs.trans s58) hS];rw[bq,cP,lu,@a2];rw[aj,qY,bh,qb]
  rintro H6⟨s6,m6⟩;rw[(@uV)]at m6;have t6:=t5.same s6;have c6:=c5.same s6;rw[b_,@fY,λL0 hL0=>?_];have s7:=(ax,[V.ref m],H6,hL0);have l7:rZ (an,H6,L0,[V.ref m]) L0 @t8:=(nr,m,(@b8,[]),eY,t6.same s7);generalize(an,H6,L0,[V.ref m])=H7 at*;have c7:=c6.same s7;have m7:=m6.same s7;have sC:ae H H7:=sB.trans @sY;refine IU (λ(x:Nat×im×im)σ H'=>@ab/\(kB,H' c)/\∃(L:aa)(O v6 v7 v8 N:@ag),σ=(r2,L)/\jO H' d @bw/\rZ H' L @eO/\tG n x.1 @bw @eO/\x.1+@wl<=@wm) (λx=>2*(@uC-@wm)+min @wl 1) (0,@t8,@t8) {sC,@rk,L0,@r,@r,@r,@r,@r,@d,c7,l7,tG.start n,@L} ?_;rintro⟨dd,C,u⟩σ H8⟨s8,k8,L,O,v6,v7,v8,N,rfl,c8,l8,J,AR⟩;dsimp only at c8 l8 J AR;have vK:=λ(K:im)(I:∀x∈K,My.EI n x.1 x.2)(hd:(K.map (·.1)).Nodup)=>My.av0 h2 I hd;have aTh:=My.av5 hn;let{ys,hy,cP}:=l8.len (K:=K);refine(E,L,_,(eN,hy));rw[cP];rw[V]
  .have Jt:0<@je:=@dY;rw[bN,@ab/\(kB,H' c)/\∃(b:im)(F:aa)(O v6 v7 v8 N:@ag),σ'=(r2,F)/\jO H' d (C++b)/\rZ H' F b/\tG n (dd+1) (C++b) b]
   .rintro σ' H'⟨s',k',b,F2,u3,u6,u7,u8,u9,rfl,c',l',ac_⟩;have lc:=vK (C++b) (λx hx=>(ac_.best x hx).1) ac_.nodup;rw[dj]at lc;refine{_,?_,(dd+1,C++b,b),@d,s',k',F2,u3,u6,u7,u8,u9,@d,c',l',ac_,?_}
    .show 2*(_-(C++b).length)+min @bX 1<2*(_-@vX)+min @je 1;rw[dj];have e1:min @je 1=1:=af_ Jt;rw[e1];rcases ae3 b.length with z|z;.rw[z,Nat.zero_min];omega
     .rw[af_ z];omega
    .show dd+1+@bX<=(C++b).length;rw[dj];omega
   .rw[ax,λF hF=>?_];have hF0:(I,F):=s8.free hF;let{kd,hkd,_,_}:=c8.has @b8;have nFd:F≠d:=λq=>by rw[q,hkd]at hF;cases hF
    have s9:=(bM,H8,hF);have f9:=(aG,H8,F,[]);let{zs,X,gh,hz}:=l8;have nLF:L≠F:=(ot,hF);have nLd:L≠d:=(ot,hkd);have k9:(kB,(bE,H8,F,[],c)):=λc o hc h=>s9 _ _ (k8 c o hc h);have c9:=c8.same s9;have kd9:=s9 _ _ hkd;have ao6:∀c o,(R,H7 c)->c≠d->c≠F:=λc o h hc q=>(sO,k8 c o hc h,hF);have z9:=s9 _ _ X;have hz9:∀z∈zs,kx @CA z.1 @aF:=λz mz=>(hz z mz).2.same s9;have sH9:ae H @CA:=@ys;generalize@CA=H9 at*;have Jo:@cX=@je:=(cw,gh,au);have tp9:∀H',(ic,H' c)->∀z∈zs,kx H' z.1 @aF:=λH' k z mz=>(hz9 z mz).keep λc xs h=>k c _ (kv,kd9) (kv,f9) h;let{ss,hss,ess,uz}:=m7;have eI:@h6=n:=(hF,ess);let{kd7,adc,_,_}:=c7.has @b8;have nSd:S≠d:=λq=>by rw[q,adc]at hss;cases hss
    have sq7:∀H',(ic,H' c)->(aP,S,ss.map @km)/\∀z∈ss,Mv H' z.1 z.2:=λH' k=>by have k':(kB,H' c):=λc o hc h=>k c o hc (ao6 c o h hc) (k9 c o hc h);exact{k' _ _ nSd hss,λz mz=>(uz z mz).1.keep (aN,adc) (aN,adc) k'}
    rw[aF,L,(a1,z9),?_];refine(dr,L,@cP,@ab/\(ic,H' c)/\∃(b:im)(O v7 v8 N:@ag),(sa,v7,0),{sH9,λ_ _ _ _ h=>h,[],O,v7,v8,N,@d,(d,gk,c9),b6.nil f9,J.mid},λi σ H' _ h=>aj.of (h.2.1 _ _ nLd nLF z9))
    .rintro i y σ JI hi⟨FA,FV,b,u3,u7,u8,u9,rfl,c10,l10,Pq⟩;rw[cN,@vk,@u_];rw[bD,iP];have adh:(C,u,z.2):=As gh iP;have mlv:=cZ adh;let{mC,hzd}:=(J.lvIn z.2).1 mlv;have AU:=(J.best z.2 mC).1;have HM:bH n @aF:=(G,AU.prod,My.B3 h2 _ _ @d AU.ok);have aTk:=@Ka;have l:z.2.2.length<a7:=by rw[fk];omega
     rw[aM,S,aj.of (sq7 JI FV).1];refine wX (K:=K) (a:=S) (xs:=ss.map @km) (λj σ H'=>@ab/\(ic,H' c)/\∃(b:im)(O v8 N:@ag),(sa,(J,z.1),j)) {FA,FV,b,u3,u8,u9,@d,c10,l10,Pq} (λj σ H' _ h=>aj.of (sq7 H' @eK).1) ?_ ?_
     .rintro j y σ Di T hj⟨qP,FW,R,w3,w8,w9,rfl,c11,l11,t⟩hT;obtain⟨q,lj,rfl⟩:∃q,(ah,ss,q)/\y=V.ref q.1:=by rw[be]at hj;cases e:ss[j]? with|none=>rw[fr]|some z=>rw[ix]
      have CV:j<n:=(d6,eI,lj);have Pr:q.2=gw n j:=by have:=As ess lj;rw[be,xK CV]at this;exact(bZ this).symm
      have Ps:@e2=@yU:=(r,My.wP,AU.prod);have ao8:=(sq7 Di FW).2 q (cZ lj);rw[Pr]at ao8;have ao9:=tp9 Di FW z mz;have eV:=(aK,(gD,j,.ref q.1),Di,hT);rw[bP];generalize ag Di T (gD,j,.ref q.1)=H12 at*;have v:=My.Hy h2 CV;refine{_,@d,_,@d,z.1,(jw,q.1,@aF,gw n j,(ao9.same eV).toS,ao8.same eV,v.len,HM.len,v,λH13 p13 kc m13=>?_)};let{Pt,aHC,aHD}:=m13;rw[ap,p13,_,@d,(bC,aj.of aHC,λKg aHE=>?_)];have zd:=(d7,@yt,H13,aHE);have t14:kx (ag H13 Kg (.tup @yt)) Kg @e2:={Pt,ao,aHD.same zd};generalize ag H13 Kg (.tup @yt)=H14 at*;have D:ae Di H14:=eV.trans (kc.trans zd);have Pu:=c11.same D;have l14:=l11.same alC D;let{kvs,k1,k2,W}:=Pu.has @e2;refine(e,(E,d,Kg,kvs,gE @e2,@d,@d,k1,t14.nkey,_,@d,?_));rw[W];rw[aE,λcM=>?_,λcM=>?_]
      .have apa:@yU∉(he,C,R):=by rw[<-Ps];intro h;rw[(@h_)]at cM;cases cM
       have M12:=t.add CV adh apa;let{Kf,t2,g1,g2,g3}:=Pu.get t.nodup (aR,mC);refine{_,(cO,d,z.1,Kf,gE @aF,_,(q9,(ao9.same D).nkey))};have s15:=(d7,[(b5,j)],H14,pX);refine alD (ks:=@eR) (k:=j) @d l (s15 _ _ g3) ao λKh Ki s16 h16=>?_;have r:ae H14 Kh:=s15.trans s16;have c16:=Pu.same r;let{p,e3,c17}:=c16.add (M:=@e2) h16;have e4:p=kvs:=by have:=r _ _ k1;rw[e3]at this;exact HO.dN.inj (bZ this)
       subst e4;have Fq:cB p (gE @e2)=@r:=(oz,p,gE @e2,(ai,W,Ps,cG apa));have bG:@d2<a7:=by rw[k2];rw[lH];rw[fk];omega
       refine(e,(E,d,Kg,p,gE @e2,@d,@d,e3,(t14.same r).nkey,Fq,bG,?_));have apc:(ce,Kh d):=(aN,e3);have l17:=rZ.updO (l14.same alC r) (o:=@pw) nFd apc;have t17:=(t14.same r).updN (o:=@pw) apc;have sZ:ae H (ag Kh d @pw):=cF (qP.trans (D.trans r)) qM;have k17:(ic,ag Kh d @pw c):=λc o Z h2 h=>(D,Z,(D.trans r) _ _ (FW c o Z h2 h));generalize ag Kh d @pw=H17 at*;let{ys,hyF,aoo,l18}:=rZ.snoc (x:=(@e2,@eR++[j])) l17 t17;have Kj:(ce,H17 F):=(aN,hyF);refine{_,@d,(X,hyF),_,@d,F,_,_,@d,@d,hyF,?_,cF sZ hF0,?_,R++[(@e2,@eR++[j])],_,_,_,@d,?_,l18,?_};.rw[aoo];rw[lH];rw[dj]at Z;rw[fk];omega
       .intro c o Z h2 h;rw[aA h2];exact k17 c o Z h2 h
       .rw[<-eM];exact c17.updO nFd.symm Kj
       rw[s,Ps,M12]
      .have Pw:@yU∈(he,C,R):=by
        rw[<-Ps];by_cases h:@e2∈(he,C,R);.exact h
        rw[ai,(O,cG h),cM]
       exact{qP.trans D,λc o Z h2 h=>D _ _ (FW c o Z h2 h),R,_,_,_,@d,Pu,l14,t.old adh Pw}
     .rintro σ Di⟨qP,FW,R,w3,w8,w9,rfl,c11,l11,t⟩;rw[au,eI]at t;exact{qP,FW,R,_,_,_,_,@d,c11,l11,t.row}
    .rintro σ JI⟨FA,FV,b,u3,u7,u8,u9,rfl,c10,l10,Pq⟩;rw[au,Jo]at Pq;exact(e,FA,λc o hc h=>FV c o hc (ao6 c o h hc) (k9 c o hc h),b,F,_,_,_,_,_,@d,c10,l10,Pq.done)
  .have Jt:u=[]:=o5.1 (by
    rcases ae3 u.length with z|z;.exact z
    rw[ai,(nj,@je),hc]);subst Jt;exact(am,q0 H8 d C s8 c8 {@qG,λ_=>J.full,λx hx=>by have Z:=(J.best x hx).2;have h3:=@Ka;simp only[Qw]at AR;omega})
def aBN(a:Int)(l:@J):(F,qF a a l l):=by unfold qF;rw[ai @d];exact Oa l
def aBO{a b c:Int}{x y z:@J}(Z:qF a b x y=@h)(h2:qF b c y z=@h):qF a c x z=@h:=by
 unfold qF at Z h2⊢;by_cases e1:a=b
 .rw[ai e1]at Z;by_cases e2:b=c;.rw[ai e2]at h2;rw[ai (e1.trans e2)];exact VF Z h2
  rw[fo]
 .rw[af e1]at Z;have h3:=bT Z;by_cases e2:b=c;rw[s,(@bd),@gP];rw[fo]
def aBP{a b:@o}(h:(F,qF (u,@bX) (u,@eU) (nL b) (nL a))):z5 a b:=by
 unfold qF at h;by_cases e:(u,@bX)=@eU;.rw[a0,e];exact(a_,@e,VG @e h)
 .rw[bd,e];have:=Ef h;exact .inl @e
def aBQ{C:im}(cJ:@Gy){b b':@o}(Z:(M,b)∈C)(h2:(M,b')∈C):b=b':=by
 induction C with
 |nil=>cases Z
 |cons x C ih=>
  rw[cb,mJ]at cJ;rcases de.1 Z with e1|e1
  .rcases de.1 h2 with e2|e2;.rw[<-e1]at e2;exact(aVY e2).2.symm
   rw[ai,bf.2 {_,e2,by rw[<-e1]},cJ.1]
  .rcases de.1 h2 with e2|e2;rw[ai,bf.2 {_,e1,by rw[<-e2]},cJ.1];.exact ih cJ.2 e1 e2
abbrev aac:aY:=top 121
def aBR:(aq,["way"],"way",aac):=@D
def alF:Sp:=λvs H Q _=>∃(t:aa)(l:@o),vs=[@c1]/\(cC,t,@jL)/\(mx,(bl,p,(gD,@R,@c1)))
def aBS(F:(o,"turns_and_cuts","turns_and_cuts",aac))(B:@ad):(bp,"way",alF):=by
 refine(h,aBR,@C);.let{t,l,rfl,_}:=h;rfl
 .let{t,l,rfl,ht,q0}:=h;rw[an,(b3,@a6,@Y)];refine{_,@d,t,_,@d,.inr (b_.of ht),_,@d,@b3,λp hp=>q0 _ p @rH ?_};rw[ao,au,j5]
abbrev aad:aY:=top 122
def IV:(ay,["move","cuts","size","ways","number","before"],"move","cuts",aad):=@D
def alG:Sp:=λvs H Q _=>∃(a d:aa)(M:ax)(C:im)(n:Nat),(cz,@cD,Mv H a M,bH n M,0<n,n<=6/\jO H d C/\@Gy/\(hp,kP n M k∈C.map @aA)/\@DL/\∀(H':Hp)(t:aa)(l:@o),@ab->(bl,t,.tup @jL)->(∃k b,k<n/\@BL/\l=b++[k])->(∀k b,k<n->@BL->z5 l (b++[k]))->Q @c1 H')
def aBT(F:(o,"least_way","least_way",aad))(B:@ad)(AY:@vy)(G:@oE)(aHP:(bH,"turns_and_cuts","way",alF)):(aI,3,"move","cuts",alG):=by
 refine(h,IV,@C);.let{a,d,M,C,n,rfl,_}:=h;rfl
 .let{a,d,M,C,n,rfl,ha,HM,h0,hn,hC,cJ,cM,hsh,q0}:=h;rw[eR];obtain⟨bk,l⟩:∃bk:Nat->@o,(hp,(kP n M k,bk k)∈C):=by
   have key:(hp,∃b,@BL):=λk hk=>by rw[cG,cM k hk];exact{x.2,(cg,hx)}
   exact{λk=>if h:k<n then(key k h).choose else[],λk hk=>by dsimp only;rw[dif_pos hk];exact(key k hk).choose_spec}
  let{ps,cH,ht}:=id ha;have dF:(ps.map @hw).length=n:=(aA,au,ht.len,HM.len);rw[as,IV.nd,@a6,(bd,IV.nd,@bg),(bu,(fu,@E,4,IV.nd,(aQ,(aw,5,IV.nd,(kO,(cE,G,(cK,AY,bd kR @E @ak)))),(cq,@H,(qI,@B,@a4,@ak)))),aku aHP @cf B.min @H)];rw[aM,a,(aJ,cH)];rw[dF];rw[ax,λW X=>?_];have Y:=(bM,H,X);rw[g1,@aq];refine(hA,(bk,n),@ab/\∃(L:(b9,@o))(v4 N:@ag),σ=[@bc,@fQ,@fD,(J,W),v4,N]/\(aP,W,L.map @km)/\L.map @bA=(jF,λk=>bk k++[k])/\∀z∈L,(bl,z.1,(jN,z.2)),{Y,[],@r,@r,@d,ao,@d,@hW})
  .rintro i σ H2 hi⟨s2,L,v4,N,rfl,w2,u,c⟩;rw[aR,@e];have ll:@ew=i:=(hF,u);have hCi:=My.jK (n:=n) (k:=n-i) @e h0;refine(e,(mB,@d,@d,n,n-i,by show[V.int @aq,V.int (@aq-@bQ)]=_;rw[(v,@aq-@bQ=(A,n-i))],h0,@e,@e,λH3 p3 s3 m3=>?_));refine{a,(jw,p3,M,cS n (n-i),(ha.same @g8).toS,m3,hCi.len,HM.len,hCi,λH4 p4 s4 m4=>?_)};let{Px,aHR,J}:=m4;rw[ap,p4,_,@d,(bC,aj.of aHR,λR hb4=>?_)];have s5:=(d7,@yu,H4,hb4);have t5:kx (ag H4 R (.tup @yu)) R (kP n M i):={Px,ao,J.same s5};generalize ag H4 R (.tup @yu)=H5 at*;have D:ae H2 H5:=s3.trans @jw;have w5:=D _ _ w2;let{kvs,t,g1,g2,g3}:=(hC.same (s2.trans D)).get cJ (l i g);refine(E,(X,w5),_,(cO,d,R,kvs,gE (kP n M i),_,(q9,t5.nkey)));have s6:=(d7,[V.int @bQ],H5,pX);refine alD (ks:=bk i) (k:=i) (aF,af7) ?_ (s6 _ _ g3) ao λH7 t7 s7 h7=>?_;.have Z:=hsh _ (l i g);rw[fk];dsimp only at Z;omega
   have r:ae H2 H7:=D.trans @sY;have w7:=r _ _ w2;have T:(lS,H7 q=some @d9,W):=(lM,w7);refine{W,_,(E,@d,w7,?_,cF (s2.trans r) X,L++[(t7,@lE)],_,_,@d,?_,?_,?_)};rw[ba,ll,@a2];rw[cc];.rw[bh,u,qY,bh];rfl
   .intro z mz;rcases bz.1 mz with m|m;.have:=r _ _ (c z m);rw[aA (T _ _ this)];exact this
    .cases cz.1 m;rw[aA (T _ _ h7)];exact h7
  .rintro σ H2⟨s2,L,v4,N,rfl,w2,u,c⟩;rw[(@uV)]at u;have ll:@ew=n:=(hF,u);have S:(pC,∃t,i<n/\v=@c1/\H2 t=some (jN,@lE)):=by intro i v hv;rw[be]at hv;cases O:L[i]? with|none=>rw[O]at hv;cases hv|some y=>rw[O]at hv;have hi:i<n:=(d6,ll,O);rw[kT];rw[u,be,xK hi]at e3;rw[av,y.1,hi,(bZ hv).symm];have e4:@lE=y.2:=bZ e3;rw[e4];exact c y (cZ O)
   refine(e,(rD,W,∃(p t:aa),v=@ao/\(bj,(gD,(cF,bk i,i),@c1))/\(cC,t,(V,@lE)),qF (W,(cF,bk i,i)) (W,(cF,bk j,j)) (nL @lE) (nL (bk j++[j])),w2));rw[ba,ll,h0];.rintro Ha Hb i v hs⟨p,t,e,Z,h2⟩;exact{p,t,e,(bw,Z),(bw,h2)}
   .intro i v Ha hv hs Q U;let{t,hi,rfl,h2}:=S i v hv;exact{t,@lE,@d,(bw,h2),λHb p' xy yP=>U Hb _ xy {p',t,@d,yP,xy _ _ (bw,h2)}}
   .rintro pins σ Ha sa i j vi vj ui uj Q E' I⟨p,t,rfl,Z,h2⟩⟨p',t',rfl,lg,ju⟩ri rj hQ;obtain rfl:ui=cy p:=ri;obtain rfl:uj=cy p':=rj;exact azK I Z lg h2 ju li hQ
   .exact λx y z=>aBO
   .exact λx=>aBN _ _
   .let{t,hi,rfl,h2}:=S i v hv;refine q0 H7 t @lE (s2.trans s7) (eg,h2) {i,bk i,hi,l i hi,@d} λk b hk hb=>?_;rw[aBQ cJ hb (l k hk)];exact aBP (uh k (bO,ll,hk))
def Fa{m:aq}{ps:@aE}{k:Nat}{o:bM}{ta:TE}{apos:cO}{pl:@k5}(M:@Jb)(hr:@jS)(he:@rI)(ht:@Fa:=by rfl):(kT,[],[],E0,yk):=(qb,axi he c hm F hr hb @ay EV ht)
def aae:∀(l:@q2)(x:@o),pd (l++[x])=(H,l,[],x,pd l++32::x)|[],x=>rfl|[y],x=>rfl|y::z::l,x=>by have ih:=aae (z::l) x;rw[(@jp)]at ih;show y++32::pd (z::l++[x])=_;rw[ih,(@jp)];show _=(y++32::pd (z::l))++32::x;simp
def aBU:∀(l:@q2),@gc->(∀x∈l,x≠[])->pd l≠[]|[],h,_=>@zs|[x],_,h=>h x @v|x::y::l,_,h=>by show x++32::pd (y::l)≠[];simp
def Od:∀(l:@q2),(pd l).length<=(l.map lz).sum+@R|[]=>@L|[x]=>by simp[pd]|x::y::l=>by have ih:=Od (y::l);show(x++32::pd (y::l)).length<=_;rw[dj,cX,cb,ij,cX (a:=x)];omega
def alH{α:@az}{step:@r_}(hw:@AR):∀(xs:@cQ)(s:α),iB @cx s (vp xs)=iB @cx s @t6|[],_=>rfl|x::xs,s=>by rw[cb];show iB @cx s @Cd=_;cases e:step s (tokOf x)with|none=>rw[My.B4 e,My.B4 e]|some s'=>rw[My.B5 e,My.B5 e,af (λq=>by rw[q,hw]at e;cases e)];exact alH hw xs s'
structure aaf(x:Pc):@u where
 word:@gM->@pO=vo @d4
 letter:@be="word"->∀b,x.spelt.head?=some b->97<=b
 kinds:@be="word"\/@be="number"\/@be="("\/@be=")"\/@be=";"\/@be="wrong"\/@be="blank"
def alI(b:Nat):@cS="word"\/@cS="number"\/@cS="("\/@cS=")"\/@cS=";"\/@cS="wrong"\/@cS="blank":=by unfold bQ;by_cases Z:@j_;rw[aT,Z,@aK];.rw[af Z];by_cases h2:@lU;rw[aT,h2,@nt];.rw[af h2];by_cases h3:@pl;rw[aT,h3,(az,(az,(az,@d)))];.rw[af h3];by_cases h4:b=40;rw[aT,h4,(az,@aK)];.rw[af h4];by_cases h5:b=41;rw[aT,h5,(az,@nt)];.rw[af h5];by_cases h6:b=59;rw[aT,h6,(az,(az,@aK))];rw[bk,h6,(az,(az,@nt))]
def aag(t:@o)(p e:Nat):(gb t p e).kind=(H,@aW,"number",(j0,oQ @rF,@aW),@aW):=@d
def aBV(t:@o)(p e:Nat):aaf (gb t p e):=by
 have hk:(gb t p e).kind="word"->@aW="word":=by
  intro h;rw[aag]at h;by_cases Z:@aW="number"
  .rw[a0,Z];by_cases h2:oQ @rF=@h;.rw[a0,h2];exact h
   .rw[bd,h2];exact@yS
  .rw[(@cl)]at h;exact h
 rw[ab,@b_,λh b hb=>?_];.show(H,@aW,"word",vo @rF,"")=vo @rF;rw[ai (hk h)]
 .have G:((t.drop p).take (e-p)).head?=some b:=hb;rw[List.head?_take]at G;split at G;.cases G
  .rw[List.head?_drop]at G;have:@kl=b:=(d8,G);rw[bj];exact(akO (hk h)).1
 .rw[aag];split
  .split;.exact alI _
   rw[ac,(az,(az,@aK))]
  .exact alI _
def alJ(t:@o):(pg,aaf x)
 |0,p,x,h=>@ch
 |f+1,p,x,h=>by
  rw[fN]at h;rw[en]
  .rw[a0,hp];rcases bz.1 h with h|h;.by_cases hb:@tW;rw[ev,hb];.rw[bd,hb];rw[cz.1 h];exact aBV _ _ _
   .exact alJ t f _ x h
  rw[ew,hp]
def aah(t:@o):∀(f p:Nat),(fN t f p).length<=f
 |0,p=>@L
 |f+1,p=>by
  rw[fN];rw[en];.rw[ai hp,dj];have:=aah t f @aN;split<;>simp<;>omega
  rw[bk,hp,@aO]
def nc.at{H:Hp}{ps:@aa}{xs:@cQ}(h:@ka){i:Nat}{p:aa}(hp:(C,ps,p)):∃x,@dl/\@uQ:=@HH
def nc.length{C:aa}{k H:Hp}{ps:@aa}{xs:@cQ}(h:@ka):@y9:=@C5
def Kp(own:@bh)(H H':Hp):@u:=(oy,¬own c)
structure Rdr{α:@az}(C:aa)(Rd:@pB):@u where
 ins:∀{j H p own s},@oZ->∃dx fs,@rK/\fs.lookup ("take":aq)=@r/\fs.lookup ("may_end":aq)=@r
 got:∀{j H p own s},@oZ->∀c,own c->H c≠@r
 same:∀{j H H' p own s},@oZ->@ab->Rd j H' p own s
def aaj(m:aa)(Rd:@pB)(step:@r_):Sp:=λvs H Q _=>∃(j:Nat)(p q:aa)(own:@bh)(s:α)(x:Pc),(ci,@bi,@oZ,@vh,aaf x,j<1000/\∀(H':Hp)(g:@bh),@w4->@KJ->Rd @aj H' p g ((step s @b7).getD s)->Q (.bl (step s @b7).isSome) H')
def aak(Rd:@pB)(b:@nW):Sp:=λvs H Q _=>∃(j:Nat)(p:aa)(own:@bh)(s:α),(hq,@oZ,(cj,b s))
abbrev aal:aY:=top 38
def aam:(aq,["pieces","spelt","piece"],"pieces",aal):=@D
def alK(C:aa):Sp:=λvs H Q _=>∃(l:aa)(ps:@aa)(xs:@cQ),vs=[@bb]/\@tv/\@pn/\(xs.map @mY).sum+@X<=10000/\(it,(pd (xs.map @qA)).map @qC)
def aBW(F:(o,"written","written",aal))(B:@ad)(G:Cf mg)(T:wY K C):(bp,"pieces",alK C):=by
 refine(h,aam,@C);.let{l,ps,xs,rfl,_}:=h;rfl
 .let{l,ps,xs,rfl,hl,hp,hsz,q0}:=h;have dF:=hp.len;rw[bu,aam.nd,@bg,(jm,@Y,2,aam.nd,(jg,(gp,@B),@B,dB G.BLANK),(sz,@B,@df))];rw[br];rw[cv];have aI:∀x∈xs,@yO:=by intro x hx;let{i,hi,e}:=lX hx;let{y,hy,dx,sp,_,_,c}:=hp.get (i:=i) @em;rw[(@ej),e]at hy;cases hy;exact c
  have U:∀j,@DM+(xs.take j).length<=10000:=by
   intro j;have:(xs.map @mY).sum=@DM+((xs.drop j).map @mY).sum:=by rw[<-Dv,<-bh,DF]
   rw[eD];omega
  rw[dY,(aV,hl)];refine(nQ,l,@ab/\∃v2:@ag,σ=[@c2,@cr,v2]/\(b0,(pd @ji).map @qC),Y,ao,(ey,hl))
  .rintro j y σ H2 hj⟨s2,v2,rfl,d2⟩;obtain⟨p,Z,rfl⟩:∃p,(ah,ps,p)/\y=V.ref p:=@Km;let{x,hx,dx,sp,g1,g2,g3}:=hp.get Z;have L:@y8=@ji++[@d4]:=My.qo _ hx;have eI:=Od @ji;have d:=Od @y8;rw[bC,au]at eI d;have k:=U j;have eJ:=U @aj;have hL1:(pd @ji).length<=10000:=cU eI k;have vU:(pd @y8).length<=10000:=cU d eJ;have big:(W,10000)<a7:=@Z;rw[gf,D,d2];rw[au];rw[L,aae]at vU;by_cases g:@ji=[]
   .rw[ai g]at vU;rw[g]at d2⊢;rw[aq];refine{_,@d,(X,d2),(rG,(aM,g1),d2,(aM,g2),(aE,s2))};.rw[au,au];show 0+_<=_;omega
    rw[aL,ao,L,g]
   .rw[af g]at vU;have xx:=aBU _ g (λz hz=>by let{y,hy,rfl}:=bf.1 hz;exact aI y (Bm hy));have X:0<(pd @ji).length:=zp.2 xx;rw[(nj,(pd @ji).length)];rw[bK];refine(e,(bs,(X,d2),D,d2,?_));.rw[au];omega
    have s3:=cF (o:=.lst @E6) s2 hD;have d3:=(aG,H2,D,@E6);refine{_,@d,(X,d3),(rG,(ac,g1),d3,(ac,g2),(aE,s3))};.rw[dj,cX]at vU;rw[dj,au,au,uJ];omega
    .rw[ao,L,aae,af g,bh,eM];rfl
  .rintro σ H2⟨s2,v2,rfl,d2⟩;rw[au,dF,gn]at d2;exact(am,q0 H2 D s2 d2)
abbrev aan:aY:=top 42
def alL:(ay,["text","reader","piece"],"text","reader",aan):=@D
def Oe(K:aM)(Rd:@pB)(step:@r_)(b:@nW):Sp:=λvs H Q _=>∃(a p:aa)(own:@bh)(s:α)(t:@o),(cz,@ao,@h0,@mT,Rd 0 H p own s,¬own a/\∀(H':Hp)(g:@bh)(j:Nat),j<=600->@w4->@KJ->Rd j H' p g (lM @cx b s t).1->Q (.int (lM @cx b s t).2) H')
def aBX{own:@bh}{H H':Hp}{xs:@F}(k:@w4)(ha:¬own a)(h:@bO):aj K H' a xs:=(o7,k _ _ ha h,k _ _ ha h)
def alM{Rd:@pB}{step:@r_}{b:@nW}(R:Rdr C Rd)(hw:@AR)(F:(o,"refusal_of","refusal_of",aan))(B:@ad)(G:@bT)(T:wY K m)(M:(qN,m))(aHU:(bZ,"take","piece",4,aaj m Rd @cx))(aHV:(jk,"may_end",1,aak Rd b)):(aI,6,"text","reader",Oe K Rd @cx b):=by
 refine(h,alL,@C);.let{a,p,own,s,t,rfl,_}:=h;rfl
 .let{a,p,own,j,t,rfl,ha,dX,O,I,q0}:=h;rw[bs,(aL,(go,@a6,G.MOST_BYTES),dB G.TEXT_TOO_LONG),(dw,(cL,M),2,alL.nd,(sG,(gF,aHU,@B,@E),@df)),(sG,Fa aHV @cf @B,@a6),aE];rw[gx];rw[au];rw[V];.have h6:@ef:=@dY;have k:=q0 H own 0 @aO @rk @wT;unfold lM at k;rw[ai h6]at k;exact k O
  have h6:¬@ef:=λh=>(bm,(v,(u,@ah)>600));refine{_,@d,a,t,@d,ha,dX,λH1 l Y hp=>?_};let{ps,hl,L,y4}:=hp;have dF:=L.length;have xh:iB @cx j @dA=iB @cx j ((fN t @ah 0).map λx=>@qk):=(r,akg,alH hw);have nu:(fN t @ah 0).length<=600:=cU (aah t @ah 0) @e;have hok:=alJ t @ah 0;have hR1:=R.same O Y;have r:=R.got O;unfold lM at q0;rw[af h6,xh]at q0;generalize@pd=xs at*;have Ba:¬own l:=λh=>r l h y4;rw[c0,l,hl];refine(dr,l,@bB,∃(g:@bh)(s':α)(v2:@ag),σ=[@bc,@e5,v2]/\Kp own H1 H'/\(∀c,g c->own c\/(cV,c))/\Rd i H' p g s'/\iB @cx j @t6=iB @cx s' ((xs.drop i).map λx=>@qk),{own,j,@r,@d,@rk,@wT,hR1,@d},λi σ H' _⟨_,_,_,_,k,_⟩=>aj.of (k _ _ Ba hl))
  .rintro i y σ H2 hi⟨S,s2,v2,rfl,k2,g2,r2,e2⟩;obtain⟨q,U,rfl⟩:∃q,(C,ps,q)/\y=V.ref q:=by rw[aY];rw[dk]
   let{x,hx,u,sp,p1,p2,p3,p4,p5}:=L.at U;have uk:@hS:=(fk.1 hx).1;have J4:xs.drop i=x::xs.drop @A:=(r,v_ uk,(fk.1 hx).2);rw[J4,cb]at e2;have n:¬own q:=λh=>r q h p4;have v:¬own sp:=λh=>r sp h p5;have Z:¬S q:=λh=>(g2 q h).elim n (th,p1);let{dx,fs,X,vF,lc}:=R.ins r2;have J:∀(H3:Hp)(d:@bh),Kp S H2 H3->(∀c,d c->S c\/H2 c=@r)->Kp own H1 H3/\∀c,d c->own c\/(cV,c):=by
    intro H3 d W g3;rw[P,λc o hc h=>W c o (λh2=>(g2 c h2).elim hc (th,h)) (k2 c o hc h),@i9];rcases g3 c hc with h|h;.exact g2 c h
    .by_cases N:own c;rw[Q,N];.right;cases e:H1 c with|none=>rfl|some o=>rw[cV,k2 c o N e]
   cases dM:step s2 (tokOf x)with|none=>refine{_,@d,p,dx,fs,@d,X,vF,_,@d,i,p,q,S,s2,x,@d,r2,@H3,hok x (cZ hx),@e,λH3 d W g3 D=>?_};rw[dM]at D⊢;let{c1,c2}:=J H3 d W g3;rw[am,cq ?_];refine(bT,q,m,u,W _ _ Z (k2 _ _ n p1),@V,T.nP,@d,_,_,@d,@d,?_);rw[e2,My.B4 dM]at q0;exact q0 H3 d @A @e (λc o hc h=>c1 c o hc @h3) (λc hc=>(c2 c hc).elim .inl @Kd) D|some s3=>refine{_,@d,p,dx,fs,@d,X,vF,_,@d,i,p,q,S,s2,x,@d,r2,@H3,hok x (cZ hx),@e,λH3 d W g3 D=>?_};rw[dM]at D⊢;let{c1,c2}:=J H3 d W g3;rw[am,cI ?_];exact{d,s3,_,@d,c1,c2,D,(r,e2,My.B5 dM)}
  .rintro σ H2⟨S,s2,v2,rfl,k2,g2,r2,e2⟩;rw[au,dF]at r2 e2;rw[asB]at e2;have e3:iB @cx j @t6=(s2,@r):=e2;rw[e3]at q0;let{dx,fs,X,vF,lc}:=R.ins r2;refine(e,p,dx,fs,@d,X,lc,@X,p,S,s2,@d,r2,@sU);have k:=q0 H3 S @X nu (λc o hc h=>(ac,k2 c o hc @h3)) (λc hc=>(g2 c hc).elim .inl @Kd) (R.same r2 s3);dsimp only at k;cases hm:b s2 with|false=>rw[hm]at k;rw[bK];rw[kc,.inl (aBX (λc o hc h=>(ac,k2 c o hc h)) I @ct)];rw[au];exact k|true=>rw[hm]at k;exact cI k
def vw:@fx->Int|none=>-1|some k=>@av
def nZ(n:Nat)(sv:Bool)(rf:Int)(W mv:aa)(I J:aq)(tm:Int)(v:aa):@cU:=[@AC,("several",.bl sv),("refusal",.int rf),("moves",.ref W),("move",.ref mv),("wanted",.str I),@BE,("times",.int tm),("outer",.ref v)]
structure mr(K:aM)(C:aa):@u where
 cl:@fk
 size:(ak,"size")
 several:(ak,"several")
 refusal:(ak,"refusal")
 moves:(ak,"moves")
 move:(ak,"move")
 wanted:(ak,"wanted")
 word:(ak,"word")
 times:(ak,"times")
 outer:(ak,"outer")
def kY(H:Hp)(v:aa)(os:@dy):@u:=(fo,aa×(ax×@fx),(ag,v,@cP)/\(zs.map (·.2.2)).reverse=os/\∀z∈zs,(P,z.1,(bW,.ref @aF,vw z.2.2.2))/\Mv H @aF @v8/\@v8≠[])
def kY.same{H H':Hp}{v:aa}{os:@dy}(h:@it)(s:@ab):kY H' v os:=(sU,{(as,(c z m).1),(c z m).2.1.same s,(c z m).2.2})
def Mv.offO{H:Hp}{h:ax}(m:@kD)(aI:@e6)(O:@it):a≠v:=by rintro rfl;let{ps,cH,ht}:=m;let{zs,hz,_,b}:=O;rw[cH]at hz;have e:=(f8,hz);cases h with|nil=>exact aI @d|cons x h=>let{q,U,eq}:=@Jk;rw[f7,@F,0,e];rw[be,be,U]at e0;cases lp:zs[0]? with|none=>rw[lp]at e0;cases e0|some z=>rw[lp]at e0;rw[ah,q,z.1,@yv];have:=(b z (cZ lp)).1;rw[<-e1,eq]at this;cases this
def iN{H:Hp}{p:aa}(h:ag H p o b=@r):@bP/\@ec:=by have e:@ec:=(gw,ao);rw[aA e]at h;exact⟨h,e⟩
def Mv.updI{H:Hp}{p:aa}{h:ax}(m:@kD)(hp:@rK):Mv @ts a h:=by refine m.updO (λq=>?_) (aN,hp);let{ps,e,_}:=m;rw[q,hp]at e;cases e
def dC.updI{H:Hp}{l p C dx:aa}{hs:@Q}{fs:@cU}{o:HO}(m:@jZ)(hp:@rK):dC @ts l hs:=(kQ,(m9,hp),(c z mz).1.updI hp)
def kY.updI{H:Hp}{v p C dx:aa}{os:@dy}{fs:@cU}{o:HO}(m:@it)(hp:@rK):kY @ts v os:=by rw[cC];rw[ap,zs,(m9,hp),b,(pB,(c z mz).2.1.updI hp)];have Z:=(c z mz).1;rw[iM,hp];exact Z
def kY.updM{H:Hp}(m:@it)(M:dC H W hs)(aI:W≠v):kY (ag H W o) v os:=by rw[cC];let{L,X,_,d}:=M;have hr:=dC.refs d;rw[ap,zs,(D,aI.symm,a),b,(pB,(c z mz).2.1.updO ((c z mz).2.1.off (c z mz).2.2 X hr) (aN,X))];have Z:=(c z mz).1;rw[iM,X];exact Z
def Mv.updM{H:Hp}{h:ax}(m:@kD)(aI:@e6)(M:dC H W hs):Mv (ag H W o) a h:=by let{L,X,_,d}:=M;exact m.updO (m.off aI X (dC.refs d)) (aN,X)
def Mv.updU{H:Hp}{h:ax}(m:@kD)(aI:@e6)(O:@it):Mv (ag H v o) a h:=by refine m.updO (m.offO aI O) (λxs q=>?_);let{zs,e,_}:=O;rw[e]at q;cases q
def dC.updU{H:Hp}{l v:aa}{hs:@Q}{os:@dy}{o:HO}(m:@jZ)(aI:l≠v)(O:@it):dC (ag H v o) l hs:=(kQ,@rZ,(c z mz).1.updU (c z mz).2 O)
def kY.push{H:Hp}{t mv:aa}{tm:@fx}(O:@it)(ht:(su,tm))(m:Mv H mv M)(aI:M≠[]):∃ys,(ag,v,ys)/\@dG=@et/\kY (aH,v,(bK,ys,t)) v ((M,tm)::os):=by
 have j:=O;let{zs,a,b,c}:=O;rw[kS];refine{_,a,(hl,b),zs++[(t,mv,(M,tm))],?_,?_,?_};rw[cc];rw[aL,bh,aPU,b]
 .intro z mz;rcases bz.1 mz with mz|mz;.let{c1,c2,C}:=c z mz;exact{(D,g _ _ c1,c1),c2.updU C j,C}
  .cases cz.1 mz;exact{(D,g _ _ ht,ht),m.updU aI j,aI}
def kY.pop{H:Hp}{x:ax×@fx}(O:kY H v (x::os)):∃ys t mv,(ag,v,ys)/\@dG=@et+1/\@CQ/\(su,x.2)/\Mv H mv x.1/\x.1≠[]/\kY (aH,v,@lY) v os:=by
 have j:=O;let{zs,a,b,c}:=O;have hl:@cX=@et+1:=(hF,b);have hr:zs.map (·.2.2)=os.reverse++[x]:=(mj,dg asN b,aSp,kJ);rw[kS];rw[hH,zs,(by cases hg:zs.getLast? with|none=>rw[DM.1 hg]at hl;simp at hl|some z=>rw[hX])];rw[bh]at hr;have h2:=atR hr @d;rw[f8,@eR=x];let{c1,c2,C}:=c z @v;rw[hz]at c1 c2 C;refine{_,z.1,@aF,a,@jA,?_,c1,c2,C,L,?_,?_,?_};rw[ie];.rw[ao,bh];simp
 .rw[h2.1,aSp]
 .intro y D;let{d1,d2,d3}:=c y (aR,D);exact{(D,g _ _ d1,d1),d2.updU d3 j,d3}
structure iO(C:aa)(H:Hp)(p W v:aa)(n:Nat)(sv:Bool)(rf:Int)(I J:aq)(tm:Int)(ms:@Q)(M:ax)(os:@dy):@u where
 ins:∃dx mv,(bj,(ad,@Jm))/\Mv H mv M
 moves:dC H W ms
 outer:@it
 ne:W≠v
 hM:bH n M
 hms:∀h∈ms,@aB
 hos:∀o∈os,bH n o.1/\∀k,o.2=some k->@qP
 h0:0<n
 hn:@aQ
 deep:@et<=20
def vx{h:ax}(H:@aB)(h0:0<n):@e6:=λe=>by have:=H.len;rw[bm];simp at this;omega
def iO.same{C:aa}{H H':Hp}{p W v:aa}{n:Nat}{sv:Bool}{rf:Int}{I J:aq}{tm:Int}{ms:@Q}{M:ax}{os:@dy}(R:iO C H p W v n sv rf I J tm ms M os)(s:@ab):iO C H' p W v n sv rf I J tm ms M os:=by let{{dx,mv,a,b},c,d,e,f,g,h,i,j,k}:=R;exact{{dx,mv,@dw,b.same s},c.same s,d.same s,e,f,g,h,i,j,k}
def iO.re{H H1:Hp}{p:aa}{rf:Int}{tm:Int}{ms:@Q}(R:iO C H p W v n sv rf I J tm ms M os)(s:@cB){o:aa}{q:ax}{rf':Int}{wn' wd':aq}{tm':Int}(m':Mv H1 o q)(l:bH n q):iO C (gU,nZ n sv rf' W o wn' wd' tm' v) p W v n sv rf' wn' wd' tm' ms q os:=by let{{m,mv,a,b},c,d,e,f,g,h,i,j,k}:=R;have a1:=@dw;exact{{dx,o,ao,m'.updI a1},(c.same s).updI a1,(d.same s).updI a1,e,l,g,h,i,j,k}
def cw.refl{p:aa}(H:Hp):(bb,H):=λ_ _ h _ _ _=>h
def cw.upd1{p:aa}{H H1:Hp}(k:(bb,H1)):(bb,ag H1 p o):=(m5,Z)
def cw.upd2{p:aa}{H H1:Hp}(k:(bb,H1)):(bb,ag H1 W o):=(m5,h2)
def cw.upd3{p:aa}{H H1:Hp}(k:(bb,H1)):(bb,ag H1 v o):=(m5,h3)
def cw.of{p:aa}{H H1 H2:Hp}(k:(bb,H1))(s:@jb):(bb,H2):=λb u e Z h2 h3=>(as,@xd)
def cw.ofS{p:aa}{H H1 H2:Hp}(s:@cB)(k:cw p W v H1 H2):(bb,H2):=λb u e Z h2 h3=>k b u (as,e) Z h2 h3
def cw.tr{p:aa}{H H1 H2:Hp}(k:(bb,H1))(k2:cw p W v H1 H2):(bb,H2):=λb u e Z h2 h3=>k2 b u @xd Z h2 h3
abbrev aao:aY:=(ea,0)
def aBY:(bf,@sf,@sf,aao):=@D
def aap(C:aa):Sp:=λvs H Q _=>∃(p dx:aa)(n:Nat)(sv:Bool),vs=[@ao,@dd,.bl sv]/\@n3/\0<n/\@aQ/\∀(H':Hp)(W v:aa),iO C H' p W v n sv 0 "handling" "" 0 [] @b8 []->(I,W)->(I,v)->@n_->Q @cI H'
def aBZ(F:(jf,"Reading.__init__",aao))(T:@fi)(sD:@lV):(ae,2,@sf,aap C):=by
 refine(h,aBY,@C);.let{p,dx,n,sv,rfl,_}:=h;rfl
 .let{p,dx,n,sv,rfl,hp,h0,hn,q0}:=h;rw[bc,@lh,(aZ,@E),(ec,aE,@bg,(ec,(dp,sD),cR,(ec,cR,aE,ay @nO)))];rw[gY,@qD];rw[b8,ao,T.several,1];rw[aW,ao,@qE,2];rw[pB,pB];have t:(hu,H,@q1):=(f9,h);have h3:=(mc,p,(ad,@q1));have O:=(sY,H,(ad,@q1));generalize ag H p (ad,@q1)=H3 at*;rw[ax,λW x=>?_];have s4:=(bM,H3,x);have m4:=(aG,H3,W,[]);have h4:=(bB,h3);have j:=λb=>iN (H:=H3) (p:=W) (o:=.lst []) (b:=b);generalize(an,H3,W,[])=H4 at*;have y:W≠p:=λe=>by rw[e,h3]at x;cases x
  refine(e,p,C,dx,_,@d,h4,@V,T.moves,(el,3),?_);have h5:=ao (H:=H4) (a:=p) (o:=(ad,@sp));have m5:(aa,(dj,H4,@sp,W),[]):=(D,y,m4);have Y:=(sY,H4,(ad,@Ik));have k5:(hu,H4,@sp):=(f9,(bB,t b o h hb));generalize ag H4 p (ad,@Ik)=H5 at*;refine(e,n,@d,h0,hn,λH6 mv s6 fO m6=>?_);have h6:=s6 _ _ h5;rw[aW,h6,@hy,4];rw[cY,5];refine(ef,p,C,dx,ao,@V,@kd,(el,6),?_);rw[aW,ao,@wy,7];rw[pB,pB,pB];rw[ax,λv B=>?_];let{l,d}:=iN B;have q:=s6.free l;let{r,_}:=Y v q;let{u,g}:=j v r;let{i,_}:=O v u;let{z,_}:=O W x;rw[dT,@vQ,@nr,8];have k:=s6 _ _ m5;refine q0 _ W v {{dx,mv,ao,?_},@z4,@z4,g.symm,My.mS n,@hW,@hW,h0,hn,@aO} z i ?_;.have a1:=m6.updI (o:=(ad,@Ix)) h6;have M:=a1.same (bM,_,B);exact M.updI (C:=C) (dx:=dx) (fs:=@Ix) (D,@vQ,ao)
  .rw[aA y,aA g.symm,aA y];exact k
  rw[ay,aA d,ao]
  .intro b o hb c;have C8:b≠v:=λe=>by rw[e,i]at hb;cases hb
   rw[aA c,aA C8,aA c];exact s6 _ _ (k5 b o hb c)
abbrev aaq:aY:=(ea,9)
def aB0:(cy,(aC,"move"),"move",aaq):=@D
def Of(C:aa):Sp:=λvs H Q _=>∃(p W v l:aa)(n:Nat)(sv:Bool)(rf:Int)(I J:aq)(tm:Int)(ms:@Q)(M h:ax)(os:@dy),vs=[@ao,@bb]/\iO C H p W v n sv rf I J tm ms M os/\@fZ/\@aB/\(gm,iO C H' p W v n sv rf I J tm ms (aK M h) os,(bb,H'))
def aB1(F:(o,"add_move","Reading.add_move",aaq))(T:@fi)(G:@oE):(ae,2,(aC,"move"),Of C):=by
 refine(h,aB0,@C);.let{p,W,v,l,n,sv,rf,I,J,tm,ms,M,h,os,rfl,_}:=h;rfl
 .let{p,W,v,l,n,sv,rf,I,J,tm,ms,M,h,os,rfl,R,hl,hh,q0}:=h;rw[bE];rw[a4,ay (aZ,(bN,G,@B))];refine(e,p,C,dx,_,(c5,hp,@V,@hy,mv,l,M,h,@d,fO.toS,hl,(d,hh.len,R.hn),(d,R.hM.len,My.nI hh),λH1 p1 Y m1=>?_));rw[aW,(aV,hp),@hy,9];exact q0 _ (R.re (dx:=dx) Y m1 (My.jl @eu hh)) @DN
abbrev aar:aY:=(ea,5)
def aB2:(cy,(aC,"number"),"number",aar):=@D
def alN(C:aa):Sp:=λvs H Q _=>∃(p W v:aa)(n:Nat)(sv:Bool)(rf:Int)(I J:aq)(tm:Int)(ms:@Q)(M:ax)(os:@dy)(k:Nat),vs=[@ao,@id]/\iO C H p W v n sv rf I J tm ms M os/\(@qP->(fA,iO C H' p W v n sv rf "bracket" J k ms M os))/\(¬@qP->@hl)
def aB3(F:(o,"take_times","Reading.take_times",aar))(T:@fi)(G:@bT):(hr,"number",alN C):=by
 refine(h,aB2,@C);.let{p,W,v,n,sv,rf,I,J,tm,ms,M,os,k,rfl,_}:=h;rfl
 .let{p,W,v,n,sv,rf,I,J,tm,ms,M,os,k,rfl,R,O,q2}:=h;rw[bE];rw[bs,(dT,(go,@B,G.MOST_TIMES)),@lh,@ry,g_];refine@od;.exact q2 (λh=>@dY)
  .have hk:@qP:=by
    rcases dH 1000000000000 k with h|h;.exact absurd (bq (v,@av>1000000000000)) hc
    .exact h
   rw[b8,hp,@wy,9];rw[cY,9];rw[pB];exact O hk _ @Fw (cw.refl H).upd1
abbrev aas:aY:=(ea,6)
def aB4:(kw,aas):=@D
def alO(C:aa):Sp:=λvs H Q _=>∃(p W v:aa)(n:Nat)(sv:Bool)(rf:Int)(I J:aq)(tm:Int)(ms:@Q)(M:ax)(os:@dy)(x:aq),vs=[@ao,@eo]/\iO C H p W v n sv rf I J tm ms M os/\(x="every"->(fA,iO C H' p W v n sv rf I J tm ms (aK M (xJ n)) os))/\(x="back"->(fA,iO C H' p W v n sv rf "bracket" J (-1) ms M os))/\(@Dp->(fA,iO C H' p W v n sv rf "amount" x tm ms M os))/\(x≠"every"->x≠"back"->x≠"cut"->x≠"turn"->x≠"deal"->(cj,@K))
def in3(x:aq):wW (V.str x) [V.str "cut",V.str "turn",V.str "deal"]=decide @Dp:=by unfold wW;have e:∀y:aq,mZ (V.str y) (V.str x)=(B,y,x):=λy=>@d;rw[wu,wu,wu,List.any_nil,e,e,e];rw[aD];rw[bU];simp only[mN,bU,mO,or_false];exact(jx,@E4,@E4)
def aB6(F:(o,"take_word","Reading.take_word",aas))(T:@fi)(G:@bT)(a:(bH,"every","size",vq xJ))(y:@BV):(ae,3,(aC,"word"),alO C):=by
 refine(h,aB4,@C);.let{p,W,v,n,sv,rf,I,J,tm,ms,M,os,x,rfl,_}:=h;rfl
 .let{p,W,v,n,sv,rf,I,J,tm,ms,M,os,x,rfl,R,O,q2,q3,N}:=h;rw[bE];rw[bb,(lO,@nX,(jh,a),bN @nX (aQ,(aZ,dB G.BACK),@ry) (ay (bN (bj (inS (K:=K)) @B (jC (ab cR (be,cR,cR))) @qu) (aQ,@lh,@ry) @ru))),g_];rw[bl];rw[fu];rw[V];.refine{_,@d,p,dx,_,@d,hp,@d,(bT,p,C,dx,(s_,hp,λH1 l1 Y _ m1=>?_))};refine{p,W,v,l1,n,sv,rf,I,J,tm,ms,M,xJ n,os,@d,R.same Y,m1,My.L_ n,@Dw};exact O @b6 H2 R2 (cw.ofS Y o2)
  have aI:x≠"every":=@ub;rw[bl];rw[fu];rw[cx];.rw[aW,hp,@wy,9];rw[cY,9];rw[pB];exact q2 (bT cN) _ @Fw (cw.refl H).upd1
  have m:x≠"back":=λh=>cN @h_;rw[b_,(dA,3<=a7),@rl];have Y:=(d7,[.str "cut",.str "turn",.str "deal"],H,ht);refine(dK,t,_,@d,.inr @mi);rw[af @Z,in3];rw[aE,λj=>?_,λj=>?_];.rw[eo];rw[b8,cK,@kd,9];rw[cY,9];rw[pB];exact q3 (bT j) _ (R.re (dx:=dx) Y (fO.same Y) @eu) @DN
  .have h3:¬@Dp:=λh=>j @h_;exact N aI m (λh=>h3 @fN) (λh=>h3 (.inr @fN)) (λh=>h3 (az,h)) _ Y
abbrev aat:aY:=(ea,3)
def aB7:(kx,aat):=@D
def yx(x:aq)(n k:Nat):ax:=(cv,x,"cut",@cm,x,"turn",gK n k,Dy n k)
def alP(C m:aa):Sp:=λvs H Q _=>∃(p W v q:aa)(n:Nat)(sv:Bool)(rf:Int)(I J:aq)(tm:Int)(ms:@Q)(M:ax)(os:@dy)(x:Pc),(ci,@bi,iO C H p W v n sv rf I J tm ms M os,@vh,@Cz->(fA,iO C H' p W v n sv rf "handling" J tm ms (aK M @vj) os),¬@Cz->@hl)
def aB8(F:(o,"take_amount","Reading.take_amount",aat))(T:@fi)(TP:wY K m)(AY:@vy)(JZ:@Cf)(c:(Z,"deal",["size","number"],2,vt Dy))(y:@BV):(ae,3,(aC,"piece"),alP C m):=by
 refine(h,aB7,@C);.let{p,W,v,q,n,sv,rf,I,J,tm,ms,M,os,x,rfl,_}:=h;rfl
 .let{p,W,v,q,n,sv,rf,I,J,tm,ms,M,os,x,rfl,R,{b,sq,U,_,_},O,q2}:=h;rw[bE];rw[a8,(sn,(ao,j4,@dP,@aC)),(bF,(oR,AY,(oR,JZ,(ew,y,(bN,c,@dP)))),(aZ,cR),@ru)];rw[bQ,@us,@nk];.refine(e,q,m,b,_,(a5,U,@hz,@qI,@d,@d,@d,?_));rw[fu];exact k
  rw[mp];rw[V];rw[nk,(@Fv)];have hk:@Cz:=by have Z:(F,@us||@nk):=@h7;rw[xP,age,bU,l9]at Z;exact{Z.1,@e}
  rw[go,@kd];rw[fu];rw[aE,λhw=>?_,λhw=>?_];.rw[E,@vj,cS n @bJ,by unfold yx;rw[ai (bT hw)]];rw[e]at O;refine(e,p,dx,_,@d,hp,@d,_,@d,p,C,dx,_,@Dr);rw[h0,My.jK @iz @iC];rw[cn];rw[gu];exact@C_
  have a:¬J="cut":=λh=>hw @h_;rw[go,@kd];rw[fu];rw[aE,λmw=>?_,λmw=>?_];.rw[E,@vj,gK n @bJ,by unfold yx;rw[af a,ai (bT mw)]];rw[e]at O;refine(e,p,dx,_,@d,hp,@d,_,@d,p,C,dx,_,@Dr);rw[h0,My.qr @iz];rw[cn];rw[gu];exact@C_
  .rw[E,@vj,Dy n @bJ,by unfold yx;rw[af a,af (λh=>mw @h_)]];rw[e]at O;refine{_,@d,p,dx,_,@d,hp,@d,_,@d,p,C,dx,_,@Dr};rw[h0,My.Ra @iz];rw[cn];rw[gu];exact@C_
def kY.len{K:aM}{H:Hp}(O:@it):∃ys,(ag,v,ys)/\@dG=@et:=by let{zs,a,b,_}:=O;exact{_,a,(hl,b)}
abbrev aau:aY:=(ea,4)
def aB9:(kx,aau):=@D
def alQ(C m:aa):Sp:=λvs H Q _=>∃(p W v q:aa)(n:Nat)(sv:Bool)(rf:Int)(I J:aq)(tm:Int)(to:@fx)(ms:@Q)(M:ax)(os:@dy)(x:Pc),(ci,@bi,iO C H p W v n sv rf I J tm ms M os,@vh,tm=vw to,@KU/\(@C9->(fA,iO C H' p W v n sv rf "handling" J tm ms @b8 @CC))/\(¬@C9->@hl))
def aB_(F:(o,"take_bracket","Reading.take_bracket",aau))(T:@fi)(TP:wY K m)(B:@ad)(G:@bT)(sD:@lV):(ae,2,(aC,"piece"),alQ C m):=by
 refine(h,aB9,@C);.let{p,W,v,q,n,sv,rf,I,J,tm,to,ms,M,os,x,rfl,_}:=h;rfl
 .let{p,W,v,q,n,sv,rf,I,J,tm,to,ms,M,os,x,rfl,R,{b,sq,U,_,_},d,yJ,O,q2}:=h;subst d;rw[bE];rw[eT];rw[bc,(sn,(dC,@c0,dB G.DEEPEST)),(ft,(b3,@aC,@aC)),(ec,(jh,sD),cR,@ru)];rw[bQ,!(B,@be,"("),(B,@et,20)];rw[iQ];.rw[kN];rw[ft,cP,(fy,(u,@et),20,@et,20)];exact k
  have i:=R.deep;rw[V];rw[nk,cG (v,¬@et=20)];have hk:@C9:=by have Z:(F,!(B,@be,"(")||(B,@et,20)):=@h7;rw[xP,age,bU,l9]at Z;exact{Z.1,@e}
  rw[hE];refine(e,p,C,dx,_,(a5,hp,@V,@nr,@d,(X,hy),(d3,p,hp,@V,@hy,@d,_,@d,p,C,dx,_,_,@d,hp,@V,@wy,@d,@b3,@rl)));have Y:=(aK,@z3,H,ht);have t1:=(mc,t,@z3);generalize ag H t @z3=H1 at*;let{c,r,S,D}:=(R.outer.same Y).push t1 (fO.same Y) L;have X:=R.outer.same Y;refine{v,c,_,(cU,r,(d,S,@a2))};rw[jS,(aV,hp)];have R2:iO C @Eb p W v n sv rf I J (vw to) ms M @CC:={{dx,mv,(D,z,(aV,hp)),(fO.same Y).updU L X},(R.moves.same Y).updU R.ne X,D,R.ne,@eu,R.hms,λo N=>by rcases de.1 N with e|e;rw[s,e,{@eu,yJ}];.exact R.hos o e,@iC,R.hn,@aS};have o2:(bb,@Eb):=((cw.refl H).of Y).upd3;rw[bo,v,(bK,c,t)];rw[cn];rw[kP];rw[ch,(ac,b7),@hy,9];rw[ch,ao,@kc,9];rw[pB];exact@H0
abbrev aav:aY:=(ea,7)
def aaw:(aq,["self","ahead","within"],"self",aav):=@D
def alR(C:aa):Sp:=(se,(hq,iO C H p W v n sv rf I J tm ms M os,(os=[]->@hl)/\(∀o V,os=o::V->(fA,iO C H' p W v n sv rf I J tm ms (aK o.1 (x4 o.2 M)) V))))
def aCa(F:(o,"end_bracket","Reading.end_bracket",aav))(T:@fi)(B:@ad)(G:@bT)(adv:@Fs)(aH9:(Z,"repeated",["move","times"],2,akz))(y:@BV):(ae,3,["self"],alR C):=by
 refine(h,aaw,@C);.rw[ki];rfl
 .let{p,W,v,n,sv,rf,I,J,tm,ms,M,os,rfl,R,O,q2}:=h;rw[bE];rw[eT];rw[bc,(dT,(bL,@c0)),(cn,aaw.nd,(iB,@aC)),(bR,2,aaw.nd,@aC,(aZ,@rG),(bu,(lO,(dC,@rG,dB G.BACK),(gf,adv),(ew,y,(cK,aH9,@rG))),g_))];rw[kN];rw[cP];cases os with
  |nil=>exact cq (O @d)
  |cons o os=>
   rw[aE,λhc=>absurd (V.int.inj @b6) @aS,@gC];rw[hE];let{Dh,iu}:=R.hos o @v;have Z:=R.outer;let{c,t,b,r,S,zh,ht,Y,q,X}:=R.outer.pop;refine(E,p,C,(fB,hp,@nr,(X,r),v,c,@c1,@d,@d,r,zh,?_));rw[jS,hp];have m:t≠v:=λe=>by rw[e,r]at ht;cases ht
   have pX:(bE,H,v,@nC,t)=some @Ev:=(D,m,ht);have cK:(cA,(bE,H,v,@nC,p),@Jm):=(D,z,hp);have l:=fO.updU (o:=.lst @nC) L Z;have u:=Y.updU (o:=.lst @nC) q Z;have d:iO C @J1 p W v n sv rf I J tm ms M os:={⟨dx,mv,cK,l⟩,R.moves.updU R.ne Z,X,R.ne,@eu,R.hms,λx hx=>R.hos x (f6 _ hx),@iC,R.hn,by have:=R.deep;simp at this;omega};have o1:(bb,@J1):=(cw.refl H).upd3;rw[cm,v,@nC];refine(E,p,C,(bh,dx,_,cK,@V,@hy,@d));refine{_,@d,t,_,_,(ef,@d,b_.of pX,@d,p,(dD,cK,@hy,9))};have R2:iO C @t3 p W v n sv rf I J tm ms o.1 os:=d.re (dx:=dx) (ae.refl H1) u Dh;have U:(dj,H1,@wv,t)=some @Ev:=(D,(λe=>by rw[e,cK]at pX;cases pX),pX);have g:=l.updI (o:=(ad,@wv)) cK;have o2:(bb,@t3):=o1.upd1;have b7:=(i9,p,(ad,@wv));show pC _ _ _ _ @t3;generalize@t3=H2 at*;refine(e,t,_,_,_,@d,@d,b_.of U,@hL);rw[ft];have q3:=q2 o os @d;cases N:o.2 with
   |none=>rw[N]at q3;rw[bK];refine(e,(hN,dx,b7,mv,M,n,@d,g,@eu,@iC,R.hn,λH3 j s3 m3=>?_));refine{p,W,v,j,n,sv,rf,I,J,tm,(qZ,My.oF @eu)};exact@Go
   |some k=>
    rw[N]at q3;have hk:=iu k N;rw[cR];.have:@av=-1:=@b6;omega
    rw[N]at U;refine(e,p,dx,_,@d,b7,@d,_,@d,_,@d,t,_,_,_,@d,@d,b_.of U,@d,mv,M,n,k,@d,g,@eu,@iC,R.hn,hk,λH3 j s3 m3=>?_);refine{p,W,v,j,n,sv,rf,I,J,tm,(qZ,(d,My.LO @eu hk,My.sS @eu _))};exact@Go
abbrev aax:aY:=(ea,8)
def aCb:(jy,aax):=@D
def alS(C:aa):Sp:=(se,vs=[@ao]/\iO C H p W v n sv rf I J tm ms M os/\@rh<=1000/\(@CB->(fA,iO C H' p W v n sv rf I J tm (ms++[M]) @b8 os))/\(¬@CB->@hl))
def aCc(F:(o,"end_handling","Reading.end_handling",aax))(T:@fi)(B:@ad)(sD:@lV):(eu,"self",alS C):=by
 refine(h,aCb,@C);.rw[ki];rfl
 .let{p,W,v,n,sv,rf,I,J,tm,ms,M,os,rfl,R,jw,O,q2}:=h;rw[bE];rw[eT];rw[bs,(iM,(dR,@aC),(gN,@c0)),(ft,@aC),(aZ,(jh,sD)),g_];rw[bQ,! sv,@AL];.exact(e,p,C,dx,_,_,@d,hp,@V,T.several,@d,_,@d,k)
  .rw[gC,@nr,v,hy];rw[cP,(fh,(e1,@et,0),@AL)];exact k
  rw[V];.refine q2 @b_;rw[h.1,h.2]at hc;cases hc
  have hk:@CB:=by have Z:(F,! sv||@AL):=@h7;rw[xP,age,l9]at Z;exact{Z.1,o5.1 @e}
  rw[hE];let{c,r,S,M2}:=R.moves.snoc fO L;refine{_,(d3,p,hp,@V,T.moves,@d,(X,r),_,@d,p,C,dx,_,_,@d,hp,@V,@hy,@d,W,c,_,@d,@d,r,(d,S,dA jw),?_)};have y:p≠W:=λe=>by rw[<-e,hp]at r;cases r
  have R2:iO C @Ai p W v n sv rf I J tm (ms++[M]) M os:={{dx,mv,(D,y,hp),fO.updM L R.moves},M2,R.outer.updM R.moves R.ne,R.ne,@eu,λh hh=>by
   rcases bz.1 hh with e|e;.exact R.hms h e
   rw[a5,e,@eu],R.hos,@iC,R.hn,R.deep};have o2:(bb,@Ai):=(cw.refl H).upd2;generalize@Ai=H2 at*;rw[cn];rw[kP];rw[ch,(ac,b7),@hy,9];exact@H0
def aay{t u:TE}{H:Hp}(a b:Bool)(Z:@ED)(h2:a=@h->(iN,@f3,u σ H Q'))(h:(c0,a&&b)):ai1 t u σ H Q:=(kD,(aD,a,?_),@B0,h)
def aCd{D:Ends}{H:Hp}(h:te σ H D.rt):Sw te D σ H:=h
def aaz(a:Nat):aq:=(jv,a,"cut",a,"turn","deal")
def alT(I J:aq)(tm:Int):Rb->@u|.hand=>I="handling"|.amount a=>I="amount"/\J=aaz a|.bracket to=>I="bracket"/\tm=vw to/\@KU
def IW(C:aa)(n:Nat)(sv:Bool)(rf:Int)(j:Nat)(H:Hp)(p:aa)(own:@bh)(s:Rs):@u:=∃W v I J tm,iO C H p W v n sv rf I J tm s.moves s.mc.mv s.mc.outer/\alT I J tm s.mc.want/\(∀c,own c↔@xz)/\s.moves.length<=j
def aCe(C:aa)(n:Nat)(sv:Bool)(rf:Int):Rdr C @BX:=by
 rw[ab,?_,?_];.rintro j H p own s⟨W,v,I,J,tm,R,_⟩;let{dx,mv,hp,_}:=@kq;exact(Q,dx,_,hp,@d)
 .rintro j H p own s⟨W,v,I,J,tm,R,_,N,_⟩c hc;let{dx,mv,hp,_}:=@kq;let{zs,hm,_}:=R.moves;let{L,hu,_}:=R.outer;rcases(N c).1 hc with e|e|e;rw[cr,hp];rw[cr,hm];rw[cr,hu]
 .rintro j H H' p own s⟨W,v,I,J,tm,R,a,b,c⟩hs;exact{W,v,I,J,tm,R.same hs,a,b,c}
def vy{l:@o}{s:aq}(h:s.cps.toList=l):vo t=s↔t=l:=by
 constructor;.intro e;rw[<-h,<-e];rfl
 .intro e;cases s with|mk c=>have:c.toList=l:=h;unfold vo;rw[e,<-this]
def alU:(du,"cut","cut"):=@aG
def alV:(du,"turn","turn"):=@aG
def alW:(du,"deal","deal"):=@aG
def alX:(du,"every","every"):=@aG
def alY:(du,"back","back"):=@aG
def n0{x:Pc}(h:@gM):@b7=.word @d4:=by unfold tokOf;rw[ai h]
def t_{x:Pc}(h:@nh):@b7=@xO:=by unfold tokOf;rw[h,(@bL),(@ax)]
def w_{x:Pc}(h:@lk):@b7=@fM:=by unfold tokOf;rw[h,(@bL),(@bL),(@ax)]
def yA{x:Pc}(h:@ng):@b7=@iZ:=by unfold tokOf;rw[hO,h]
def CA{x:Pc}(h:@qO):@b7=@f9:=by unfold tokOf;rw[h,(@bL),(@bL),(@bL),(@bL),(@ax)]
def Ay{x:Pc}(Z:(dq,"word"))(h2:@y1)(h3:(dq,"("))(h4:(dq,")"))(h5:(dq,";")):@b7=@eP:=by unfold tokOf;rw[np]
def alZ{x:Pc}(h:@y1):∀k,@b7≠.num k:=by intro k q;by_cases Z:@gM;rw[bi,n0 Z];by_cases h3:@lk;rw[bi,w_ h3];by_cases h4:@ng;rw[bi,yA h4];by_cases h5:@qO;rw[bi,CA h5];rw[Ay Z h h3 h4 h5]at q;cases q
def al0{x:Pc}(h:(dq,"(")):@b7≠@fM:=(rP,@ng,yA h4,h,h4)
def aCf{x:Pc}(h:(dq,")")):@b7≠@iZ:=(rP,@lk,w_ h4,h4,h)
def al1{x:Pc}(h:(dq,"word")):∀l,@b7≠.word l:=by intro l q;by_cases h3:@nh;rw[bi,t_ h3];by_cases h4:@lk;rw[bi,w_ h4];by_cases h5:@ng;rw[bi,yA h5];by_cases h6:@qO;rw[bi,CA h6];rw[Ay h h3 h4 h5 h6]at q;cases q
def aCg(n a k:Nat):yx (aaz a) n k=@lP:=by
 unfold yx aaz wH;by_cases h0:a=0;.rw[ai h0,(@ax),ai h0]
 .by_cases Z:a=1;.rw[af h0,ai Z,(@bL),(@ax),af h0,ai Z]
  .rw[af h0,(@cl),(@bL),(@bL),af h0,(@cl)]
abbrev aaA:aY:=(ea,2)
def aCh:(jy,aaA):=@D
def aCi{rf:Int}(F:(o,"may_end","Reading.may_end",aaA))(T:@fi)(B:@ad):(bp,"self",aak @BX pA):=by
 refine(h,aCh,@C);.let{j,p,own,s,rfl,_}:=h;rfl
 .let{j,p,own,s,rfl,{W,v,I,J,tm,R,hw,_,_},q0}:=h;rw[bE];rw[eT];rw[an,tK (b7,@aC,cR) (rO (b7,@c0,aE))];refine aay @Bf @y_ @ey (λ_ Q' k=>?_) (q0 H @bj)
  .refine{_,@d,p,C,dx,(jz,hp,@V,@kc)};rw[fu];have:(B,I,"handling")=@Bf:=by cases hs:s.mc.want with|hand=>rw[kC,"handling"]|amount a=>rw[fs,hw.1]|bracket to=>rw[fs,hw.1]
   rw[aa];exact k
  .refine(E,p,C,(fB,hp,@nr,v,_,@d,(aJ,hy),@d,?_));rw[ft,cP,(fh,(gO,(u,s.mc.outer.length)),@y_)];exact k
abbrev aaB:aY:=(ea,1)
def aCj:(kx,aaB):=@D
def aCk{rf:Int}(F:(o,"take","Reading.take",aaB))(T:@fi)(TP:wY K m)(Y:(bZ,"take_amount","piece",3,alP C m))(X:(bZ,"take_bracket","piece",2,alQ C m))(z:(bZ,"take_times","number",1,alN C))(y:(bZ,"take_word","word",3,alO C))(aIh:(jk,"end_handling",2,alS C))(r:(jk,"end_bracket",3,alR C)):(ae,4,(aC,"piece"),aaj m @BX (iX n sv)):=by
 refine(h,aCj,@C);.let{j,p,q,own,s,x,rfl,_}:=h;rfl
 .let{j,p,q,own,{ms,{M,want,os}},x,rfl,{W,v,I,J,tm,R,hw,N,jw},U,G,hj,q0}:=h;dsimp only at R hw jw;rw[bE];let{b,sq,g,B,O8}:=id U;rw[jC,(bb,H'),o c u h (kb,@g4) (kb,.inr @g4) (kb,(az,e))];have yes:∀(s':Rs),@Fc=some s'->∀H' wn' wd' tm',iO C H' p W v n sv rf wn' wd' tm' s'.moves s'.mc.mv s'.mc.outer->alT wn' wd' tm' s'.mc.want->s'.moves.length<=@aj->(bb,H')->Q @gE H':=by intro s' hs H' wn' wd' tm' R' w' l' o';have k:=q0 H' own (O H' o') @wT;rw[hs]at k;exact k ⟨W,v,wn',wd',tm',R',w',N,l'⟩
  rw[k5,@Fc,{W,v,I,J,tm,R.same s',hw,N,by show@rh<=_;omega}];rw[bc,(mL,Y),(mL,X),(bF,(oC,z),(oC,y),(bu,(aL,(bX,@dP),Fa aIh @cf @Y),tK (b7,@dP,cR) (rO (Fa r @cf @Y))))];rw[c2];rw[fu];cases want with
  |amount a=>
   let{rfl,rfl}:=hw;rw[cD,@eG];refine(E,p,dx,_,@d,hp,@d,_,@d,p,W,v,q,n,sv,rf,_,_,tm,ms,M,os,x,@d,R,U,λhk H' R' o'=>?_,λhk=>?_);.rw[aCg]at R';rw[du,(br,aK M (wH n a @bJ),os),@d];rw[t_ hk.1];exact My.wQ (show me n {M,.amount a,os} @xO=_ by unfold me;dsimp only;rw[ai @iz])
   .rw[db,(by cases h.2.1)];by_cases hn:@nh;.rw[t_ hn];rw[aC,(bo,@bJ<=n)];rw[b3,hk ⟨hn,h⟩]
    rw[mx]
  |bracket to=>
   let{rfl,rfl,yJ}:=hw;rw[c7];rw[c2];rw[fu];rw[cD,@eG];refine{_,@d,p,dx,_,@d,hp,(cO,p,W,v,q,n,sv,rf,_,_,_,to,ms,M,os,x,@d,R,U,@d,yJ,λhk H' R' o'=>?_,λhk=>?_)};.rw[du,(br,@b8,@CC),@d];rw[w_ hk.1];exact My.wQ (show(bo,(W,40)=40/\@AB)=_ by rw[ai (al,@iz)])
   .rw[db,(by cases h.2.1)];by_cases hn:@lk;.rw[w_ hn];rw[aC,(bo,(W,40)=40/\@AB)];rw[b3,hk ⟨hn,h.2⟩]
    .have ck:=al0 hn;cases ht:tokOf x with|num k=>rfl|word _=>rfl|sign c=>rw[eG,@AB];rw[b3,ck (r,ht,h.1)]|wrong=>rfl
  |hand=>
   obtain rfl:=hw;rw[c7];rw[c2];rw[fu];rw[c7];rw[c1];rw[fu];rw[V]
   .have hk:@nh:=@b6;refine{_,@d,p,dx,_,@d,hp,@d,_,@d,q,m,b,_,_,@d,g,@hz,@qJ,@d,p,W,v,n,sv,rf,_,_,tm,ms,M,os,@bJ,@d,R,λfG H' R' o'=>?_,λfG=>?_};.rw[dW,.bracket (some @bJ),(fg,λk e=>by cases e;exact fG)];rw[t_ hk];exact My.wQ (show(bo,@uR)=_ by rw[ai (show@uR from fG)])
    .rw[db,(by rw[t_ hk]at h;cases h.2.2.1)];rw[t_ hk];rw[aC,(bo,@uR)];rw[af (show¬@uR from fG)]
   have l:@y1:=@ub;rw[c1];rw[fu];rw[V]
   .have hk:@gM:=@b6;have i:=G.word hk;refine{_,@d,p,dx,_,@d,hp,@d,_,@d,q,m,b,_,_,@d,g,@hz,TP.nW,@d,p,W,v,n,sv,rf,_,_,tm,ms,M,os,@pO,@d,R,@s3,@s3,@s3,λZ h2 h3 h4 h5 H' s'=>?_};.rw[dS,dI "every",(jb,alX)];rw[du,(br,aK M (xJ n),os),@d];rw[(@hb),e];exact My.wQ (by show(h0,"every")=_;unfold My.gr;rw[(@bL),(@bL),(@bL),(@ax)])
    .rw[dS,dI "back",(jb,alY)];rw[dW,.bracket @r,(fg,λk e=>@kn)];rw[(@hb),e];exact My.wQ (by show(h0,"back")=_;unfold My.gr;rw[hO,(@bL)])
    .rcases he with he|he|he;.rw[dS,dI "cut",(jb,alU)];rw[dW,.amount 0,(al,he)];rw[(@hb),e];exact My.wQ (by show(h0,"cut")=_;unfold My.gr;rw[ai @d])
     .rw[dS,dI "turn",(jb,alV)];rw[dW,.amount 1,(al,he)];rw[(@hb),e];exact My.wQ (by show(h0,"turn")=_;unfold My.gr;rw[(@bL),(@ax)])
     .rw[dS,dI "deal",(jb,alW)];rw[dW,.amount 2,(al,he)];rw[(@hb),e];exact My.wQ (by show(h0,"deal")=_;unfold My.gr;rw[(@bL),(@bL),(@ax)])
    .refine no (My.wR ?_ (λh=>by rw[(@hb)]at h;cases h.2.2.1)) H' s';rw[(@hb)];rw[aC,My.gr n (br,M,os) @d4];unfold My.gr;rw[(fb,h3 (jc,alU)),(fb,h4 (jc,alV)),(fb,h5 (jc,alW)),(fb,Z (jc,alX)),(fb,h2 (jc,alY))]
   have D:(dq,"word"):=@ub;rw[c1];rw[fu];rw[V]
   .have hk:@qO:=@b6;have L:me n (br,M,os) @f9=@r:=rfl;refine{_,@d,p,dx,_,@d,hp,@d,p,W,v,n,sv,rf,_,_,tm,ms,M,os,@d,R,@e,@s3,@sr};.let{rfl,rfl}:=he;refine yes {ms++[M],(br,@b8,[])} ?_ H' _ _ _ R' @d @aS o';rw[CA hk];unfold iX;dsimp only;rw[L];dsimp only;rw[ai @ur]
    .rw[db,he ⟨h.1,h.2.2.2⟩];rw[CA hk];exact L
   have t:(dq,";"):=@ub;by_cases hk:@ng
   .cases os with
    |nil=>
     dsimp only[rP];refine aCd ?_;refine aay @h @K @ey (λ_ Q' k=>?_) ?_;.refine{_,@d,q,m,b,(jz,g,@hz,@qI)};rw[fu,bq hk];exact k
     .exact{_,@d,p,dx,_,@d,hp,(rS,[],λ_=>k,λo V e=>@kn)}
     .rw[db,(by rw[yA hk]at h;cases h.2.2.1)];rw[yA hk];rfl
    |cons o os=>rw[c1];rw[fu,bq hk];rw[bK];refine{_,@d,p,dx,_,@d,hp,(rS,o::os,@q7,λo2 os2 e H' R' o'=>?_)};cases e;rw[du,(br,aK o.1 (x4 o.2 M),os),@d];rw[yA hk];exact My.wQ @d
   .rw[c1];rw[fu,cG hk];rw[aq];refine no (My.wR ?_ @b_) H @bj
    .by_cases d:@lk;.rw[w_ d];rfl
     .rw[Ay D l d hk t];rfl
    .have S:=@kQ;by_cases d:@lk;.rw[w_ d]at S;injection S with e;omega
     .rw[Ay D l d hk t]at S;cases S
def IX(n:Nat):Rs:={[],(br,@b8,[])}
abbrev je(n:Nat)(sv:Bool)(t:@o):Rs×Int:=lM (iX n sv) pA (IX n) t
def IY{H:Hp}{p:aa}(hp:@dK)(hm:(I,W))(hu:(I,v))(h:(P,c,o)):¬@xz:=by rintro(e|e|e);rw[b5,hp];rw[b5,hm];rw[b5,hu]
abbrev aaC:aY:=top 88
def al2:(nl,"reading",aaC):=@D
def Fb(K:aM)(C:aa):Sp:=(pc,@K,@rP,Mv H' mv @z8,bH n @z8)
def aCl(F:(o,"read_handling","read_handling",aaC))(T:@fi)(r:@HW)(CR:(nU,IW C n @K 0,@tE,pA)):(nn,Fb K C):=by
 refine(h,al2,@C);.rw[f9];rfl
 .rw[kl];have O:=CR n;rw[as,al2.nd,@G7,@Bk,(aY,@E)];rw[gc];rw[mi,@K];have D:=(f_,x);have z:=(f_,B);rw[hY];rw[mB];rw[km];rw[cn];rw[ch,b7,@qE,9];rw[my,@rP];rw[am,q0 _ p l k u q I J tm ?_ ao (g.updI b7) R2.hM];intro b o h;rw[aA (du h m)];exact@G5
abbrev aaD:aY:=top 89
def al3:(nl,"reading",aaD):=@D
def al4(K:aM)(C:aa):Sp:=(pc,@h,@mC,dC H' W @HI,(I,W))
def aCm(F:(o,"read_handlings","read_handlings",aaD))(T:@fi)(r:@HW)(CR:(nU,IW C n @h 0,@mW,pA)):(nn,al4 K C):=by
 refine(h,al3,@C);.rw[f9];rfl
 .rw[kl];have O:=CR n;rw[a8,(bP,al3.nd,@G7),(gd,@Bk,(cq,@df,@df),@E)];rw[gc];rw[mi,@h];have D:=(f_,x);have z:=(f_,B);rw[hY];rw[mB];rw[km];rw[cn];rw[ch,b7,@qE,9];rw[my,@mC];have s3:ae H @zB:=by intro b o h;rw[aA (du h m)];exact@G5
  have L:=g.updI (o:=.ins C l @xg) b7;have M:=(f7,p,.ins C l @xg);show pC _ _ _ _ @zB;generalize@zB=H3 at*;let{ys,hy,cP,V}:=U.moves.snoc L (vx R2.hM h0);have G:(I,k):=by
   cases e:H k with
   |none=>rfl
   |some o=>
    exfalso;rcases g2 k ((iu k).2 (.inr (.inl rfl)))with h|h;.exact IY m D z e h
    rw[bM,(aV,e)]
  refine(bT,p,C,l,M,@V,T.moves,@d,(X,hy),_,@d,p,C,l,_,_,@d,M,@V,@hy,@d,k,ys,_,@d,@d,hy,(d,cP,@a2),?_);have y:p≠k:=λe=>by rw[<-e,M]at hy;cases hy
  exact(am,q0 _ p l k u q I J tm (cF s3 G) (D,y,M) V G)
structure Og(P:cE)(w:cn)(K:aM)(mg:@aT)(aN aB:aa):@u extends@bT,DicC P w K mg aN aB
def fg:Wt->aq|.par=>"("|.orW=>"or"|.andW=>"and"|.notW=>"not"
def aaE{a b:Wt}(h:fg a=fg b):a=b:=by cases a<;>cases b<;>first|rfl|(rw[al,h,@aG])
def al5(x:Wt):cB Vm (.inr (fg x))=some (a7,eE x):=by cases x<;>decide+kernel
def kW(k:Nat):aq:=(jv,k,"up",k,"even","like")
def vz(n:Nat)(rf:Int)(st:aa)(I J:aq)(L X:aa):@cU:=[@AC,("refusal",.int rf),("steps",.ref st),("wanted",.str I),@BE,("cards",.ref L),("waiting",.ref X)]
structure r8(K:aM)(C:aa):@u where
 cl:@fk
 size:(ak,"size")
 refusal:(ak,"refusal")
 steps:(ak,"steps")
 wanted:(ak,"wanted")
 word:(ak,"word")
 cards:(ak,"cards")
 waiting:(ak,"waiting")
def al6{H:Hp}{q D:aa}{xs:@F}{u:HO}(hD:(P,D,u))(Z:∀ys,u≠@hU)(h2:∀b v,u≠.frz b v)(h:(cc,q,xs)):b_ K @dB q xs:=by rcases h with(h|⟨b,h⟩)|h;rw[fa,.inl ?_,(rc,Z _ (bZ h))];rw[fa,(a_,b,?_),(rc,h2 _ _ (bZ h))];rw[ac,h]
def pJ.updO{H:Hp}{D:aa}{u:HO}(h:(gt,l))(aI:l≠D)(hD:(P,D,u))(Z:∀ys,u≠@hU)(h2:∀b v,u≠.frz b v):pJ K @dB l ss:=by let{zs,a,b,c}:=h;refine{zs,@rZ,b,λz mz=>{eY,?_}};let{_,q,c1,c2}:=c z mz;exact{q,(D,λe=>by rw[e,hD]at c1;exact Z _ (bZ c1),c1),al6 hD Z h2 c2}
def pJ.push{H:Hp}{p:aa}{x:Cs}(h:(gt,l))(a:Cv K H p x):(gy,@h6,pJ K @oS l (ss++[x])):=by
 rw[cl];have one:∀(y:aa)(s:Cs),Cv K H y s->Cv K (dh,(bK,@cP,p)) y s:=by rintro y s⟨q,c1,c2⟩;exact{q,(D,(λe=>by rw[e,h]at c1;cases c1),c1),al6 h @qs @qp c2}
 rw[fg];rw[cc];rw[cU];rw[fl,{eY,one _ _ @qb},eY,one _ _ a]
structure jf(K:aM)(C:aa)(H:Hp)(p st L X:aa)(n:Nat)(rf:Int)(I J:aq)(cs:@o)(ss:@bo)(W:@bM):@u where
 ins:(mb,@HV)
 steps:(gt,st)
 cards:(ag,L,(V,cs))
 wait:(ag,X,@yw)
 n1:st≠L
 n2:st≠X
 n3:L≠X
def lO(p st L X:aa):@bh:=λc=>c=p\/c=st\/c=L\/c=X
def jf.same{C:aa}{H H':Hp}{p st L X:aa}{n:Nat}{rf:Int}{I J:aq}{cs:@o}{ss:@bo}{W:@bM}(R:jf K C H p st L X n rf I J cs ss W)(s:@ab):jf K C H' p st L X n rf I J cs ss W:=by let{{dx,a},b,c,d,e,f,g}:=R;exact{{dx,@dw},b.same Cw s,(as,c),(as,d),e,f,g}
def jf.re{H H1:Hp}{p st L X:aa}{rf:Int}{W:@bM}(R:jf K C H p st L X n rf I J cs ss W)(s:@cB){r:aa}{rf':Int}{wn' wd':aq}{cs':@o}(hc:(aa,H1 r,(V,cs')))(Z:st≠r)(h3:r≠X):jf K C (gU,vz n rf' st wn' wd' r X) p st r X n rf' wn' wd' cs' ss W:=by let{{m,a},b,c,d,e,f,g}:=R;have a1:=@dw;have np:(lS,(aa,H1 q,xs),p):=(lM,a1);have b1:=b.same Cw s;rw[dP,b1];exact{⟨dx,ao⟩,pJ.updO b1 (np _ _ hz) a1 @qs @qp,(D,np _ _ hc,hc),(D,np _ _ (as,d),(as,d)),Z,f,h3}
def Kp.refl{own:@bh}(H:Hp):Kp own H H:=@rk
def Kp.upd{own:@bh}{H H1:Hp}{q:aa}{o:HO}(k:Kp own H H1)(U:own q):Kp own H (ag H1 q o):=λc u hc h=>(D,λe=>hc (cl,U),@CR)
def Kp.of{own:@bh}{H H1 H2:Hp}(k:Kp own H H1)(s:@jb):Kp own H H2:=λc u hc h=>(as,@CR)
def Kp.tr{own:@bh}{H H1 H2:Hp}(k:Kp own H H1)(k2:Kp own H1 H2):Kp own H H2:=λc u hc h=>k2 c u hc @CR
abbrev aaF:aY:=(eK,4)
def aaG:(aq,(aC,"word"),"self",aaF):=@D
def al7(K:aM)(C:aa):Sp:=(qH,(hq,jf K C H p st L X n rf I J cs ss W,@e8<=1000/\(gi,jn W)))
def aCn(F:(o,"depth","Condition.depth",aaF))(T:@hq)(B:@ad):(bp,"self",al7 K C):=by
 refine(h,aaG,@C);.rw[kn];rfl
 .let{p,st,L,X,n,rf,I,J,cs,ss,W,rfl,R,hl,q0}:=h;rw[a7];rw[an,(aS,(j3,[("word",1)],aaG.nd,eQ @aC,(eS,1,aaG.nd),(dS,@nX,@nX),@B))];rw[kO,@gt,X,R.wait];refine oP (λx:Wt=>V.str (fg x)) W.reverse zT @zX (af,jU) hD (aj.of R.wait) @bm @Gq @yi @sT
  .rw[bQ,(B,z,@fH),(B,z,@bE)];.refine(E,@d,_,@d,?_);rw[fu,(ii,(B,fg z,"not")=(B,z,@fH),λe=>aaE (b:=@fH) e,λe=>@jG)];exact k
   .rw[bl];rw[fu,(ii,(B,fg z,"(")=(B,z,@bE),λe=>aaE (b:=@bE) e,λe=>@jG)];exact k
   .have:((B,z,@fH)||(B,z,@bE))=zT z:=by cases z<;>rfl
    rw[this];exact@co
  .refine(cm,D,(aJ,Z));have k:=@iu;unfold jn at k;rw[au,List.filter_reverse,jU];exact k
abbrev aaH:aY:=(eK,8)
def aCo:(kw,aaH):=@D
def Oh(K:aM)(C:aa):Sp:=λvs H Q _=>∃(p st L X:aa)(n:Nat)(rf:Int)(I J:aq)(cs:@o)(ss:@bo)(W:@bM)(x:Wt),vs=[@ao,.str (fg x)]/\jf K C H p st L X n rf I J cs ss W/\@h6+@e8<=1000/\(gm,jf K C H' p st L X n rf I J cs (My.settle (eE x) ss W).1 (My.settle (eE x) ss W).2,@kx)
def aCp(F:(o,"settle","Condition.settle",aaH))(T:@hq)(B:@ad)(G:@vM):(hr,"word",Oh K C):=by
 refine(h,aCo,@C);.rw[f_];rfl
 .let{p,st,L,X,n,rf,I,J,cs,ss,W,x,rfl,R,hl,q0}:=h;rw[a4,ay (tN dh (eB,(gN,@c0),(ao,yj,(oJ,(ji,Ac Ad aE)),(oJ,@B))) (dk,@aC,(b3,(iB,@aC),jC ac)))];refine IU (λ(y:List Cs×List Wt)σ H'=>σ=@K2/\jf K C H' p st L X n rf I J cs y.1 y.2/\@kx/\y.1.length+y.2.length<=1000/\(lx,y.1,y.2)=(lx,ss,W)) (λy=>y.2.length) (ss,W) {@d,R,Kp.refl H,hl,@d} ?_;rintro⟨S,V⟩σ H1⟨rfl,d,k1,vF,e1⟩;dsimp only at d vF e1;let{dx,hp}:=d.ins;have hw:=d.wait;cases V with
  |nil=>rw[gC,@gt,X,hw];rw[aq];rw[<-e1]at q0;exact q0 H1 d k1
  |cons v V=>
   rw[kJ,bh]at hw;rw[gC,@gt,X,hw];rw[g0];refine{_,(d3,p,hp,@V,@gt,@d,1,@d,X,_,_,_,@d,@d,aj.of hw,ajl _ _,.inr (fg v),(a7,@fT),@d,al5 v,_,@d,.inr (fg x),(a7,eE x),@d,al5 x,_,_,@hL)};rw[V]
   .have fG:eE x<=@fT:=@dY;rw[lg,(lx,@z0,V),ai fG];rw[bN,σ'=@K2/\jf K C H' p st L X n rf I J cs @z0 V/\@kx];.rintro σ' H'⟨rfl,R',k'⟩;exact{_,Qq _,(@z0,V),@d,@d,R',k',by simp at vF⊢;omega,(cw,e1,e2)}
    .rw[dP,d.steps];refine{_,(d3,p,hp,@V,T.steps,@d,(X,hz),_,@d,p,C,(fB,hp,@gt,(gB,(X,hw),X,.str (fg v),hw,@v)))};rw[show(@jz++[v].map @Jp).dropLast=@jz by simp];have np:p≠X:=λe=>by rw[<-e,hp]at hw;cases hw
     have pZ:=d.steps.updO (o:=.lst @jz) d.n2 hw @qs @qp;have b7:(cA,(bE,H1,X,@jz,p),@HV):=(D,np,hp);have cN:(aa,(bE,H1,X,@jz,L),(nL cs).map L2.V.int):=@xs;have mw:=(aG,H1,X,@jz);have k2:(j1,(cY,X,@jz)):=k1.upd (az,@dU);rw[bo,X,@jz];rw[ax,@rl];have s3:=(d7,[],H2,ht);have Z:=(f7,t,.tup []);rw[ek,t,.tup []];rw[P,@b3,@nu];have s4:=(aK,@zJ,H3,hu);have u4:=(jT,u,@zJ);generalize ag H3 u @zJ=H4 at*;have l:Cv K H4 u (.op v):={t,by rw[u4];cases v<;>rfl,b_.of (bB,Z)};have sJ:=@f5;let{ys,hy,cP,AM}:=pJ.push (pZ.same Cw sJ) l;refine{st,ys,_,@d,@d,hy,(d,cP,dA (by simp at vF;omega)),@d,{{dx,?_},AM,?_,?_,d.n1,d.n2,d.n3},(k2.of sJ).upd @nt};rw[aK,(oq,sJ _ _ b7),sJ _ _ b7];rw[aK,d.n1.symm,sJ _ _ cN];rw[aK,d.n2.symm,sJ _ _ mw]
   .rw[lg,(S,v::V),af (λh=>(bm,by show(u,eE x)<=@fT;omega))];rw[<-e1,e2]at q0;exact q0 H1 d k1
def al8(W:@bM):wW (V.str "(") @yw=W.contains @bE:=by
 unfold wW;rw[afM,List.any_reverse];rw[aD];rw[PZ,gA];constructor;.rintro⟨y,hy,e⟩;have F:(B,fg y,"(")=@h:=e;have:y=@bE:=aaE (b:=@bE) (bT F);rw[bj];exact hy
 rw[e_,@bE,by show(B,fg @bE,"(")=@h;decide+kernel]
def al9{k:Nat}(hk:k<=2):cB E8 (.inr @dk)=some (a7,jB k):=by rw[fb];rcases this with rfl|rfl|rfl<;>decide+kernel
def aCq{x:aq}(h:@Bs):cB E8 (.inr x)=@r:=by have h0:=h 0 @e;have Z:=h 1 @e;have h2:=h 2 @e;unfold cB E8;have e0:¬(uK "up":aW)=uK x:=λq=>h0 @yx;have e1:¬(uK "even":aW)=uK x:=λq=>Z @yx;have e2:¬(uK "like":aW)=uK x:=λq=>h2 @yx;simp[e0,e1,e2]
def aCr{k:Nat}(hk:k<=2)(cs:@o):My.Cs.claim k cs=(fG,cs)/\@jy=@dk:=by rw[fb];rcases this with rfl|rfl|rfl<;>exact@ds
abbrev aaI:aY:=(eK,0)
def aCs:(cy,(aC,"size"),"size",aaI):=@D
def al_(K:aM)(C:aa):Sp:=λvs H Q _=>∃(p dx:aa)(n:Nat),vs=[@ao,@dd]/\@n3/\∀(H':Hp)(st L X:aa),jf K C H' p st L X n 0 "claim" "" [] [] []->(I,st)->(I,L)->(I,X)->@n_->Q @cI H'
def aCt(F:(jf,"Condition.__init__",aaI))(T:@hq):(hr,"size",al_ K C):=by
 refine(h,aCs,@C);.let{p,dx,n,rfl,_}:=h;rfl
 .let{p,dx,n,rfl,hp,q0}:=h;rw[bc,@lh,(aZ,aE),(ec,@bg,cR,(ec,cR,@bg,ay @nO))];rw[gY,@qD];rw[aW,ao,@qE,1];rw[pB];rw[ax,λst dM=>?_];let{x,i}:=iN dM;rw[dT,i.symm,T.steps,2];rw[cY,3];rw[aW,ao,@kd,4];rw[pB,pB];rw[ax,λL z=>?_];let{y,j}:=iN z;let{u,cast}:=iN y;let{q,_}:=iN u;rw[dT,j.symm,@pL,5];rw[ax,λX g=>?_];let{t,d}:=iN g;let{r,e}:=iN t;let{l,_}:=iN r;let{k,a}:=iN l;let{v,_}:=iN k;rw[dT,@vQ,@gt,6];refine q0 _ st L X {⟨dx,ao⟩,@z4,?_,?_,cast.symm,@uJ,@gA} x q v ?_;.rw[aA i,aA @uJ,aA i,aA cast.symm,aA i,ao];rfl
  .rw[aA j,aA @gA,aA j,ao];rfl
  rw[ay,aA d,ao];.intro b o hb c;rw[aA c,(g3,v),aA c,(g3,q),aA c,(g3,x),aA c];exact hb
abbrev aaJ:aY:=(eK,5)
def aCu:(kx,aaJ):=@D
def ama(K:aM)(C m:aa):Sp:=λvs H Q _=>∃(p st L X q:aa)(n:Nat)(rf:Int)(I:aq)(k:Nat)(cs:@o)(ss:@bo)(W:@bM)(x:Pc),(ci,@bi,jf K C H p st L X n rf I @dk cs ss W,@vh,k<=2,@cT<jB k/\@rE/\(@vD->@nJ=jB k->(ht,jf K C H' p st L X n rf "joint" @dk @iN @B1 W))/\(@vD->@nJ≠jB k->(ht,jf K C H' p st L X n rf I @dk @iN ss W))/\(¬@vD->@hl))
def aCv(F:(o,"take_card","Condition.take_card",aaJ))(T:@hq)(TP:wY K m)(B:@ad)(G:@vM):(hr,"piece",ama K C m):=by
 refine(h,aCu,@C);.let{p,st,L,X,q,n,rf,I,k,cs,ss,W,x,rfl,_}:=h;rfl
 .let{p,st,L,X,q,n,rf,I,k,cs,ss,W,x,rfl,R,{b,sq,U,_,_},D,gH,eI,O,q2,q3}:=h;rw[a7];have y:jB k<=2:=by unfold jB;split<;>omega
  rw[a8,(dT,jd (nV (ao,tO,@dP,cR) (nV (ip,@dP) (oM (ao,j4,@dP,@aC))))),(gd,(ft,@dP),bN (dC,@c0,Nw G.CARDS_NAMED G.CARDS_NAMED_d @aC @cg) (aQ,(ft,(b3,@aC,(kO,@aC))),@ry) bS,g_)];rw[bQ,@us,@t9||@nk];rw[iQ]
  .refine pF @t9 @nk @ey @ey k;.refine(e,(cs,q,m,b,U,@hz,(eU,@qJ)));rw[(fh,(ap,(u,@bJ),1),@t9)];exact k
   rw[mp]
  rw[V];.refine q3 @b_;rw[bq h.1,cG (v,¬@bJ<1),(@Fv)]at hc;cases hc
  have hk:@vD:=by have Z:(F,@us||(@t9||@nk)):=@h7;rw[xP,xP,age,bU,l9,l9]at Z;exact{Z.1,@e,@e}
  have z:=R.cards;have JG:(V,cs)++[(bq,@bJ)]=@hg:=@BT;refine{_,@d,p,C,dx,_,_,@d,hp,@V,@pL,@d,(X,z),(bT,q,m,b,U,@hz,@qJ,(bs,@d,L,z,(bO,j5,@a2)))};rw[JG];have v:p≠L:=λe=>by rw[<-e,hp]at z;cases z
  have cK:(cA,(bE,H,L,@hg,p),@KW):=(D,v,hp);have d:=R.steps.updO (o:=.lst @hg) R.n1 z @qs @qp;have j:=(aG,H,L,@hg);have g:(aa,(bE,H,L,@hg,X),@yw):=(D,R.n3.symm,R.wait);have k1:(j1,(aH,L,@hg)):=(Kp.refl H).upd (az,@aK);rw[cm,L,@hg];have bG:(mD,@iN)=@cT+1:=by rw[au,j5];simp
  refine{_,@d,p,(iz,cK,@pL,@d,L,_,@d,(aJ,j),_,@d,p,(iz,cK,@kd,(gC,@d,.inr @dk,(a7,jB k),@d,al9 D)))};rw[bG,ft];rw[aE,@sr,@sr];.have i:@nJ=jB k:=(b_,bT he);rw[dP,d];refine(e,(cs,p,C,dx,cK,@V,T.steps,@d,(X,hz),_,@d,p,C,dx,_,_,@d,cK,@V,@kd,@d,_,@d,p,C,dx,_,_,@d,cK,@V,@pL,@d,L,_,@d,(bC,aj.of j,@rl)));have s2:=(d7,@hg,H1,ht);have t2:=(i9,t,.tup @hg);rw[cM,t,.tup @hg];rw[P,@b3,@nu];rw[ef,@zI,hu];have u3:=(f7,u,@zI);rw[ek,u,@zI];have kc:=@g8;have l:Cv K H3 u (fG,@iN):={t,(r,u3,(aCr D _).2),b_.of (ac,t2)};let{ys,hy,cP,OV}:=pJ.push (d.same Cw kc) l;refine{st,ys,_,(cU,hy,(d,cP,dA eI))};have r:p≠st:=(oq,kc _ _ cK);have R4:jf K C @C7 p st L X n rf I @dk @iN @B1 W:={{dx,(D,r,kc _ _ cK)},OV,(D,R.n1.symm,kc _ _ j),(D,R.n2.symm,kc _ _ g),R.n1,R.n2,R.n3};have k4:(j1,@C7):=(k1.of kc).upd @nt;generalize@C7=H4 at*;let{Dn,c}:=R4.ins;refine{_,@d,p,(bh,C,Dn,c,@V,@kc,(el,7))};exact O hk i _ (R4.re (dx:=Dn) (ae.refl H4) R4.cards R.n1 R.n3) (k4.upd @aK)
  .have i:@nJ≠jB k:=λh=>he @gP;exact q2 hk i H1 {⟨dx,cK⟩,d,j,g,R.n1,R.n2,R.n3} k1
abbrev aaK:aY:=(eK,3)
def aCw:(kw,aaK):=@D
def amb(K:aM)(C:aa):Sp:=(ri,jf K C H p st L X n rf I J cs ss W,@e8<=1000,∀v,@BY->x=fg v->jn W=20->(cj,@K),∀v,@BY->x=fg v->jn W≠20->(ht,jf K C H' p st L X n rf I J cs ss (v::W)),∀k,k<=2->x=@dk->∀H' r,jf K C H' p st r X n rf "card" @dk [] ss W->@kx->(I,r)->Q @gE H',x≠"not"->x≠"("->@Bs->@hl)
def aCx(F:(o,"take_claim","Condition.take_claim",aaK))(T:@hq)(B:@ad)(G:@vM)(l:(jk,"depth",1,al7 K C)):(ae,2,(aC,"word"),amb K C):=by
 refine(h,aCw,@C);.rw[f_];rfl
 .let{p,st,L,X,n,rf,I,J,cs,ss,W,x,rfl,R,PF,O,q2,q3,N}:=h;rw[a7];rw[a8,bN (dS,@nX,@nX) (gd,(dT,(dC,Fa l @cf @Y,dB G.DEEPEST)),(ft,@B),g_) bS,(bF,(dT,Aa (azo G.CARDS_NAMED G.CARDS_NAMED_d @B)),(aZ,@B),(ec,@bg,cR,@ru))];rw[bQ,(B,x,"not"),(B,x,"(")];rw[eC];rw[eC];rw[V]
  .obtain⟨v,hv,hx⟩:∃v,@BY/\x=fg v:=by
    rw[mN,bU,bU]at hc;rcases hc with e|e;.exact{@fH,@aK,e}
    .exact{@bE,@dU,e}
   refine(e,p,dx,_,@d,hp,@d,p,st,L,X,n,rf,I,J,cs,ss,W,@d,R,PF,λH1 Y=>?_);rw[av,@d,_,@d];rw[ft];rw[aE,λhd=>?_,λhd=>?_];.exact O v hv hx (b_,bT hd) H1 Y
   .have y:jn W≠20:=λh=>hd @gP;have d:=R.same Y;rw[eo];have a:=d.wait;refine(e,p,C,dx,_,(a5,cK,@V,@gt,@d,(X,a),(bs,@d,X,a,(bO,jU,dA PF))));rw[hC];refine q2 v hv hx y _ {{dx,(D,b,cK)},@KR,@xs,?_,d.n1,d.n2,d.n3} (((Kp.refl H).of Y).upd (az,@dU));rw[ao,kJ,bh,hx];rfl
  have g:x≠"not":=λe=>hc (O,bq e);have eh:x≠"(":=λe=>hc (r,bq e,Bool.or_true);by_cases hk:∃k,k<=2/\x=@dk;.let{k,D,rfl}:=hk;refine(e,.inr @dk,@d,_,@d,?_);rw[al9 D];rw[aq];rw[b8,hp,@kd,7];rw[ax,λr i=>?_];let{q,j}:=iN i;refine(E,p,C,dx,_,@d,(D,j.symm,ao),@V,@pL,(el,7),?_);rw[cY,7];rw[pB];rw[dP,R.steps];have d:=R.re (H1:=H) (dx:=dx) (rf':=rf) (wn':=I) (wd':=@dk) @bj R.cards R.n1 R.n3;have s2:=(bM,@Jj,i);have c2:(aa,(bE,@Jj,r,[],r),(V,[])):=ao;refine q3 k D @d _ r (d.re (dx:=dx) (cs':=[]) s2 c2 (λe=>by rw[<-e,hz]at q;cases q) (λe=>by rw[e,R.wait]at q;cases q)) ?_ q;refine Kp.upd (λc u hc h=>?_) @aK;rw[aA (du h q),aA (λe=>hc @g4)];exact h
  .have ia:@Bs:=λk h e=>hk ⟨k,h,e⟩;refine(e,.inr x,@d,_,@d,?_);rw[aCq ia];exact cq (N g eh ia)
def amc:(m6,@lD->∃V,(My.settle 1 S W).2=@bE::V)
 |[],S,h=>@ch
 |v::W,S,h=>by
  rw[My.settle];by_cases hb:1<=@fT
  .rw[ai hb];refine amc W _ ?_;rcases de.1 h with e|e;.rw[<-e]at hb;exact absurd hb @Z
   .exact e
  .rw[af hb];have:v=@bE:=by cases v<;>first|rfl|(rw[al,@Z,hb])
   rw[aa];exact{W,@d}
def I_(b:Nat):(m6,(My.settle b S W).1.length+(My.settle b S W).2.length=@v2+@e8)
 |[],S=>rfl
 |v::W,S=>by
  rw[My.settle];split;.rw[I_ b W];simp;omega
  .rfl
def Oi(b:Nat):(m6,Au S->Au (My.settle b S W).1)
 |[],S,h=>h
 |v::W,S,h=>by
  rw[My.settle];split
  .refine Oi b W _ λk cs hm=>?_;rcases bz.1 hm with e|e;.exact h k cs e
   .cases cz.1 e
  .exact h
abbrev aaL:aY:=(eK,7)
def aCy:(jy,aaL):=@D
def amd(K:aM)(C:aa):Sp:=(qH,vs=[@ao]/\jf K C H p st L X n rf I J cs ss W/\@I1/\(@lD->(ht,jf K C H' p st L X n rf I J cs @BG @Cx))/\(@iR∉W->@hl))
def aCz(F:(o,"end_bracket","Condition.end_bracket",aaL))(T:@hq)(B:@CJ):(eu,"self",amd K C):=by
 refine(h,aCy,@C);.rw[kn];rfl
 .let{p,st,L,X,n,rf,I,J,cs,ss,W,rfl,R,hl,O,q2}:=h;rw[a7];rw[bs,(dT,(mE,cR,@aC)),(ew,B,cR),dr (iB,@aC),g_];refine{_,@d,p,C,dx,_,_,@d,hp,@V,@gt,@d,X,_,@d,(aJ,R.wait),@d,?_,_,@d,?_};rw[eX];rw[(@ax),al8];by_cases hm:@lD;.rw[gA.2 hm];rw[aq];let{V,S}:=amc W ss hm;refine{_,@d,p,dx,_,@d,hp,(rO,.orW)};have e1:eE .orW=1:=rfl;rw[e1]at d;let{u,cK}:=d.ins;have a:=d.wait;rw[S,kJ,bh]at a;refine{_,@d,p,C,u,_,_,@d,cK,@V,@gt,@d,(X,a),X,_,.str "(",(cU,a,by simp[fg])};rw[hC];refine O hm _ (qk,?_) (k1.upd (az,@dU));rw[ao,S];simp
  .have hf:(F,W.contains @bE):=(d,ig,λh=>hm (gA.1 h));rw[hf];exact cq (q2 hm)
abbrev aaM:aY:=(eK,6)
def aCA:(kw,aaM):=@D
def ame(K:aM)(C:aa):Sp:=(ri,jf K C H p st L X n rf I J cs ss W,@I1,x=")"->@lD->(ht,jf K C H' p st L X n rf I J cs @BG @Cx),x=")"->@iR∉W->@hl,∀v,v=Wt.andW\/v=.orW->x=fg v->(ht,jf K C H' p st L X n rf "claim" J cs @KE (v::@Ar)),x≠")"->x≠"and"->x≠"or"->@hl)
def aCB(F:(o,"take_joint","Condition.take_joint",aaM))(T:@hq)(B:@CJ)(r:(jk,"end_bracket",2,amd K C)):(ae,3,(aC,"word"),ame K C):=by
 refine(h,aCA,@C);.rw[f_];rfl
 .let{p,st,L,X,n,rf,I,J,cs,ss,W,x,rfl,R,hl,O,q2,q3,N}:=h;rw[a7];rw[a8,(aL,(bX,@B),Fa r @cf @Y),(bF,(dT,(eB,(ao,tO,@B,cR),(ao,tO,@B,cR))),(ew,B,@B),(bF,(ft,@B),(aZ,cR),@ru))];rw[bl];rw[fu];rw[V];.have hx:x=")":=@b6;exact{_,@d,p,dx,_,@d,hp,@d,p,st,L,X,n,rf,I,J,cs,ss,W,@d,R,hl,O hx,q2 hx}
  have hx:x≠")":=λe=>(bm,e);dsimp only[rP,pC,tM];refine EX (!(B,x,"and")) (!(B,x,"or")) @ey @ey ?_;rw[eC];rw[eC];rw[cx];.rw[dJ,xM,xM,l9,l9]at cN;exact N hx cN.1 cN.2
  obtain⟨v,hv,c⟩:∃v,(v=Wt.andW\/v=.orW)/\x=fg v:=by
   by_cases e1:x="and";.exact{.andW,@aK,e1}
   .by_cases e2:x="or";.exact{.orW,@dU,e2}
    rw[ai,(ab,cG e1,cG e2),cN]
  subst c;refine(E,p,dx,_,@d,hp,@d,_,(rO,v));have eI:=I_ @fT W ss;have q5:=q3 v hv @d;generalize My.settle @fT ss W=y at*;let{u,cK}:=d.ins;have a:=d.wait;refine(e,p,C,u,_,(a5,cK,@V,@gt,@d,(X,a),(bs,@d,X,a,(bO,jU,@a2))));rw[hC];have R2:jf K C (cY,X,@Bd) p st L X n rf I J cs y.1 (v::y.2):=(qk,by rw[ao,kJ,bh];rfl);have k2:(j1,(cY,X,@Bd)):=k1.upd (az,@dU);rw[bo,X,@Bd];let{l,b7}:=@tm;refine(ef,p,C,l,b7,@V,@kc,(el,7),?_);exact q5 _ (R2.re (dx:=l) @wo R2.cards R2.n1 R2.n3) (k2.upd @aK)
def amf(I J:aq)(cs':@o):CW->@u|.claim=>I="claim"|.card k cs=>I="card"/\J=@dk/\cs'=cs/\k<=2/\@cT<jB k|.joint=>I="joint"
def Oj(K:aM)(C:aa)(n:Nat)(rf:Int)(j:Nat)(H:Hp)(p:aa)(own:@bh)(s:Cm):@u:=∃st L X I J cs,jf K C H p st L X n rf I J cs s.steps s.wait/\amf I J cs s.want/\(∀c,own c↔lO p st L X c)/\s.steps.length+s.wait.length<=j/\Au s.steps
def aCC(C:aa)(n:Nat)(rf:Int):Rdr C @Az:=by
 rw[ab,?_,?_];.rintro j H p own s⟨st,L,X,I,J,cs,R,_⟩;rw[a7];exact(Q,dx,_,hp,@d)
 .rintro j H p own s⟨st,L,X,I,J,cs,R,_,N,_⟩c hc;rw[a7];let{zs,hz,_}:=R.steps;rcases(N c).1 hc with e|e|e|e;rw[cr,hp];rw[cr,hz];rw[cr,R.cards];rw[cr,R.wait]
 .rintro j H H' p own s⟨st,L,X,I,J,cs,R,a,b,c,d⟩hs;exact{st,L,X,I,J,cs,R.same hs,a,b,c,d}
def w_not:(du,"not","not"):=@aG
def amg:(du,"up","up"):=@aG
def amh:(du,"even","even"):=@aG
def ami:(du,"like","like"):=@aG
def w_and:(du,"and","and"):=@aG
def w_or:(du,"or","or"):=@aG
def amj:(k0,"(")=[40]:=@aG
def amk:(k0,")")=[41]:=@aG
abbrev aaN:aY:=(eK,2)
def aCD:(jy,aaN):=@D
def aCE{rf:Int}(F:(o,"may_end","Condition.may_end",aaN))(T:@hq):(bp,"self",aak @Az wS):=by
 refine(h,aCD,@C);.let{j,p,own,s,rfl,_}:=h;rfl
 .let{j,p,own,s,rfl,{st,L,X,I,J,cs,R,hw,_,_,_},q0}:=h;rw[a7];rw[an,tK (b7,@aC,cR) (rO (iD (Nz (K:=K)) cR @aC @qu))];refine aay @Kr (! s.wait.contains @bE) @ey (λ_ Q' k=>?_) (q0 H @bj)
  .refine{_,@d,p,C,dx,(jz,hp,@V,@kc)};rw[fu];have:(B,I,"joint")=@Kr:=by cases hs:s.want with|joint=>rw[kC,"joint"]|claim=>rw[fs,show I="claim"from hw]|card k cs=>rw[fs,hw.1]
   rw[aa];exact k
  .refine(e,(cs,p,C,dx,hp,@V,@gt,@d,X,_,@d,(aJ,R.wait),@d,?_,?_));rw[eX];rw[aj,(@ax),al8,k]
abbrev aaO:aY:=(eK,1)
def aml:(cy,["self","piece","word"],"piece",aaO):=@D
def aCF{rf:Int}(F:(o,"take","Condition.take",aaO))(T:@hq)(TP:wY K m)(Y:(bZ,"take_card","piece",1,ama K C m))(V:(bZ,"take_claim","word",2,amb K C))(S:(bZ,"take_joint","word",3,ame K C)):(ae,4,(aC,"piece"),aaj m @Az (iV n)):=by
 refine(h,aml,@C);.let{j,p,q,own,s,x,rfl,_}:=h;rfl
 .let{j,p,q,own,{ss,want,W},x,rfl,{st,L,X,I,J,cs,R,hw,N,hl,hok},U,G,hj,q0}:=h;dsimp only at R hw hl hok;rw[a7];let{b,sq,g,B,O8}:=id U;rw[jC,@kx,o c u (kb,e) h];have yes:∀(s':Cm),(c8,{ss,@dm,W},@b7,s')->∀H' r wn' wd' cs',jf K C H' p st r X n rf wn' wd' cs' s'.steps s'.wait->amf wn' wd' cs' s'.want->s'.steps.length+s'.wait.length<=@aj->Au s'.steps->(r=L\/(I,r))->@kx->Q @gE H':=by
   intro s' hs H' r wn' wd' cs' R' w' l' M z o';have k:=q0 H' (lO p st r X) (O H' o') (λc hc=>by
    rcases hc with e|e|e|e;rw[Q,(N c).2 @g4];rw[Q,(N c).2 (.inr @g4)];.rcases z with h|h;rw[Q,(N c).2 (az,.inl (e.trans h))];rw[ac,(cl,h)]
    rw[Q,(N c).2 (az,.inr e)]);rw[hs]at k;exact k {st,r,X,wn',wd',cs',R',w',λ_=>Dx,l',M}
  rw[k5,iV n {ss,@dm,W} @b7,{st,L,X,I,J,cs,R.same s',hw,N,by show@h6+@e8<=_;omega,hok}];rw[bs,(mL,Y),(bP,aml.nd,oN (bX,@dP) @dP @dP),(aL,(bX,@aC),(eo,V,@E)),(eo,S,@E)];rw[c2];rw[fu];have a:∀{y:aq}{l:@o},@gM->y.cps.toList=l->(@pO=y↔@d4=l):=λhk hy=>(d,G.word hk,vy hy);cases want with
  |card k cs0=>
   let{rfl,rfl,rfl,D,gH}:=hw;rw[cD,@eG];refine{_,@d,p,dx,_,@d,hp,(cO,p,st,L,X,q,n,rf,_,k,cs,ss,W,x,@d,R,U,D,gH,@e,@GL,@GL,λhk=>?_)}
   .rw[mX,(ho,@B1),?_];.rw[t_ hk.1];show@BW=_;unfold oH;rw[aG,@iz,hn]
    .intro k' cs' hm;rcases bz.1 hm with e|e;.exact hok k' cs' e
     .cases cz.1 e;exact{D,@aS}
   .refine yes (n6,@iN) ?_ H' L _ _ _ R' {@d,@d,@d,D,@aS} (xX hl) hok @aK o';rw[t_ hk.1];show@BW=_;unfold oH;rw[ai @iz,af hn]
   .rw[eB];by_cases hn:@nh;.rw[t_ hn];rw[aC,@BW];unfold oH;rw[b3,hk ⟨hn,h⟩]
    rw[mx]
  |claim=>
   obtain rfl:=hw;rw[c7];dsimp only[rP];refine IG ?_;refine II ?_;rw[mo];.refine(e,q,(mk,g));rw[fu];exact k
   rw[fp,ai (bT hb),TP.nW];rw[fp,af (Ef hb),@qI];rw[c2];rw[fu];rw[cD,@eG];refine(E,p,dx,_,@d,hp,@d,_,@d,p,st,(r0,λv hv hx hd H' s'=>?_,λv hv hx hd H' R' o'=>?_,λk hk hx H' r R' o' z=>?_))
   .refine no ?_ H' s';rw[fA]
    .rw[fz];rcases hv with rfl|rfl;.rw[(@hb),(g0,w_not)];rw[aC,kj (a3,ss,W) (dI "not")];unfold kj;rw[ai @d];exact ai hd
     rw[kp]
    .rw[fy];rcases hv with rfl|rfl;rw[iD];.rw[w_ hx];rw[aC,(bo,(W,40)=40/\jn W≠LB)];rw[b3,h.2 hd]
   .rw[mX,(a3,ss,v::W),hok];rw[fA]
    .rw[fz];rcases hv with rfl|rfl;.rw[(@hb),(g0,w_not)];show kj (a3,ss,W) (dI "not")=_;unfold kj;rw[ai @d];exact af hd
     rw[kp]
    .rw[fy];rcases hv with rfl|rfl;rw[iD];.rw[w_ hx];show(bo,(W,40)=40/\jn W≠LB)=_;rw[ai (al,hd)]
   .refine yes (n6,[]) ?_ H' r _ _ _ R' {@d,@d,@d,hk,by show 0<jB k;unfold jB;split<;>omega} (xX hl) hok (.inr z) o';by_cases d:@gM
    .rw[ai d]at hx;rw[n0 d];show kj (a3,ss,W) @d4=_;unfold kj;rw[fb];rcases this with rfl|rfl|rfl;.rw[(a d amg).1 hx,(@bL),(@ax)]
     .rw[(a d amh).1 hx,(@bL),(@bL),(@ax)]
     .rw[hO,(a d ami).1 hx]
    .exfalso;rw[af d]at hx;rw[fb];rcases G.kinds with e|e|e|e|e|e|e<;>rw[e]at hx<;>first|exact d e|(rcases this with rfl|rfl|rfl<;>exact absurd hx @aG)
   .rw[eB];by_cases d:@gM;.rw[ai d]at Z h3;rw[n0 d];rw[aC,kj (a3,ss,W) @d4];unfold kj;rw[(fb,Z (lo,w_not)),(m_,0,amg),(m_,1,amh),(m_,2,ami)]
    .rw[af d]at h2;have ck:=al0 h2;cases ht:tokOf x with|num k=>rfl|word l=>rw[al,ht,al1 d l]|sign c=>rw[eG,jn W≠LB];rw[b3,ck (r,ht,h.1)]|wrong=>rfl
  |joint=>
   obtain rfl:=hw;rw[c7];dsimp only[rP];refine IG ?_;refine II ?_;rw[mo];.rw[c1];rw[fu];exact k
   rw[fp,ai (bT hb),TP.nW];rw[fp,af (Ef hb),@qI];rw[c2];rw[fu];rw[c7];have gH:∀{c:Nat},(dq,")")->@b7=.sign c->c≠41:=λaI ht e=>aCf aI (r,ht,e);refine(e,p,dx,_,@d,hp,@d,(E,p,st,(r0,λhx hm H' R' o'=>?_,λhx hm=>?_,λv hv hx H' R' o'=>?_)))
   .rw[mb];have bG:=I_ 1 W ss;rw[kL,{@BG,@gK,@Cx},1];.rw[yA hk];show(bo,(W,41)=41/\@lD)=_;rw[ai (al,hm)]
    .show(My.settle 1 ss W).1.length+(My.settle 1 ss W).2.tail.length<=_;rw[atJ];omega
   .rw[mb];rw[eB];rw[yA hk];rw[aC,(bo,(W,41)=41/\@lD)];rw[b3,hm h.2]
   .have bG:=I_ @fT W ss;rw[kL,(a3,@KE,v::@Ar),@fT]
    .rw[fA];.rw[fz];rw[(@hb)];show tq (ho,ss) @d4=_;unfold tq;rcases hv with rfl|rfl;rw[ay,(g0,w_and),(@ax)];rw[aL,(g0,w_or),(@bL),(@ax)]
     .exfalso;rw[fy];rcases G.kinds with e|e|e|e|e|e|e<;>rw[e]at hx<;>first|exact hk e|(rcases hv with rfl|rfl<;>exact absurd hx @aG)
    .show(My.settle @fT ss W).1.length+(v::@Ar).length<=_;rw[cX];omega
   .rw[eB];by_cases d:@gM;.rw[ai d]at h2 h3;rw[n0 d];rw[aC,tq (ho,ss) @d4];unfold tq;rw[af (λe=>h2 (lo,w_and)),(fb,h3 (lo,w_or))]
    .rw[af d]at Z;cases ht:tokOf x with|num k=>rfl|word l=>rw[al,ht,al1 d l]|sign c=>rw[gw,@lD];rw[b3,gH Z ht h.1]|wrong=>rfl
abbrev aaP:aY:=top 47
def amm:(nl,"condition",aaP):=@D
abbrev jE(n:Nat)(t:@o):Cm×Int:=lM (iV n) wS @ov t
def aaQ(K:aM)(C:aa):Sp:=(sZ,∀(H':Hp)(p dx st L X:aa)(I J:aq),@ab->(jA,vz n @mN st I J L X)->pJ K H' st @vd->Au @vd->(My.settle 1 @CW @CX).1.length<=1000->Q @ao H')
def aaR{H:Hp}{p st L X:aa}(hp:@dK)(hs:(I,st))(hc:(I,L))(hw:(I,X))(h:(P,c,o)):¬lO p st L X c:=by rintro(e|e|e|e);rw[b5,hp];rw[b5,hs];rw[b5,hc];rw[b5,hw]
def aCG(F:(o,"read_condition","read_condition",aaP))(T:@hq)(u:(kf,"Condition",(aC,"size"),al_ K C))(CR:(nU,Oj K C n 0,iV n,wS))(B:@CJ):(nn,aaQ K C):=by
 refine(h,amm,@C);.rw[f9];rfl
 .let{a,t,n,rfl,ha,{R,N},dX,q0}:=h;have O:=CR n;rw[as,amm.nd,Ak u @cf (ab @B ac),@Bk,(bu,dr (gF,B,@E,cR),@E)];rw[gc];refine{p,dx,n,@d,ao,λH1 st L X d dM z g k1=>@kB};have x:=(f_,dM);have q:=(f_,z);have v:=(f_,g);rw[hY];rw[ng,lO p st L X,@ov,{st,L,X,_,_,_,d,@d,λ_=>Dx,@L,λk cs h=>@ch},aaR m x q v N];let{pZ,y,r,I,J,cs,R2,mw,iu,lc,D}:=r2;let{l,b7}:=@tm;rw[ch,b7,@qE,7];have U:=R2.re (dx:=l) (rf':=@mN) (wn':=I) (wd':=J) @wo R2.cards R2.n1 R2.n3;have M:=(f7,p,.ins C l @G6);show pC _ _ _ _ @zC;have W:Kp S H2 @zC:=(Kp.refl H2).upd ((iu p).2 @aK);generalize@zC=H3 at*;refine{_,@d,p,l,_,@d,M,@d,p,pZ,y,r,n,_,I,J,cs,_,_,.orW,@d,U,@e,λH4 R4 k4=>?_};let{Dn,c}:=R4.ins;have eI:=I_ 1 @CX @CW;rw[am,q0 H4 p Dn pZ y r I J ?_ c R4.steps (Oi 1 _ _ D) (cU (Ll _ _) (cU (Lb eI) (cU lc @e)))];intro b o h;have qO:=@h3;have su:=k2 b o (aaR m x q v h) qO;have ck:¬S b:=λhb=>by
   rcases g2 b hb with e|e;.exact aaR m x q v h e
   .rw[qO]at e;cases e
  exact k4 b o (λe=>ck ((iu b).2 e)) (W b o ck su)
abbrev pK:=@ar×ax
def yB(zs:(b9,pK)):@c_:=(ja,(eG @aF,@d5))
def TabAt(H:Hp)(d:aa)(l:@kY):@u:=(fo,pK,(a4,.dT (yB zs))/\@ij=l/\∀z∈zs,Mv H z.1 @eR/\@eR≠[])
def TabAt.same{H H':Hp}{d:aa}{l:@kY}(t:@sd)(s:@ab):TabAt H' d l:=let⟨zs,a,b,c⟩:=t;{zs,@dw,b,λz m=>{(c z m).1.same s,(c z m).2}}
def TabAt.updO{H:Hp}{d D:aa}{l:@kY}{o:HO}(t:@sd)(hn:d≠D)(ht:@ir)(hm:@uK):TabAt @dB d l:=by let{zs,a,b,c}:=t;exact{zs,(D,hn,a),b,λz m=>{(c z m).1.updO (hm _ _ (c z m).1 (c z m).2) ht,(c z m).2}}
def amn{zs:(b9,pK)}(x:@ar):(kz,yB zs,@ha,x):=by unfold cB yB;rw[Eg];rw[e6,@fw,(B,D.1,@ha),λz:aa×pK=>(eG @aF,@d5),(fP,x),(kV,eG @aF,@ha,aaa)];rw[aa];cases zs.find? λz=>z.2.1==x<;>rfl
def TabAt.miss{H:Hp}{l:@kY}(t:@sd){x:@ar}(h:@xG=@r):(qC,cB kvs @ha=@r):=by let{zs,a,b,c}:=t;rw[av,_,a,by rw[<-b];simp[yB]];rw[amn];rw[<-b,Eg]at h;cases e:zs.find? λz=>z.2.1==x with|none=>rfl|some z=>have:@J5:=e;rw[this]at h;cases h
def TabAt.hit{H:Hp}{l:@kY}(t:@sd){x:@ar}{y:pK}(h:@xG=some y):∃kvs a,(a4,@eZ)/\cB kvs @ha=some @W/\Mv H a y.2:=by let{zs,a,b,c}:=t;rw[<-b,Eg]at h;cases e:zs.find? λz=>z.2.1==x with|none=>have:(zs.find? @KK)=@r:=e;rw[this]at h;cases h|some z=>have F:@J5:=e;rw[F]at h;have:z.2=y:=bZ h;refine{_,z.1,a,(ab,amn,e),?_};rw[bj];exact(c z (zq e)).1
def TabAt.put{H:Hp}{l:@kY}{x:@ar}{h:ax}(t:@sd)(m:@kD)(aI:@e6)(hx:@xG=@r):(qC,TabAt (ex,.dT (iE kvs @ha @W)) d (l++[(x,h)])):=by
 let{kvs,k1,k2,W}:=t.miss hx;rw[av,kvs,k1,k2];let{zs,e,b,c}:=t;rw[e]at k1;cases k1;have g:(ce,H d):=(aN,e);have nm:∀b' h',Mv H b' h'->b'≠d:=λb' h' m' q=>(nH,m',e);rw[av,zs++[(a,(x,h))],?_,?_];.rw[ao,Ni _ W];unfold yB;rw[bh];rfl
 rw[ay,bh,b]
 .intro z mz;rcases bz.1 mz with q|q;.exact{(c z q).1.updO (nm _ _ (c z q).1) g,(c z q).2}
  .cases cz.1 q;exact{m.updO (nm _ _ m) g,aI}
def ua(H:Hp)(u:aa)(ds:@aa)(U:@aZ):@u:=(ag,u,@lc)/\@iG=@mw/\ds.Nodup/\∀i d,(C,ds,d)->TabAt H d @gF
def ua.same{H H':Hp}{u:aa}{ds:@aa}{U:@aZ}(h:@uu)(s:@ab):ua H' u ds U:={(as,h.1),@eK,@kQ,λi d e=>(h.2.2.2 i d e).same s}
def ua.updO{H:Hp}{u D:aa}{ds:@aa}{U:@aZ}{o:HO}(h:@uu)(hu:u≠D)(hd:D∉ds)(ht:@ir)(hm:@uK):ua @dB u ds U:={(D,hu,h.1),@eK,@kQ,λi d e=>(h.2.2.2 i d e).updO (λq=>hd (G,q,cZ e)) ht hm}
def ua.put{H:Hp}{i:Nat}{kvs a:@c_}{l:@kY}(h:@uu)(hi:(C,ds,d))(hd:(a4,@eZ))(t:TabAt (ex,.dT a) d l):ua (ex,.dT a) u ds (U.set i l):=by
 have g:(ce,H d):=(aN,hd);have nm:∀b' h',Mv H b' h'->h'≠[]->b'≠d:=λb' h' m' _ q=>(nH,m',hd);have uk:i<@mw:=(d6,(@eK),hi);refine{(D,λq=>(sO,h.1,hd),h.1),(d,zw,@eK),@kQ,λj e he=>?_};rw[dy,ae0];by_cases hj:i=j;.subst hj;rw[hi]at he;cases he;rw[(@ax),ai uk];exact t
 .rw[af hj,<-dy];refine(h.2.2.2 j e he).updO (λq=>hj ?_) g nm;subst q;let{Z,h2}:=fk.1 hi;let{h3,h4}:=fk.1 he;have hp:=oZ.1 @kQ;rcases Bi i j with z|z|z;rw[ai,h2.trans h4.symm,hp i j Z h3 z];.exact z
  rw[ai,h4.trans @mn,hp j i h3 Z z]
def yC(u f:aa):@cU:=[("undoing",.ref u),("found",@b0)]
structure Ja(K:aM)(C:aa):@u where
 cl:@fk
 und:(ak,"undoing")
 fnd:(ak,"found")
structure ni(C:aa)(H:Hp)(p u f:aa)(ds:@aa)(U:@aZ)(F:@Q):@u where
 ins:(mb,yC u f)
 und:@uu
 fnd:dC H f F
def ni.same{C:aa}{H H':Hp}{p u f:aa}{ds:@aa}{U:@aZ}{F:@Q}(R:(fj,H))(s:@ab):(fj,H'):=by let{{dx,a},b,c}:=R;exact{{dx,@dw},b.same s,c.same s}
def aCH(x:@ar)(i:Nat):Lh @E3 @E2=(B,x,@af):=by
 let{a,b}:=x;show(((u,a)==@aL)&&((A,@b1)==0&&@h))=_;rw[aSq];rw[aD];rw[dJ,eW,eW,bU];constructor;.rintro⟨Z,h2⟩;rw[a3,a,i];subst this;cases b with|false=>rfl|true=>rw[al,h2,@Z]
 .intro h;cases h;exact@ds
def aCI{h:ax}{i:Nat}(hi:@jI)(hb:@B7)(hn:@bK≠@af):cj h=i:=My.Sk (My.kK.2 hb) hi hn
def aCJ{h:ax}(hb:∀j,j<@bq->at_ h j=@fR):cj h=@bq:=by
 rcases dH (cj h) h.length with z|z;.exact absurd (hb _ z) (My.Si z)
 .exact aSr (My.MH h) z
abbrev aaS:aY:=top 82
def aaT:(aq,["move","place","source"],"move",aaS):=@D
def aaU:Sp:=λvs H Q _=>∃(l:aa)(h:ax),vs=[@bb]/\@fZ/\(gi,cj h)
def aCK(F:(o,"first_changed","first_changed",aaS))(B:@ad):(bp,"move",aaU):=by
 refine(h,aaT,@C);.let{l,h,rfl,_}:=h;rfl
 .let{l,h,rfl,{ps,cH,ht},q0}:=h;have dF:=ht.len;rw[bb,(hV,1,aaT.nd,2,aaT.nd,(aL,(ao,ax5 hr.units,@E,@uf),@B)),@a6];rw[aM,l,@qM];refine(iw,l,@bB,∃(v1 v2:@ag),σ=[@c2,v1,v2]/\@ab/\@B7,{@r,@r,@d,@bj,@DW},λi σ H' _⟨_,_,_,s,_⟩=>aj.of (as,cH))
  .rintro i y σ H1 T hi⟨v1,v2,rfl,Y,hb⟩hT;rw[fj,by rw[aY];rw[dk]];rw[f3];have uk:@jI:=(fk.1 hx).1;have b:@bK=x:=(d,My.f_ uk,(fk.1 hx).2);have s2:=aH (o:=@tw) Y hT;rw[bP];rw[cM,T,@tw];rw[aF,_,@b3,λt m=>?_];have s3:=aH (o:=@lo) s2 m;have e3:=(ac,ex);refine(dK,@E3,@E2,(pu,b_.of e3),(pu,@mi));rw[aCH];by_cases L:x=@af
   .rw[bq L];rw[aw,(ha,s3,λj hj=>?_)];rw[dC];.rw[e,b,L]
    .exact hb j @e
   .rw[cG L];rw[ar,@mf];have k:=q0 _ s3;rw[aCI uk hb (d,b,L)]at k;exact k
  .rintro σ H1⟨v1,v2,rfl,Y,hb⟩;rw[au,dF]at hb;rw[aM,l,(aJ,(aV,cH))];rw[au,dF];have k:=@iu;rw[aCJ hb]at k;exact k
abbrev aaV:aY:=(jj,2)
def Jb:(cy,["self","move","rest","place","known"],"move",aaV):=@D
def aaW(C:aa):Sp:=(rz,(md,Mv H' q @ip,bH n @ip))
def aCL(F:(ge,"rest_of","Group.rest_of",aaV))(B:@ad)(T:Ja K C)(G:@oE):(dz,2,f0,(aC,"move"),aaW C):=by
 refine(h,Jb,@C);.rw[ks];rfl
 .rw[kt];rw[a7];have Do:@iG=n:=(r,R.und.2.1,g.len);rw[as,Jb.nd,@B,(dV,(dW,@aC),3,Jb.nd,4,Jb.nd,(aQ,(aL,(jU,(bi,@E,@H),@ak),@E),(bP,Jb.nd,(aU,G,(gP,@ak,(bi,@E,@H)),@E)))),(aY,@E)];rw[aU];refine(bT,p,C,dx,hp,@V,T.und,@d,u,_,@d,aj.of @wN,?_);refine(iw,u,@lc,∃(O v4:@ag)(q:aa)(r:ax),(g4,[@e5,@c2,(J,q),O,v4],Mv H' q r,bH n r,restOf (U.drop i) i r=@ip),{@r,@r,l,h,@d,@bj,hl,hh,(aF,mM)},λi σ H' _⟨_,_,_,_,_,s,_⟩=>aj.of (as,@wN));.rintro i y σ H1 j hi⟨O,v4,q,r,rfl,Y,m1,jx,e1⟩hT;rw[lQ];have cM:i<n:=(d6,Do,hd);have s2:=(aK,(bV,@cD),H1,hT);rw[ds,j,@mi];rw[cM,j,(bV,@cD)];have b:=@ed;have m2:=m1.same s2;let{ps,cH,ht}:=id m2;let{pp,sE,um}:=ht.get' (i:=i) (x:=at_ r i) (ms,(d,jx.len,cM));have ky:(bz,@bB,@aL,.ref pp):=fX @d (dg,sE);have td:=(pD,b);have dM:=My.EF g cM r;rw[e1]at dM;cases hf:(U.getD i []).find? λx=>x.1==at_ r i with|none=>rw[hf]at dM;let{kvs,k1,k2,W}:=td.miss hf;rw[ls];rw[W];rw[ar,@mf];dsimp only at dM;exact q0 H2 q b (d,dM,m2) (d,dM,jx)|some x=>rw[hf]at dM;let{kvs,a,k1,k2,W}:=td.hit hf;have X:=g.hand i x cM (zq hf);rw[ls];rw[k2];rw[aq];refine(e,(hS,q,@d,@d,@qM,ky,d,_,@d,.inr {kvs,eG (at_ r i),pp,.inl k1,@d,um,k2.symm},_,@d,a,q,x.2,r,@d,W.toS,m2,(eG,jx.len),(d,X.len,My.nI jx),λH3 q3 s3 m3=>?_));exact{_,_,q3,aK x.2 r,@d,b.trans s3,m3,My.jl X jx,dM.symm}
  .rintro σ H1⟨O,v4,q,r,rfl,Y,m1,jx,e1⟩;rw[au,Do,My.MC g]at e1;have e2:r=@ip:=e1;rw[<-e2]at q0;exact(am,q0 H1 q Y m1 jx)
abbrev aaX:aY:=(jj,3)
def aCM:(cy,(aC,"move"),"move",aaX):=@D
def amo(C:aa):Sp:=(rz,(cj,(B,@ip,@b8)))
def aCN(F:(ge,"has","Group.has",aaX))(B:@ad)(adD:@GE)(adE:@ES):(dz,3,f0,(aC,"move"),amo C):=by
 refine(h,aCM,@C);.rw[ks];rfl
 .rw[kt];rw[a7];let{ps,cH,ht}:=id hl;rw[an,(b7,(aO,adD,(eo,adE,@B)),@rw)];refine(e,(hN,dx,hp,p,u,f,l,ds,U,F,S,h,n,@d,R,hl,hh,hn,g,λH1 O Y m1 Z=>?_));refine{O,@ip,@d,m1,λH2 s2=>?_};refine(e,l,_,@d,(aJ,(Y.trans s2) _ _ cH),@d,?_);rw[au,ht.len,hh.len,ft];have:(B,(A,cj @ip),@aq)=(B,@ip,@b8):=kh.2 {λe=>(My.Sj Z).1 @e,λe=>(aF,(My.Sj Z).2 e)};rw[aa];exact q0 H2 @ed
abbrev aaY:aY:=(jj,4)
def Ol:(aq,["self","size","known"],"self",aaY):=@D
def amq(C:aa):Sp:=λvs H Q _=>∃(p u f:aa)(ds:@aa)(U:@aZ)(F:@Q),(hq,(fj,H),(∀i,@lK<=1000)/\(gi,U.foldl @uT 1))
def aCO(F:(ge,"size_of_all","Group.size_of_all",aaY))(B:@ad)(T:Ja K C):(dz,1,f0,@mk,amq C):=by
 refine(h,Ol,@C);.let{p,u,f,ds,U,F,rfl,_}:=h;rfl
 .let{p,u,f,ds,U,F,rfl,R,g,q0}:=h;rw[a7];have Do:=R.und.2.1;rw[bu,Ol.nd,aE,(dw,@aC,2,Ol.nd,(cn,Ol.nd,bd vc @B (dB,azj,B.len,bO,@E)))];refine{_,@d,p,C,dx,_,_,@d,hp,@V,T.und,@d,u,@d,(a1,@wN),?_};refine(dr,u,@lc,@ab/\∃v2:@ag,σ=[@e5,(aB,(U.take i).foldl @uT 1),v2],{@bj,@r,@d},λi σ H' _ h=>(ey,@wN));.rintro i y σ H1 hi⟨Y,v2,rfl⟩;rw[lQ];have b:i<@mw:=(d6,Do,hd);let{zs,z1,z2,_}:=(pD,Y);have pT:(yB zs).length=@lK:=@Kz;have hU1:=g i;refine{_,@d,_,@d,d,_,@d,(bh,z1,_,@d,@oe,Y,@fQ)};rw[ah,U.take @A,U.take i++[@gF],by rw[rA,bX b,dy,bX b];rfl];rw[ag,(yB zs).length,@lK,@Kz];rw[e1,DB,e2];rfl
  .rintro σ H1⟨Y,v2,rfl⟩;rw[au,Do,gn];exact(am,@iu)
def Jc:@bv:=λ_=>@K
def amr:∀{G:@aa}{aD:@O},bi @qK aD->aD=@g6|[],_,h=>@nL|q::G,_,h=>by cases h with|cons a b=>cases a;rw[amr b];rfl
def ams:∀(G:@aa),bi @qK @g6|[]=>@ay|q::G=>.cons @d (ams G)
def aCP{a b c d:Int}(h:a<c\/(a=c/\b<d)):aSs itemOrd [iT a,iT b] [iT c,iT d]=@h:=by rw[aSt];rcases h with h|⟨rfl,h⟩;rw[Q,@h_];.refine(a_,@g5,?_);rw[aSt];exact .inl @h_
def Fc:ah->aa|.ref a=>a|_=>0
def aCQ:@lz:=λxs H Q=>∃(l:aa)(G:@aa)(f:aa->@ar),xs=[@bb]/\(ag,l,@qK)/\@DO/\G.length<=1000/\∀(g:@aa)(D:aa),g.Perm G->(g.map f).Pairwise (λa b=>¬zZ b a)->(I,D)->Q @fE (aH,D,g.map @hw)
def aCR:(jl,"sorted",aCQ):=by
 intro pins s σ H vs us Q I r h;let{l,G,f,rfl,hl,U,bG,q}:=h;rw[eS,hl];rw[b9];have L:=amr rv;subst L;have key:∀q∈G,∃o t u n,(fX,q)/\@iB=@dR/\@eQ=.seq #[.int (u,(f q).1) t,.int (av,(f q).2) u] n:=by intro q lj;let{_,aD,r,o,e,c,n,d}:=(gz,q,_,q,U q lj);cases r with|cons C D=>cases D with|cons B D=>cases D;let{t,rfl}:=C;let{u,rfl}:=B;exact⟨o,t,u,n,e,c,d⟩
 have tk:∀q∈G,atV @am Jc @bi=some [iT (u,(f q).1),iT (av,(f q).2)]:=by intro q lj;let{o,t,u,n,e,c,d}:=key q lj;unfold atV;rw[ai (by show(match s.heap.get? q with|some o=>_|none=>false)=@h;rw[e];show(match o.cls with|.type n=>n=="tuple"|_=>false)=@h;rw[c];rfl)];show(match s.heap.get? q with|some o=>_|none=>none)=_;rw[e];show(match o.data with|.seq xs _=>_|_=>none)=_;rw[d];rfl
 have ht:∃fs,TupsOf @am Jc @g6 fs:=by clear q hl rv p' hz bG r tk U;induction G with|nil=>exact{[],@ay}|cons a G ih=>let{fs,h}:=ih (λq m=>key q (f6 _ m));let{o,t,u,n,e,c,d}:=key a @v;exact{_,.cons {a,o,_,n,@d,e,c,d,@d,λ_=>(cr,_),λz=>@cL} h}
 let{fs,ht}:=ht;refine aVZ (shape:=Jc) @kh ht (λv hv=>?_) (fp,jb (dA bG)) λst' Z h2 _=>?_;.rw[d0,hv];exact{_,tk a ha}
 have hp:(arrOf st').toList.Perm ((G.map cy).zip @g6):=by have e:=Array.perm_iff_toList_perm.mp Z;rwa[pairsOf_toList]at e
 have cM:∀p∈(arrOf st').toList,p.1=p.2/\p.1∈@g6:=λp m=>mem_zip_self (hp.mem_iff.1 m);generalize M:(arrOf st')=arr at*;have hz2:((G.map cy).zip @g6).map @bA=@g6:=(aX,List.map_snd_zip);have w:(arr.toList.map @bA).Perm @g6:=(gj,hp.map @bA,hz2);have N:@GP=arr.toList.map @bA:=@v;let g:=(arr.toList.map @bA).map Fc;have Pr:g.Perm G:=by have h3:=w.map Fc;rw[E,(G.map cy).map Fc,G,by rw[bC];have:(Fc∘cy)=id:=rfl;rw[aN,qX]];rw[e]at h3;exact h3
 have A:g.map cy=arr.toList.map @bA:=by
  show((arr.toList.map @bA).map Fc).map cy=_;rw[bC];conv=>rhs;rw[<-qX (arr.toList.map (·.2))]
  rw[ak];intro v hv;rw[d0,w.mem_iff.1 hv];rfl
 let{ep,yH}:=aRd @am @g6 (arr.map @bA);have y:(g.map @hw).length<=a7:=(bO,Pr.length_eq,jb (dA bG));refine(Q,@m4,(aH,@bt,g.map @hw),(oZ,{y,@GP,ep,?_,yH}),q g _ Pr ?_ @x5);.rw[N,<-A];exact ams g
 .rw[oZ];intro i j hi hj E bn;have J:i<@wR:=by simpa[g]using hi
  have x:j<@wR:=by simpa[g]using hj
  have hsz:@wR=(pairsOf @g6).size:=(eJ,hp.length_eq,pairsOf_size);have e:=h2 i j @e (G,hsz,x);have kk:∀(k:Nat)(hk:k<@wR)(ia:k<(g.map f).length),KK (aV0 @am Jc) arr k=(nh,k,k):=by
   intro k hk ia;let{e1,e2}:=cM (@wS)[k] @h9;let{a,ha,e3}:=bf.1 e2;have e4:(@fO)[k]=f a:=by
    have:(@fO)[k]=f (Fc ((@wS)[k]).2):=by simp[g]
    rw[this,<-e1,<-e3];rfl
   rw[e4];unfold KK;have:(K,arr,k,(@wS)[k]):=(cw,D9,bX hk);rw[aa];show(atV @am Jc ((@wS)[k]).1).getD []=_;rw[<-e3,tk a ha];rfl
  rw[kk i J @hd,kk j x @ro]at e;have F:(F,aSs itemOrd (nh,j,j) (nh,i,i)):=e;have lc:=aCP (a:=(u,((@fO)[j]).1)) (b:=(av,((@fO)[j]).2)) (c:=(u,((@fO)[i]).1)) (d:=(av,((@fO)[i]).2)) (by rcases bn with h|⟨h,h'⟩;rw[Q,@e];rw[ac,@tH]);rw[lc]at F;cases F
def dC.updW{H:Hp}{D:aa}(m:@jZ)(aI:l≠D)(ht:@ir)(hm:@uK):dC @dB l hs:=(kQ,@rZ,(c z mz).1.updO (hm _ _ (c z mz).1 (c z mz).2) ht)
def dC.offs{H:Hp}(m:@jZ):∀a h,@kD->@e6->a≠l:=by rw[cC];exact λx h mx aI=>mx.off aI a (dC.refs c)
def dC.nt{H:Hp}(m:@jZ):(ce,H l):=by rw[cC];exact(aN,a)
def dC.pop{H:Hp}{h:ax}(m:dC H l (hs++[h])):∃ys t,(ag,l,ys)/\@CQ/\Mv @yZ t h/\dC @yZ l hs:=by
 have d:=m.offs;have e:=m.nt;rw[cC];rw[hH,zs,(by cases hg:zs.getLast? with|none=>rw[DM.1 hg]at b;simp at b|some z=>rw[hX])];rw[bh]at b;have h2:=atR b @d;rw[f8,z.2=h];let{c1,c2}:=c z @v;rw[hz]at c1 c2;refine{_,z.1,a,?_,c1.updO (d _ _ c1 c2) e,L,?_,h2.1,λy D=>?_};rw[ie];.rw[ao,bh];simp
 .let{d1,d2}:=c y (aR,D);exact{d1.updO (d _ _ d1 d2) e,d2}
def ni.updL{H:Hp}{p D:aa}{F:@Q}{xs:@F}(R:(fj,H))(hD:(co,D))(hu:u≠D)(hf:f≠D)(hm:@uK):(fj,@dB):=by
 let{{dx,a},b,c}:=R;have g:∀ys,H D≠some @hU:=λys q=>(gE,hD);have nd:D∉ds:=λm=>by let{i,hi,e}:=lX m;let{zs,hz,_}:=b.2.2.2 i D (r,(@ej),e);rw[hD]at hz;cases hz
 exact{{dx,(m9,hD)},b.updO hu nd g hm,c.updW hf g hm}
def aCS(z o:ax)(F:@Q):both z (F++[o])=both z F++[aK z o]++[aK o z]:=by unfold both;rw[PY];simp
def Om(z:ax):∀F:@Q,(both z F).length=2*@i0|[]=>rfl|o::F=>by unfold both;rw[Bq,dj];have:=Om z F;unfold both at this;rw[aa];simp;omega
abbrev aaZ:aY:=(jj,1)
def Jd:(cy,["self","move","waiting","rest","place","other"],"move",aaZ):=@D
def vA(f:aa)(ds:@aa):@bh:=λc=>c=f\/c∈ds
def amu(C:aa):Sp:=λvs H Q _=>∃(p u f l:aa)(ds:@aa)(U:@aZ)(F S T:@Q)(h:ax)(n:Nat),(ci,@bb,(fj,H),@fZ,0<n,n<=8/\@aI/\oJ n S T U F []/\h∈S/\∀(H':Hp)(U':@aZ)(F':@Q),(j7,U',F')->oJ n S (T++[h]) U' F' []->@tB->Q @cI H')
def aCT(F:(ge,"enter","Group.enter",aaZ))(B:@ad)(T:Ja K C)(adD:@GE)(adv:@Fs)(G:@oE)(adE:@ES):(dz,3,f0,(aC,"move"),amu C):=by
 refine(h,Jd,@C);.let{p,u,f,l,ds,U,F,S,TT,h,n,rfl,_}:=h;rfl
 .let{p,u,f,l,ds,U0,F0,S,TT,h,n,rfl,R0,hl,h0,hn,v,I0,hS,q0}:=h;have hhn:=v h hS;have aI:=vx hhn h0;obtain⟨zu,hzu⟩:∃xs,(co,u):={_,R0.und.1};obtain⟨zf,hzf⟩:∃xs,(co,f):=by let{zs,a,_}:=R0.fnd;exact{_,a}
  rw[a4,(aQ,(bP,Jd.nd,(eQ,@B)),tN dh (gp,@E) (d9,3,Jd.nd,(eo,adE,@ua),(cI,Jd.nd,(eI,adD)),bN (ao,jL,@ak,(aS,@H)) (bF,(gv,(ji,@ak),(bi,@H,@ak),(eI,adv)),(ft,@H),ay (jm,@aC,5,Jd.nd,(cq,@E,(aU,G,@H,@a4)),(cq,@E,(aU,G,@a4,@H)))) bS))];rw[b_,@fY,λW X=>?_];rw[bn,[V.ref l],X];have uW:u≠W:=λe=>by rw[e,X]at hzu;cases hzu
  have fW:f≠W:=λe=>by rw[e,X]at hzf;cases hzf
  have w1:dC (aH,W,[V.ref l]) W [h]:=(nr,l,h,hl.same Y,aI);refine IU (λ(x:List dw×List ax×List ax)σ H'=>∃O v4 N:@ag,σ=@Iy/\(j7,x.1,@bw)/\dC H' W @eO/\@H4/\@tB/\@KY) (λx=>@EU) (U0,F0,[h]) {@r,@r,@r,@d,R0.same Y,w1,My.avK v I0 hS,λc o hc h=>@h3,(ly,1<=_)} ?_;rintro⟨U,F,Wl⟩σ H1⟨O,v4,N,rfl,d,w1,L,k1,qO⟩;dsimp only at d w1 L qO;have vK:=My.aiy L;have xx:@i4<=128:=cU (Ge hn (Nat.mul_le_mul_left 2 hn)) @Z;let{ys,hy,cP}:=w1.len (K:=K);refine(E,W,_,(eN,hy));rw[cP];cases zh:Wl.getLast? with
  |none=>rw[E,Wl,[],DM.1 zh];subst e;rw[aq];exact q0 H1 U F d L k1
  |some k=>
   let{g,rfl}:=Bu.1 zh;have xz:(g++[k]).dropLast=g:=@v;rw[g0];have ll:=L.wh k @v;have aTr:=vx ll.1 h0;let{dx,hp}:=d.ins;let{ys,t,vT,adG,mt2,w2}:=w1.pop;have R2:=d.updL (o:=.lst @lY) vT uW fW w1.offs;have k2:(j2,(cY,W,@lY)):=(nE,k1 c o hc hh);have pW:p≠W:=(op,vT);rw[bN,∃(x:@aZ×@Q×@Q)(O v4 N:@ag),@EU<@ET/\σ'=@Iy/\(j7,x.1,@bw)/\dC H' W @eO/\@H4/\@tB/\@KY];.rintro σ' H'⟨x,u3,u4,u5,hm,rfl,a1,M,J,I,a5⟩;exact{_,hm,x,@d,u3,u4,u5,@d,a1,M,J,I,a5}
   .have b7:(cA,(bE,H1,W,@lY,p),yC u f):=(D,pW,hp);refine(e,(hN,dx,hp,(X,vT),W,ys,@c1,@d,@d,vT,adG,?_));rw[bo,W,@lY];refine{p,u,f,t,ds,U,F,S,k,n,@d,R2,mt2,ll.1,@e,L.tab,λH3 q3 s3 m3 hh3=>?_};refine{_,@d,q3,@rB,@d,m3,@s0};let{ps,cH,qW}:=id (m3.same s4);refine(e,(E,q3,_,(dM,(aJ,cH))));rw[au,qW.len,hh3.len];have sJ:=@f5;have R4:=R2.same sJ;have w4:=w2.same sJ;have k4:=k2.of sJ;by_cases hr:@rB=@b8
    .have JC:cj @rB=n:=(My.Sj hh3).2 hr;rw[JC,(@g5)];rw[aw,{(U,F,g),_,_,_,?_,@d,R4,w4,?_,k4,?_}];.show _+@eV<_+(cF,g,k);simp
     .have:=My.avI L zh hr;rwa[xz]at this
     .show@eV<=1+256*@i0;simp at qO;omega
    .let{hz,Z,ck,I5}:=My.avJ v L zh hr;rw[xz]at I5;have aIE:(A,cj @rB)<@aq:=@e;rw[bq aIE];rw[bK];have m4:=m3.same s4;generalize@rB=r at*;have Ks:=vx Z h0;have aIF:(U.getD (cj r) []).find? (λy=>y.1==@p3)=@r:=we.2 λy D e=>ck y D (eW.1 e);refine(e,q3,r,n,@d,m4,Z,h0,@e,λH5 q5 s5 m5=>?_);have R5:=R4.same s5;have w5:=w4.same s5;let{Be,xC}:=R5.ins;have Do:@iG=n:=(r,R5.und.2.1,L.tab.len);have aIG:cj r<@iG:=(gc,Do);have hd5:(K,ds,cj r,@mx):=bX aIG;let{ps5,aIH,aII}:=id (m4.same s5);let{pp,sE,um}:=aII.get' (i:=cj r) (x:=@p3) (ms,(gc,Z.len));let{kvs,e1,e2,t6}:=(R5.und.2.2.2 _ _ hd5).put (x:=@p3) m5 (vx (My.oF Z) h0) aIF;have pT:(U.getD (cj r) []).length<=2*n:=by have js:(U.getD (cj r) []).map @aA⊆My.signed n:=(sw,My.BN.2 (L.tab.lt _ x hz hx));have:=(L.tab.nodup _ hz).length_le_of_subset js;rwa[au,My.Ek]at this
     refine(e,p,C,Be,_,(c5,xC,@V,T.und,u,_,_,_,@d,@d,aj.of R5.und.1,(hm,cj r,hd5),(hS,q3,(hT,aj.of aIH,(hm,cj r,sE),@mx,.inr {kvs,eG @p3,pp,e1,@d,um,(d,e2,@a2),@d}))));have nD:(ce,H5 @mx):=(aN,e1);have nM:∀a h,Mv H5 a h->@e6->a≠@mx:=(ku,e1);have uD:ua @oC u ds (mi U r):=R5.und.put hd5 e1 t6;have fD:dC @oC f F:=R5.fnd.updW (qm,R5.fnd) nD nM;have wD:dC @oC W g:=w5.updW (qm,w5) nD nM;have mD:Mv @oC q3 r:=(m4.same s5).updO (nM _ _ (m4.same s5) Ks) nD;have pD:ag H5 @mx @J2 p=some @D3:=(D,(λq=>by rw[q,e1]at xC;cases xC),xC);have kD:(j2,@oC):=(k4.of s5).upd (.inr @h9);generalize@oC=H6 at*;let{yf,F7,aIJ,fE}:=fD.snoc mD Ks;have adI:=fD.offs;have Kj:=fD.nt;refine{_,@d,p,C,Be,_,_,@d,pD,@V,T.fnd,@d,(X,F7),_,@d,f,yf,_,@d,@d,F7,(d,aIJ,@a2),?_};have uf:u≠f:=λe=>by have h3:=uD.1;rw[e,F7]at h3;let{zs,a,b,c}:=fD;rw[F7]at a;cases a;have h4:=(f8,h3);have qM:0<@iG:=@e;let{zt,R,_}:=uD.2.2.2 0 ds[0] (bX qM);rw[f7,@F,0,h4];rw[be,be,bX qM]at e0;cases lp:zs[0]? with|none=>rw[lp]at e0;cases e0|some z=>rw[lp]at e0;have e5:z.1=ds[0]:=@yv;let{pz,FQ,_}:=(c z (cZ lp)).1;rw[e5,R]at FQ;cases FQ
     have fds:f∉ds:=λm=>by let{i,hi,e}:=lX m;let{zs,hz,_}:=uD.2.2.2 i f (r,(@ej),e);rw[F7]at hz;cases hz
     have uE:ua @pC u ds (mi U r):=uD.updO uf fds Kj adI;have wE:dC @pC W g:=wD.updW fW.symm Kj adI;have mE:Mv @pC q3 r:=mD.updO (adI _ _ mD Ks) Kj;have pE:(bE,H6,f,(bK,yf,q3),p)=some @D3:=(D,(λq=>by rw[q,F7]at pD;cases pD),pD);have kE:(j2,@pC):=kD.upd @aK;generalize@pC=H7 at*;have R7:ni C H7 p u f ds (mi U r) @nj:={⟨Be,pE⟩,uE,fE};have apE:=My.aiy I5;have F8:(cF,F,r)=@i0+1:=@v;let{zs,za,zb,zc}:=id fE;have ic:@cX=@i0+1:=(hF,zb);have hHF:∀z∈zs,bH n z.2:=λz mz=>(I5.fh z.2 (dt,zb,z,mz)).1;refine{_,@d,p,C,Be,_,_,@d,pE,@V,T.fnd,@d,f,@d,(a1,za),?_};refine(eV,f,@cP,λj σ H'=>∃N:@ag,σ=[@e5,@c2,(J,W),(J,q3),(aB,cj r),N]/\(j7,mi U r,@nj)/\dC H' W (g++@JG)/\Mv H' q3 r/\@Gd/\(aP,f,@cP)/\@tB,{N,@d,R7,by rw[DG];show dC H7 W (g++[]);rw[gk];exact wE,mE,λz mz=>(zc z mz).1,za,kE},λj σ H' _⟨_,_,_,_,_,_,hf,_⟩=>aj.of hf)
     .rintro j y σ H8 hj⟨u5,rfl,R8,w8,m8,z8,f8,k8⟩;obtain⟨z,C5,rfl⟩:∃z,@vv:=@ve;rw[bD,C5];have hZ:=hHF z mz;have yG:j<@cX:=(fk.1 C5).1;have hFj:(ah,@nj,z.2):=(mF,C5);have htk:(F++[r]).take @aj=(F++[r]).take j++[z.2]:=(ab,rA,hFj);have ie:(c1,(g++@JG).length):=by rw[dj,Om,eD];simp at qO;omega
      have big:(W,100001)<a7:=@Z;let{yw,Dq,_}:=w8.len (K:=K);refine{_,@d,(fC,Dq),_,@d,_,@d,q3,(jw,z.1,r,z.2,m8.toS,z8 z mz,hZ.len,Z.len,hZ,λH9 q9 s9 m9=>?_)};have w9:=w8.same s9;let{y9,hy9,aIO,PH}:=w9.snoc m9 (vx (My.jl Z hZ) h0);have adJ:=w9.offs;have nt9:=w9.nt;refine{W,y9,_,(cU,hy9,(af,aIO))};have R10:=(R8.same s9).updL (o:=.lst (bK,y9,q9)) hy9 uW fW adJ;have m10:=(m8.same s9).updO (o:=.lst (bK,y9,q9)) (adJ _ _ (m8.same s9) Ks) nt9;have z10:∀x∈zs,Mv @C8 x.1 x.2:=λx mx=>((z8 x mx).same s9).updO (adJ _ _ ((z8 x mx).same s9) (zc x mx).2) nt9;have f10:(aa,(bE,H9,W,(bK,y9,q9),f),@cP):=(D,fW,s9 _ _ f8);have FV:(j2,@C8):=(nE,s9 _ _ (k8 c o hc hh));generalize@C8=JI at*;let{yw,Dq,_}:=PH.len (K:=K);refine(ef,(fC,Dq),_,@d,z.1,(jw,q3,z.2,r,(z10 z mz).toS,m10,Z.len,hZ.len,Z,λDi q11 qP m11=>?_));have Kt:=PH.same qP;let{y11,apH,aIT,w12}:=Kt.snoc m11 (vx (My.jl hZ Z) h0);have adM:=Kt.offs;have apI:=Kt.nt;refine{W,y11,_,@d,@d,apH,by rw[aIT,dj,uJ];omega,_,@d,(R10.same qP).updL apH uW fW adM,?_,(m10.same qP).updO (adM _ _ (m10.same qP) Ks) apI,λx mx=>((z10 x mx).same qP).updO (adM _ _ ((z10 x mx).same qP) (zc x mx).2) apI,(D,fW,qP _ _ f10),(nE,qP _ _ (FV c o hc hh))};rw[htk,aCS,<-eM,<-eM];exact w12
     .rintro σ H8⟨u5,rfl,R8,w8,m8,z8,f8,k8⟩;rw[au,ic,<-F8,gn]at w8;refine{(mi U r,@nj,g++both r @nj),_,_,_,?_,@d,R8,w8,I5,k8,?_};.show 300*(@i4-(cF,F,r))+@Kg<@ET;rw[F8,dj,Om,F8,dj,uJ];rw[F8]at apE;omega
      .show@Kg<=1+256*(cF,F,r);rw[dj,Om,F8];rw[F8]at apE;simp at qO;omega
def Mv.pop{H:Hp}{W:ax}{x:@ar}(m:Mv H l (W++[x])):∃ys t,(ag,l,ys)/\@CQ/\(P,t,@dI)/\Mv @yZ l W/\(bE,H,l,@lY,t)=some @dI:=by
 rw[bY];have hl:=b.len;rw[hH,ps,(by cases hg:ps.getLast? with|none=>rw[DM.1 hg]at hl;simp at hl|some z=>rw[hX])];have b':(L.map H++[H z])=(W.map λx=>some @dI)++[some @dI]:=by have:=b;unfold dv at this;rw[bh,bh]at this;exact this
 have h2:=atR b' @d;rw[f8,(P,z,@dI)];have c:z≠l:=λe=>by rw[e,a]at hz;cases hz
 refine{_,z,a,?_,hz,{L,?_,dv.upd (show dv H L W from h2.1) a},(D,c,hz)};rw[ie];.rw[ao,bh];simp
def Mv.more{H:Hp}{t:aa}{W:ax}{x:@ar}(m:Mv H l W)(ht:(P,t,@dI)):(gy,@e8,Mv (dh,(bK,ys,t)) l (W++[x])):=by rw[bY];refine{_,a,(r,au,b.len),ps++[t],(ab,ao,bh),?_};exact dv.upd (b.push ht) a
def kZ(R:@bu):@c_:=R.map λy=>(eG y,V.bl @h)
def amv(R:@bu)(x:@ar):(cB (kZ R) @ha).isSome=decide (x∈R):=by
 unfold cB kZ;rw[BH,Eg,BH];rw[aD];rw[atQ,bU];constructor;.rintro⟨y,hy,e⟩;have F:(B,eG y,@ha)=@h:=e;rw[<-aaa (bT F)];exact hy
 rw[e_,x,@eG]
def Az(H:Hp)(q:aa):@ar:=match H q with|some (.tup [.int a,.int b])=>(@hV,(B,b,1))|_=>(db,0)
def amw{H:Hp}{q:aa}{x:@ar}(h:(P,q,@dI)):Az H q=x:=by unfold Az;rw[h];let{a,b}:=x;show((i8,a),(B,(A,@b1),1))=(a,b);cases b<;>rfl
def amx{H:Hp}:∀{ps:@aa}{R:@bu},Paired @A7 ps (kZ R)->(∀q∈ps,(P,q,eT (Az H q)))/\ps.map (Az H)=R|[],[],_=>{@hW,@d}|[],y::R,h=>@ch|p::ps,[],h=>@ch|p::ps,y::R,h=>by cases h with|cons a b=>have J:(bj,eT y):=a;let{c,d}:=amx b;rw[P,λq m=>?_,(aA,cb,d,amw J)];rcases de.1 m with e|e;rw[aj,e,amw J,J];.exact c q e
def amy{H:Hp}{f:aa->@ar}:∀{G:@aa},@DO->dv H G (G.map f)|[],_=>rfl|q::G,h=>by have ih:=amy (λx m=>h x (f6 _ m));unfold dv at ih⊢;rw[cb,cb,cb,ih,h q @v]
abbrev aa0:aY:=top 83
def CB:(ay,["moves","start","reached","waiting","here","move","source","there"],"moves","start",aa0):=@D
def amz:Sp:=λvs H Q _=>∃(l:aa)(S:@Q)(i n:Nat),vs=[@bb,@a3]/\dC H l S/\@aI/\i<n/\n<=52/\∀(H':Hp)(q:aa)(R:@bu),@ab->uX n i S R []->Mv H' q (tE n R)->Q @bi H'
def aCU(F:(ge,"brought_to","brought_to",aa0))(B:@ad):(dz,1,f0,["moves","start"],amz):=by
 refine(h,CB,@C);.let{l,S,i,n,rfl,_}:=h;rfl
 .let{l,S,i,n,rfl,hl,v,hi,hn,q0}:=h;rw[eR];let{zs,za,zb,zc}:=id hl;rw[cu,@v2,zb];rw[as,@oG,aki li @uf g_,(bd,@oG,(eQ,@uf)),(bu,tN dh (gp,@H) (aQ,(cI,@oG,(iB,@H)),(dG,eQ @Y,5,@oG,(d9,6,@oG,(bi,@a4,(df,@ak)),(aw,7,@oG,(b3,(df,@bS),(eL,(df,@bS),(df,@ak)))),bN (jU,@cv,@E) (aQ,(gv,@E,@cv,g_),(cq,@H,@cv)) bS))),(dB,aCR,@v7,af8,(fT,azA @d,@E)))];refine λd hd=>(e,@b3,λt0 CM=>?_);have Y:=(aK,@f4,H,hd);have d1:=(mc,d,@f4);generalize(ex,@f4)=H1 at*;have s2:=(aK,@lo,H1,CM);have t2:=(i9,t0,@lo);have d2:=(aM,d1);rw[cM,t0,@lo];refine{t0,eG @af,@d,t2,d2,?_};have s3:ae H (ag H2 d @zm):=cF @ed hd;have d3:=(f7,d,@zm);rw[el,@zm];rw[b_,@b3,λZ FS=>?_];have s4:=(aK,@lo,H3,FS);have t4:=(jT,Z,@lo);have d4:=(bB,d3);generalize ag H3 Z @lo=H4 at*;rw[P,@fY,λW X=>?_];have s5:=(ax,[V.ref Z],H4,X);have w5:Mv @BO W [@af]:={[Z],ao,by unfold dv;rw[aga,aga,(dl,t4)];rfl};have C:=(dl,d4);have sB:ae H @BO:=s3.trans @jw;have hWH:(I,W):=(s3.trans s4).free X;have dW:d≠W:=λe=>by rw[<-e,d4]at X;cases X
  generalize@BO=H5 at*;refine IU (λ(x:List (Nat×Bool)×List (Nat×Bool))σ H'=>@ab/\∃v4 N v6 v7:@ag,σ=(n1,v4)/\(bl,d,.dT (kZ x.1))/\Mv H' W x.2/\uX n i S x.1 x.2/\@il<=x.1.length) (λx=>2*(2*n-x.1.length)+@il) ([@af],[@af]) {sB,@r,@r,@r,@r,@d,C,w5,My.avR S hi,@L} ?_;rintro⟨R,Wl⟩σ H6⟨s6,v4,N,v6,v7,rfl,d6,w6,I6,hWR⟩;dsimp only at d6 w6 I6 hWR;have vK:=My.avQ I6;let{ys,hy,cP}:=w6.len;rw[gf,W,hy];rw[cP];cases zh:Wl.getLast? with
  |none=>rw[E,Wl,[],DM.1 zh];subst e;rw[aq];refine{_,@d,d,_,@d,d6,λp ps hp hpd=>?_};have s7:=(ax,@bB,H6,hp);let{U,O}:=amx hpd;have dF:@dF=@mB:=(cw,O,au);refine{p,ps,Az H6,@d,ao,λq m=>(eg,U q m),@e,λG D Jr aIW hD=>?_};have s8:=(cu,@qK,s7,hD);have hpR:(G.map (Az H6)).Perm R:=(gj,Jr.map (Az H6),O);let{o1,o2}:=My.avP I6.nodup I6.lt;rw[ag,G.map (Az H6),tE n R,My.aiB (hpR.trans o1) aIW (hpR.nodup_iff.2 I6.nodup) o2];refine q0 _ D R (s6.trans s8) I6 ?_;rw[<-e2];exact{G,ao,amy λq m=>s8 _ _ (U q (Jr.mem_iff.1 m))}
  |some x=>
   let{g,rfl}:=Bu.1 zh;rw[g0];let{L,t,vT,adG,ht,w7,ht7}:=w6.pop;rw[bN,∃(R' b:@bu),2*(2*n-@w0)+@bX<2*(2*n-@mB)+(cF,g,x)/\@ab/\∃v4 N v6 v7:@ag,σ'=(n1,v4)/\@Ky/\Mv H' W b/\uX n i S R' b/\@bX<=@w0];.rintro σ' H'⟨R',b,hm,a1,u4,u5,u6,u7,rfl,M,J,I,a5⟩;exact{_,hm,(R',b),@d,a1,u4,u5,u6,u7,@d,M,J,I,a5}
   simp at hWR;refine(e,(X,vT),W,L,@c1,@d,@d,vT,adG,?_);have s7:ae H @EC:=cF s6 hWH;have d7:(bE,H6,W,L.dropLast,d)=some (.dT (kZ R)):=(D,dW,d6);generalize@EC=H7 at*;have hx:=I6.lt x (I6.wait x @v);rw[dY,(eg,za)];refine(eV,l,@cP,λk σ H'=>@ab/\(bl,t,@dI)/\∃(R' b:@bu)(N v6 v7:@ag),@w0+@eV=@bX+@mB/\@mB<=@w0/\σ=(n1,(J,t))/\@Ky/\Mv H' W b/\tF n i S x k R' b,{s7,ht7,R,g,N,v6,v7,@e,@L,@d,d7,w7,I6.pop},λk σ H' _ h=>(ey,za))
   .rintro k y σ H8 hk⟨s8,f,R',b,u5,u6,u7,bG,OT,rfl,d8,w8,u⟩;obtain⟨z,hzk,rfl⟩:∃z,(K,zs,k,z)/\y=@d5:=by rw[be]at hk;cases e:zs[k]? with|none=>rw[e]at hk;cases hk|some z=>rw[e]at hk;exact(aD,z,(bZ hk).symm)
    rw[bD,hzk];have r:(K,S,k,z.2):=(mF,hzk);have HZ:=v z.2 (cZ r);let{ps,cH,qW}:=(zc z mz).1.same s8;have nu:x.1<z.2.length:=(d,HZ.len,hx);let{pp,sE,um}:=qW.get' (i:=x.1) (x:=at_ z.2 x.1) (ms,nu);refine{_,@d,_,@d,t,_,_,_,@d,@d,qD f,@d,(bs,z.1,_,@qM,(hm,x.1,sE))};refine(cQ,pp,_,qD um,@d,_,@d,pp,_,_,_,@d,@d,qD um,@d,_,@d,t,_,_,_,@d,@d,qD f,@d,_,_,(eX,@d,@de,@b3,λtt htt=>?_));have aIZ:((A,az (at_ z.2 x.1).2)+(A,az x.2))%2=(A,az (bY z.2 x).2):=by rw[<-My.avS];omega
    dsimp only;rw[aIZ];have s9:=(aK,@CE,H8,htt);have T:ag H8 tt @CE tt=some (eT @fL):=ao;generalize ag H8 tt @CE=H9 at*;have d9:=s9 _ _ d8;rw[gb,.inr {kZ R',eG @fL,tt,.inl d9,@d,T,@d}];rw[amv];by_cases cM:@fL∈R';.rw[bq cM];rw[aq];exact{@ys,s9 _ _ f,R',b,_,_,_,bG,OT,@d,d9,w8.same s9,u.old r cM}
    .rw[cG cM];rw[bK];have M9:=u.add v hi r cM;have hf8:=My.Sm u;have pT:(kZ R').length<a7:=by unfold kZ;rw[au];exact@a2
     refine(bh,_,@d,d,_,@d,.inr {kZ R',eG @fL,tt,d9,@d,T,pT,@d});have aI1:iE (kZ R') (eG @fL) @gE=kZ (R'++[@fL]):=by rw[Ni _ (oz,kZ R',eG @fL,(d,amv,cG cM))];unfold kZ;rw[bh];rfl
     rw[aI1];have w9:=w8.same s9;have PJ:(ce,H9 d):=(aN,d9);have PH:Mv @Bm W b:=w9.updO dW.symm PJ;have t10:ag H9 d @wH tt=some (eT @fL):=(D,(λe=>by rw[e,d9]at T;cases T),T);have c:ag H9 d @wH t=some @dI:=(D,(λe=>by rw[e,d8]at f;cases f),s9 _ _ f);have FA:ae H @Bm:=cF @ys hd;have d10:=ao (H:=H9) (a:=d) (o:=@wH);generalize@Bm=JI at*;let{yw,Dq,aI4,Kt}:=PH.more t10;have PF:@bX<=1000:=by have hf9:=My.Sm M9;simp at hf9;omega
     refine(a5,(X,Dq),_,@d,W,yw,@d,@d,Dq,(d,aI4,dA PF),cF FA hWH,(D,(λe=>by rw[e,Dq]at c;cases c),c),R'++[@fL],b++[@fL],_,_,_,@aS,@aS,@d,(D,dW,d10),Kt,M9)
   .rintro σ H8⟨s8,f,R',b,u5,u6,u7,bG,OT,rfl,d8,w8,u⟩;rw[au,ic]at u;have hf8:=My.Sm u;refine{R',b,?_,s8,_,_,_,_,@d,d8,w8,u.fin,@e};rw[dj,uJ];omega
abbrev aa1:aY:=(jj,0)
def Je:(cy,["self","moves","size","place","move"],"moves",aa1):=@D
def aa2(K:aM)(C:aa):Sp:=λvs H Q _=>∃(p dx l:aa)(S:@Q)(n:Nat),(ci,@bb,@n3,dC H l S,S≠[],@aI/\0<n/\n<=8/\∀(H':Hp)(u f:aa)(ds:@aa)(U:@aZ)(F:@Q),(fj,H')->oJ n S S U F []->@n_->Q @cI H')
def aCV(F:(ge,"__init__","Group.__init__",aa1))(B:@ad)(T:Ja K C)(sD:@lV)(aI6:(bZ,"enter","move",3,amu C)):(dz,4,f0,(aC,"moves"),aa2 K C):=by
 refine(h,Je,@C);.let{p,dx,l,S,n,rfl,_}:=h;rfl
 .let{p,dx,l,S,n,rfl,hp,hl,aI7,v,h0,hn,q0}:=h;rw[eR];let{zs,za,zb,zc}:=id hl;rw[cu,@v2,zb];rw[j7,(by cases zs with|nil=>rw[al,zb.symm,aI7]|cons z zs=>rw[a_,z])];have HZ:∀z∈zs,bH n z.2:=λz mz=>v z.2 (dt,zb,z,mz);let{ps0,aI8,aI9}:=(zc u (cZ lp)).1;rw[a8,(bP,Je.nd,(aS,@f0)),(ec,(em,"place",3,Je.nd,(k2,@E),3,Je.nd,aki li (b3,@H,aE) (gf,sD)),@bg,ay (dw,@B,4,Je.nd,(ew,aI6,@ak)))];refine(e,l,_,_,_,(hT,aj.of za,(fz,lp),u.1,(aJ,aI8)));rw[au,aI9.len,(HZ u (cZ lp)).len];rw[de,@aq];refine S7 (te:=λσ H Q=>∀p,@dK->SJ (oY,3) σ (ag H p @f4) λy H1=>M1 (vq fz) [] E0 (wV (EL 2) yk) σ H1 @H7) (lo:=0) (n:=(bk,n)) (λi H'=>@ab/\∃ds:@aa,(b0,@lc)/\@iG=i/\ds.Nodup/\(pE,H')/\∀d∈ds,(I,d)) {aH @bj hD,[],ao,@d,QB,λj d h=>@a5,@hW} ?_ ?_
  .rintro i H1 hi⟨Y,ds,e1,e2,e3,e4,e5⟩;rw[aR,@e];rw[ae,@d];simp only[kU,iQ];refine λd hd=>{_,@d,@b3,@rl};have s2:=(aK,@f4,H1,hd);have d2:=(i9,d,@f4);rw[cM,d,@f4];rw[ef,(gJ,.int @bQ),ht];have Z:=(f7,t,(gJ,.int @bQ));generalize ag H2 t (gJ,.int @bQ)=H3 at*;refine(e,n,@d,h0,@e,λH4 N s4 _ m4=>?_);have sJ:=@f5;have d4:=sJ _ _ d2;refine{t,eG @af,@d,?_,d4,?_};rw[ay,(bB,Z),af7];have zd:ae H1 H4:=s2.trans sJ;have dD:D≠d:=(or,hd);have nmd:∀a h,Mv H4 a h->@e6->a≠d:=(ku,d4);have PJ:(ce,H4 d):=(aN,d4);have L:=vx (My.mS n) h0;have D5:(aa,ag H4 d @LE D,@lc):=(D,dD,zd _ _ e1);have hds:d∉ds:=λm=>by let{j,hj,e}:=lX m;let{zt,R,_}:=e4 j d (r,bX hj,e);rw[hd]at R;cases R
   have T5:∀j d',(ah,ds,d')->TabAt @t_ d' [(@fR,@b8)]:=λj d' h=>((e4 j d' h).same zd).updO (λe=>hds (cg,cZ h)) PJ nmd;have N5:TabAt @t_ d [(@af,@b8)]:=(nr,N,(@af,@b8),m4.updO (nmd _ _ m4 L) PJ,L);have hdH:(I,d):=Y.free hd;have s5:ae H @t_:=cF (Y.trans zd) hdH;generalize@t_=H5 at*;have aI_:∀a h,Mv H5 a h->@e6->a≠D:=λa h m aI q=>by let{ps,cH,qW}:=m;rw[q,D5]at cH;have G:=(f8,cH);cases h with|nil=>exact aI @d|cons x h=>let{q6,hq6,e7}:=qW.get' (i:=0) (x:=x) @d;rw[f7,@F,0,G];rw[be,be,hq6]at e0;cases qM:ds[0]? with|none=>rw[qM]at e0;cases e0|some d0=>rw[qM]at e0;have e8:d0=q6:=@yv;let{zt,R,_}:=T5 0 d0 qM;rw[e8,e7]at R;cases R
   have ntD:(ce,H5 D):=(aN,D5);have I:∀{d' l'},TabAt H5 d' l'->TabAt (an,H5,D,(bK,@lc,d)) d' l':=λ{d' l'}t=>t.updO (nI,t,D5) ntD aI_;refine{_,D5,(bO,e2,@a2),(aE,s5),ds++[d],(ab,ao,bh),by simp[e2],?_,λj d' hj=>?_,λd' m=>?_};.rw[Du];rw[ad,e3,@v,λa ha b hb e=>?_];rw[cz.1 hb]at e;exact hds (cg,ha)
   .rcases Bi j ds.length with hh|hh|hh;.rw[ae2 hh]at hj;exact I (T5 j d' hj)
    .rw[uG @e,hh,Gh]at hj;cases hj;rw[hh,e2];exact I N5
    .rw[uG @e,ny @aS]at hj;cases hj
   .rcases bz.1 m with h|h;.exact e5 d' h
    rw[a5,h,hdH]
  rintro H1⟨Y,ds,e1,e2,e3,e4,e5⟩;rw[(@uV)]at e2;rw[eo];rw[gV,T.und];have pD:p≠D:=(op,hD);have J:(aa,(dj,H1,@ow,D),@lc):=(D,pD.symm,e1);have b7:=(i9,p,(ad,@ow));have T2:(pE,(gU,@ow)):=λj d hj=>(e4 j d hj).updO (nI,e4 j d hj,cK) (aN,cK) (ku,cK);have k2:(hu,H1,@ow):=(f9,@h3);have f2:∀b,(dj,H1,@ow,b)=@r->@bP:=λb h=>Y.free (iN h).1;generalize(gU,@ow)=H2 at*;rw[ax,λf hf=>?_];have s3:=(bM,H2,hf);have O:=(aG,H2,f,[]);have M:=(ac,b7);have hfH:=f2 f hf;have D3:=(ac,J);have T3:=λj d hj=>(T2 j d hj).same s3;have W:(cd,@ez,@ec,(bE,H2,f,[],b)):=λb o h hb=>(ac,k2 b o h hb);rw[c4,f,[]];rw[aW,M,T.fnd,1];have pf:p≠f:=λe=>by rw[<-e,b7]at hf;cases hf
  have c:=(jT,p,(ad,yC D f));have R4:ni C @KH p D f ds (My.start n) []:=by rw[ad,⟨dx,ao⟩,{(D,pD.symm,D3),by rw[e2];simp[My.start],e3,λj d hj=>?_},dC.nil (D,pf.symm,O)];have CV:j<n:=(d6,e2,hj);rw[My.wO CV];refine(T3 j d hj).updO (nI,T3 j d hj,M) (aN,M) (ku,M)
  have k4:(hu,H3,yC D f):=(f9,W b o h hb);rw[show bJ "found" (V.ref f) (bJ "undoing" (V.ref D) [])=yC D f from rfl];generalize@KH=H4 at*;have npl:∀(b:aa)(xs:@F),(co,b)->@ec:=@DP;have npt:∀(b:aa)(xs:@F),(P,b,@d9)->@ec:=@DP;have X:∀(b:aa)(o:HO),@ez->¬vA f ds b:=λb o h hb=>by rcases hb with e|e;rw[b5,hfH];rw[bM,e5 b e]
  have r:∀H',Kp (vA f ds) H4 H'->(aP,l,@cP)/\@Gd:=by intro H' k;have kk:(cd,@ec,@ez,H' b):=λb o hb h=>k b o (X b o h) @Cc;rw[P,kk _ _ (npl _ _ za) za,λz mz=>(zc z mz).1.keep (d:=p) (λxs q=>npl _ _ q @d) (λxs q=>npt _ _ q @d) kk]
  rw[dY,(r H4 (Kp.refl H4)).1];refine(dr,l,@cP,∃(v4:@ag)(U:@aZ)(F:@Q),σ=[@e5,@c2,@fD,@r,v4]/\ni C H' p D f ds U F/\oJ n S (S.take i) U F []/\Kp (vA f ds) H4 H',{@r,My.start n,[],@d,R4,My.avH n S,Kp.refl H4},λi σ H' _⟨_,_,_,_,_,_,k⟩=>aj.of (r H' k).1);.rintro i y σ H5 hi⟨v4,U,F,rfl,R5,I5,k5⟩;obtain⟨z,A8,rfl⟩:∃z,@vk:=@u_;rw[bD,A8];have hSi:(C,S,z.2):=(mF,A8);let{Be,xC}:=R5.ins;refine{_,@d,p,Be,_,@d,xC,@d,_,@d,p,D,f,z.1,ds,U,F,S,S.take i,z.2,n,@d,R5,(r H5 k5).2 z mz,h0,hn,v,I5,cZ hSi,λH6 U' F' R6 I6 k6=>?_};refine{_,U',F',@d,R6,?_,k5.tr k6};rw[rA,hSi];exact I6
  .rintro σ H5⟨v4,U,F,rfl,R5,I5,k5⟩;rw[au,ic,gn]at I5;exact q0 H5 D f ds U F R5 I5 λb o h hb=>k5 b o (X b o h) @Cc
def ir(r t c:aa):@cU:=[("row",.ref r),("told",@c1),("cuts_by_size",.ref c)]
structure jr(K:aM)(C:aa):@u where
 cl:@fk
 row:(ak,"row")
 told:(ak,"told")
 cuts:(ak,"cuts_by_size")
def Jf:Option db->@J|none=>[]|some q=>bI q
def Oo:Option db->Nat|none=>0|some q=>q.length
def yD(zs:(b9,Nat×im)):@bp:=(ja,@vc)
def CD(H:Hp)(c:aa):@u:=(fo,Nat×im,(P,c,.dK (yD zs))/\@yq/\∀z∈zs,jO H z.1 @eR/\Oc @aF @eR/\1<=@aF/\@aF<=6)
def CD.same{H H':Hp}{c:aa}(h:CD H c)(s:@ab):CD H' c:=by let{zs,a,b,e}:=h;exact{zs,@dw,b,λz m=>{(e z m).1.same s,(e z m).2}}
def CD.updO{H:Hp}{c D:aa}{o:HO}(h:CD H c)(aI:c≠D)(ht:@ir)(hn:∀kvs,H D≠some @hR):CD @dB c:=by let{zs,a,b,e}:=h;rw[ap,zs,@rZ,b,λz m=>{(e z m).1.updO (λq=>?_) ht,(e z m).2}];let{ys,hy,_}:=(e z m).1;rw[q]at hy;exact hn _ hy
structure n_(C:aa)(H:Hp)(d r t c:aa)(l:@J)(hs:@Q):@u where
 ins:∃dx,@I4
 row:(ag,r,@m2)
 told:dC H t hs
 cuts:CD H c
def n_.same{C:aa}{H H':Hp}{d r t c:aa}{l:@J}{hs:@Q}(R:(iP,l,hs))(s:@ab):n_ C H' d r t c l hs:=by let{{dx,a},b,e,f}:=R;exact{{dx,@dw},(as,b),e.same s,f.same s}
def n_.re{H H1:Hp}{r t:aa}{l:@J}(R:(iP,l,hs))(s:@cB){r' t':aa}{l':@J}{xy:@Q}(hr:(aa,H1 r',l'.map @aJ))(ht:dC H1 t' xy):n_ C (fx,ir r' t' c) d r' t' c l' xy:=by let{{m,a},b,e,f}:=R;have a1:=@dw;have f1:=f.same s;rw[dP,f1];exact{⟨dx,ao⟩,(D,(λq=>by rw[q,a1]at hr;cases hr),hr),ht.updI a1,f1.updO (λq=>by rw[q,a1]at hz;cases hz) (aN,a1) (aN,a1)}
structure CF(n:Nat)(q:db)(L:List aSu):@u where
 isRow:@ap
 h0:0<n
 hn:@aQ
 few:L≠[]->n<=8
 four:@ew<=4
 wf:@sy
def Fd(S:jA):@u:=match S.row with|none=>@l3=[]|some q=>@BN
def pP(C:aa)(H:Hp)(d c:aa)(S:jA):@u:=∃r t,(iP,Jf @hA,@zd)/\Fd S
def pP.same{C:aa}{H H':Hp}{d c:aa}{S:jA}(h:@lJ)(s:@ab):pP C H' d c S:=let⟨r,t,R,O⟩:=h;{r,t,R.same s,O}
def pP.opened{H:Hp}(h:@lJ)(hS:@tT):∃r t dx,@I4/\(iP,bI q,@Dy)/\@BN:=by let{r,t,R,O}:=h;rw[hS]at R;unfold Fd at O;rw[hS]at O;let{dx,hd}:=@kq;exact⟨r,t,dx,hd,R,O⟩
def Kd(d c:aa)(H H':Hp):@u:=∀b o,@ez->b≠d->b≠c->(R,H' b)
abbrev Gives(C:aa)(d c:aa)(H:Hp)(x:jA×@J)(Q:VK):@u:=∀(H':Hp)(q:aa),pP C H' d c x.1->(aP,q,x.2.map @aJ)->Kd d c H H'->Q @bi H'
def Gives.stay{H:Hp}{x:jA×@J}(g:(fU,x))(D:@lJ){a:@J}(e:x=(S,a)){H1:Hp}{q:aa}(s:@cB)(U:(aa,H1 q,a.map @aJ)):Q @bi H1:=by subst e;exact g H1 q (D.same s) U (λb o h _ _=>(as,h))
def Gives.row{C d c:aa}{H:Hp}{S:jA}{x:jA×@J}{Q:VK}(g:(fU,x)){r t:aa}{q0 q':db}(R:@EE)(O:@EB){a:@J}(e:x=({S with row:=some q'},a))(lj:aG @l4 q'){H1 H2:Hp}{q r' dx:aa}(s:@cB)(N:(aa,H1 r',(aT,q')))(s2:ae (fx,ir r' t c) H2)(U:@Fo):Q @bi H2:=by subst e;have hl:q'.length=@l4:=lj.len;refine g H2 q {r',t,?_,?_} U @DQ;rw[b4,n_ C H2 d r' t c (bI q') (k6,q'.length),hl,(R.re s N (R.told.same s)).same s2];.show CF q'.length q' @l3;rw[hl];exact{lj,@bx,@a1,O.few,O.four,O.wf}
def j7(C:aa)(mk:@J->agg)(b:@J->@u):Sp:=λvs H Q _=>∃(d c a:aa)(S:jA)(q:db)(ns:@J),vs=[@cD,@W]/\@lJ/\@tT/\@oQ/\b ns/\(fU,(dd,mk ns))
def qJ(ns:@J):@u:=@aM<=4000
def lP(ns:@J):@u:=@aM<=700/\∀z∈ns,0<=z/\z<=255
def jg:@yk=@T:=(r,fC,au)
def Jg(h:(bv,decide @rv,mT ns))(h0:0<n)(hn:@aQ):@q9=some @cz/\aG n @cz/\bI @cz=ns:=by rw[dJ,bU]at h;let{Z,h2}:=h;have I:=My.Q0 h2;rw[Z]at I;rw[ad,?_,I,My.agL ns];rw[My.QZ,ai {@e,@e,h2}]
def Jh(h:(F,decide @rv&&mT ns))(S:jA)(r:db)(hl:@c9)(f:db->jA×GP):QO S r ns f=(a9,2):=by
 unfold QO;rw[My.QZ];by_cases hc:@Hc;.rw[ai hc];dsimp only;rw[af];intro e;have:@s4=@aM:=(My.Q0 hc.2.2).len;rw[hc.2.2,(@gP)]at h;cases h
 .rw[af hc]
def Op{r:db}(h:@q9=some q)(I:@ap)(hl:@c9)(S:jA)(f:db->jA×GP):QO S r ns f=f q:=by unfold QO;rw[h];dsimp only;rw[ai (r,I.len,hl)]
def aCW{x:aq}(f:Nat->V){H1:Hp}{D:aa}(hl:(c1,x.cps.toList.length))(hD:@eM)(hw:@j8)(step:∀(i c:Nat)(H':Hp)(Q:VK),(C,x.cps.toList,c)->@d_->(gV,f c)->(g1,some (.str ⟨#[c]⟩)))(hd:(hx,x.cps.toList.map f)):(l3,(l1,(Ik x).stop i H,(Ik x).go i H,@vP/\∀y H',(Ik x).yld i H y H'->kn slot y @d6 H' @wj)):=by
 have hsz:x.cps.toList.length=@gx:=xU;rw[h9,@gx-i,@gx,(pQ,i),@gx];rintro i m H⟨rfl,hi,hs,hm⟩;by_cases bn:i<@gx;.rw[hW,bn,(pQ,@A),@gx];let{rfl,c,hc,rfl}:=y;have oS:(C,x.cps.toList,c):=(d,D9,hc);rw[cp];simp only[kU,iQ];refine(hZ,c,_,oS,hs,hm,@oR);rw[ba,eD,@op];.rw[ao,My.qo f oS]
 .rw[bx,@gx];subst e;rw[hQ,@L];rw[hm,<-hsz,gn]
abbrev aa3:aY:=top 129
def aa4:(aq,["number","digit"],"number",aa3):=@D
def aa5:Sp:=λvs H Q _=>∃k:Nat,vs=[@id]/\k<10^100/\∀(H':Hp)(q:aa),@ab->(aP,q,(jV,Eh k))->(gZ (Eh k)).length<=1000->Q @bi H'
def amA:∀(m k:Nat),k<10^@aP->(Eh k).length<=@aP
 |0,k,h=>(aX,My.Mb @c7)
 |m+1,k,h=>by
  by_cases hk:k<10;.rw[My.Mb hk];simp
  .have a:k/10<10^@aP:=by rw[Dz]at h;exact ae5 (d,zv,h)
   have ih:=amA m (k/10) a;rw[E,k,10*(k/10)+k%10,@e];rw[e,My.ag2 @e @e,dj];simp;exact ih
def aCX{k:Nat}(h:k<10^100):(toString k).toList.length<=100:=by have:=amA 99 k h;unfold Eh atW at this;rwa[au]at this
def aCY(F:(o,"in_decimal","in_decimal",aa3))(B:@ad):(bp,"number",aa5):=by
 refine(h,aa4,@C);.let{k,rfl,_}:=h;rfl
 .let{k,rfl,hk,q0}:=h;have a:((xV (toString @av))).cps.toList=(toString k).toList.map aPR:=(O,Str.ofString_eq_toList);have bG:=aCX hk;rw[an,(em,"digit",1,aa4.nd,ayv (k1,aw1,B.str,boot_str,@Y),1,aa4.nd,(dB,aw2,B.ord,boot_ord,@B))];refine{_,@d,@av,@d,My.awf hk,_,@d,@bZ};refine aCW (x:=xV (toString @av)) (λc=>(a7,c)) (c9,a,au) hD @bm (λi c H' Q _ hs q=>?_) @sT;.exact{_,@d,⟨#[c]⟩,@d,@d,@co}
  .rw[a]at Z;refine q0 H1 D Y ?_ ?_;.rw[Z];unfold gZ Eh atW;rw[bC,bC,bC];rfl
   .unfold gZ Eh atW;rw[au,au];omega
abbrev aa6:aY:=top 131
def aCZ:(eh,aa6):=@D
def vB{H:Hp}(ha:(ag,a,@bs))(hb:(ag,b,@bN))(hl:(c1,@aM))(h:∀H' p,(eR,(aP,p,(lv,0,ns)),@ao)):ajv @W @aH H Q:={a,(dY,b,ha,hb,(fp,cU (v,1+@aM<=100001) @Z),λp hp=>h _ p @rH ao)}
def aC0(F:(o,"tell_row","tell_row",aa6))(T:@bD):(cN,1,λ_=>.row,@fd):=by
 refine(h,aCZ,@C);.rw[aA];rfl
 .rw[kv];rw[aB];rw[an,@tU];rw[P,@fY,@cY];rw[bn,@bs,hz];rw[kz,@dn,(aV,@ev),by rw[jg];have:=O.hn;omega,λH2 p s2 h2=>?_];exact g.stay D @d @ed h2
abbrev aa7:aY:=top 140
def aC1:(eh,aa7):=@D
def aC2(F:(o,"count","count",aa7))(B:@ad)(T:@bD)(b:@GF)(e:@GK):(cN,3,λ_=>.count,@fd):=by
 refine(h,aC1,@C);.rw[aA];rfl
 .rw[kv];rw[aB];rw[an,(e9,(aO,b,(aO,e,@c0)))];rw[P,@fY,@cY];rw[bn,@bs,hz];rw[gS];rw[cm,z,@bs];refine@Eh;rw[aI];refine{@T,@d,@bx,@a1,_,@d,My.RI _ @a1,λH2 p s2 h2 hl=>?_};refine vB (aM,z1) h2 @e @ga;exact g.stay D @d @i5 h3
def dL:(W,1)<=a7:=@Z
def pQ:(W,2)<=a7:=@Z
abbrev aa8:aY:=top 137
def aC3:(eh,aa8):=@D
def aC4(F:(o,"can","can",aa8))(B:@ad)(G:@bT)(T:@bD)(N:@oB)(zi:@po):(cN,5,.can,qJ):=by
 refine(h,aC3,@C);.rw[aA];rfl
 .rw[aH];rw[aB];rw[bb,@ut,(ky,(bN,zi,@B))];rw[bH];rw[aI];rw[dp,@a1];rw[dm];.rw[hb];rw[aq];rw[dn];rw[bw,.can ns,(kh,rw q @cz),@Ch];refine{_,@d,d,C,dx,_,(E,@dn,@V,@G9)};cases hc:rw q (e9 ns)with|true=>rw[eE,@ed]|false=>rw[eF,@ed]
  .rw[cF];rw[ar,@hj];exact@ue
abbrev aa9:aY:=top 138
def aC5:(eh,aa9):=@D
def amB{r:db}(h:@q9=some q)(I:@ap)(hl:@c9)(S:jA)(f:db->jA×GP):aV1 S r ns f=(L,@lS,f q,(a9,5)):=Op h I hl S _
def aC6{r:db}(H:@G)(J:@ap)(h0:0<n)(hn:@aQ)(hc:@lS=@h):(c1,(agh r q).length):=by
 have a:∀(l:@o)(m o z:Nat),(aSv m o l z).length=@R+1:=by intro l;induction l with|nil=>intro m o z;rfl|cons i l ih=>intro m o z;show(_::aSv m (m-i) l z).length=_;rw[cX,ih];rfl
 unfold agh;dsimp only;rw[a,dj,H.len];generalize jx:(au,aV2 n @uy)=G;have vF:G.length=n:=by
  rw[<-jx];unfold done;rw[au];have:@uy<=n:=by split<;>omega
  exact(My.jK this h0).len
 have Z:=My.L7 (GQ q) 0 G vF;have g:(GQ q).length=n:=by unfold GQ;rw[au,J.len]
 rw[g]at Z;have lc:(aSw G (aSx (GQ q) 0 G)).length=n:=(r,My.G5,vF);generalize aSw G (aSx (GQ q) 0 G)=r2 at*;have h2:=My.Q8 (if@aU then[]else@HF) r2 lc;have h3:(if@aU then[]else@HF).length<=n:=by
  split;.exact@aO
  .rw[<-g];exact o8 _ _
 have h4:n*n<=2704:=Ge hn hn;have h5:=cU h2 (DL n h3);omega
def aC7(F:(o,"way","way",aa9))(B:@ad)(G:@bT)(T:@bD)(N:@oB)(zi:@po)(b:(dU,"way_to","other",5,akJ K)):(cN,6,.way,qJ):=by
 refine(h,aC5,@C);.rw[aA];rfl
 .rw[aH];rw[aB];rw[bL,@ut,@BA,(e9,(bN,b,@B))];rw[bH];rw[aI];rw[dp,@a1];rw[dm]
  .rw[hb];rw[aq];rw[dn];rw[lk,.way ns,agh q @cz,_];rw[g6];rw[b2];cases hc:rw q (e9 ns)with
   |true=>
    rw[hc,(@ax)]at ge;rw[aw,@hj];have s3:=(cu,@bs,eV,hz);have z3:=(aG,H2,z,@bs);rw[c4,z,@bs];refine(E,d,C,(fB,(ac,hd),@bz,_,@d,r,a,q,@cz,@T,@d,aj.of (ac,@ev),@Et,{_,(ac,ha)},@bI,I,@bx,@a1,hc,@jx));have y:(aa,H4 p4,(jV,agh q @cz)):=by rw[h4];unfold gZ;rw[bC];rfl
    refine vB (bB,z3) y (by unfold gZ;rw[au];exact aC6 @bI I @bx @a1 hc) @sW;exact(gg,(s3.trans s4).trans s5,h5)
   |false=>rw[hc,(@dT)]at ge;exact(fe,eV)
  .rw[cF];rw[ar,@hj];exact@ue
abbrev aa_:aY:=top 141
def aC8:(eh,aa_):=@D
def aC9(F:(o,"rank","rank",aa_))(B:@ad)(G:@bT)(T:@bD)(N:@oB)(zi:@po)(b:@GF)(e:(Z,"rank_of",["row"],3,akD K)):(cN,5,.rank,qJ):=by
 refine(h,aC8,@C);.rw[aA];rfl
 .rw[aH];rw[aB];rw[bL,@ut,@BA,(e9,(aO,b,(dp,e)))];rw[bH];rw[aI];rw[dp,@a1];rw[dm];.rw[hb];rw[aq];rw[dn];rw[lk,.rank ns,Eh (atO @cz),_];rw[g6];rw[b2];cases hc:rw q (e9 ns)with|true=>rw[hc,(@ax)]at ge;rw[aw,@hj];have s3:=(cu,@bs,eV,hz);have z3:=(aG,H2,z,@bs);rw[c4,z,@bs];refine(e,a,@cz,@T,@d,@Et,I,@bx,@a1,@s0);rw[b_,afm (My.awe I @bx) (My.RI _ @a1),λH5 p5 s5 h5 hl=>?_];refine vB ((s4.trans s5) _ _ z3) h5 @e λH6 p6 s6 h6=>?_;exact(gg,(s3.trans @jw).trans s6,h6)|false=>rw[hc,(@dT)]at ge;exact(fe,eV)
  .rw[cF];rw[ar,@hj];exact@ue
abbrev aba:aY:=top 139
def aC_:(eh,aba):=@D
def aDa(F:(o,"walk","walk",aba))(B:@ad)(G:@bT)(T:@bD)(j:(cW,"is_way","numbers","size",akK K))(i:(dU,"walked","way",3,akL K)):(cN,4,.walk,qJ):=by
 refine(h,aC_,@C);.rw[aA];rfl
 .rw[aH];rw[aB];rw[bL,(ct,(dR,(e4,j)),G.WRONG_LIST),(aZ,(bN,i,@B)),@tU];refine{_,@d,_,@d,d,C,dx,_,_,@d,@Ec};rw[aI];rw[dp,hok];have JY:IB ns @T=@h↔¬@HZ:=by
   unfold IB;rw[ah,ns.all λz=>(bY,0,z)&&(ap,z,@wD),@xu,by congr 1;funext z;rw[Bool.decide_and];rfl];rw[e1];cases L:(ns.all λz=>decide (0<=z/\z<cY q.length))with
   |false=>simp
   |true=>
    rw[aSq,xM,xP,l9,Bool.and_eq_false_iff,l9,l9];constructor
    .rintro⟨Z,h2⟩(h|h|⟨h3,h4⟩);.exact Z (O,DJ.1 h)
     rw[aS];.exact h2.elim (λz=>z h3) (λz=>z h4)
    .intro h;rw[ae,λe=>h (.inl (O,o5.1 e))];by_cases h3:@T=1;rw[ac,λh4=>h (az,⟨h3,h4⟩)];rw[Q,h3]
  by_cases hb:IB ns @T=@h
  .rw[hb];rw[aq];have hn:=JY.1 hb;rw[bw,.walk ns,({S with row:=some @BJ},0::bI @BJ),(fQ,@pZ,hn)];have L:∀z∈ns,0<=z/\z<@wD:=by
    intro z hz;have Z:@xu=@h:=by cases hh:(ns.all λz=>decide (0<=z/\z<cY q.length))with|true=>rfl|false=>rw[al,(jJ,hh),hn]
    exact bT (iR.1 Z z hz)
   have aI:@qr≠[]:=by
    intro e;have:ns=[]:=by simpa using e
    exact hn (.inl (O,this))
   have h2:1<(ns.map oA).length->2<=@T:=by intro h;rw[au]at h;rcases dH q.length 2 with z|z;rw[ai,(az,{by have:=O.h0;omega,h}),hn];.exact z
   have l:∀k∈@qr,k<@T:=by intro k hk;let{z,hz,rfl}:=bf.1 hk;have:=L z hz;omega
   have b:@bN=(ns.map oA).map @aY:=by rw[bC];rw[ak];intro z hz;have:=L z hz;show V.int z=(b6,z.toNat);rw[aSy @l8]
   have v:=My.Eu @bx @qr l h2;have m:=My.HD @bI v;refine(E,d,C,(fB,@dn,@bz,_,@d,r,a,q,@qr,@T,@d,@p5,(G,b,@qh),@d,@bx,@a1,aI,l,h2,λH2 p2 s2 ju=>?_));rw[b2];rw[iP];rw[b6];rw[ir];rw[er,H2,@mU,@mU];rw[lR,@BJ];rw[hP,(ac,zj),(ac,p3),@jx];exact@Hl
  .rw[cF];have hn:@HZ:=aSh.1 λh=>hb (JY.2 h);rw[ar,@hj];rw[fx,.walk ns,9,hn];exact(fD,ge,Y,ao)
def amC{α:@az}{step:@r_}(hw:@AR):∀(l:aV3)(s:α),(iB @cx s l).2=@r->∀y∈l,y.1≠@eP
 |[],_,_,y,hy=>absurd hy rg
 |x::l,s,h,y,hy=>by
  cases e:step s x.1 with
  |none=>rw[cV,My.B4 e]
  |some s'=>
   rw[My.B5 e]at h;rcases de.1 hy with q|q;.subst q;intro z;rw[z,hw]at e;cases e
   .exact amC hw l s' h y q
def abb:∀(xs:@cQ),(∀y∈vp xs,y.1≠@eP)->vp xs=@t6|[],_=>rfl|x::xs,h=>by have Z:@zp:=h @qk (by show _∈(_::_);exact mP);rw[E,vp @lj,(@b7,@tS)::vp xs,(fQ,@Cd,Z)];rw[e]at h⊢;rw[abb xs @Cj,cb]
def abc{b:Nat}:(@cS="("->b=40)/\(@cS=")"->b=41)/\(@cS=";"->b=59):=by
 unfold bQ;by_cases Z:@j_;.rw[ai Z];rw[dx,@b_,@b_,@b_]
 rw[af Z];by_cases h2:@lU;rw[gB,h2,@b_];rw[af h2];by_cases h3:@pl;rw[gB,h3,@b_];rw[af h3];by_cases h4:b=40;.rw[ai h4];rw[dx,λ_=>h4,@b_,@b_]
 rw[af h4];by_cases h5:b=41;.rw[ai h5];rw[dx,@b_,λ_=>h5,@b_]
 rw[af h5];by_cases h6:b=59;rw[gB,h6,λ_=>h6];rw[af h6];rw[dx,@b_,@b_,@b_]
def aDb{p:Nat}(hp:@eB)(h:@ii≠@eP):My.BP @ii=@vp:=by
 have hk:=aag t p @aN;have D:@vp=@dL:=rfl;rw[cJ];have fG:=EZ hp;have bG:@iA=@aN-p:=@Kt;have one:∀b,@aW≠"word"->@aW≠"number"->@kl=b->@dL=[b]:=by intro b Z h2 hb;unfold spelt;rw[Ts Z h2,(v,p+1-p=1),Tr hp,hb];rfl
 by_cases Z:@aW="number"
 .rw[ai Z]at hk;by_cases h2:@ju=@h
  .rw[ai h2,Z]at hk;rw[t_ hk];have i:@ps=o_ @dL:=by show(H,@aW,"number",(ee,@ju),_)=_;rw[aG,Z,h2]
   show Eh @ps=_;rw[i,D];unfold oQ at h2;rw[dJ,mN,bU,bU,bU]at h2;refine My.ag5 _ _ @d @c8 (λx hx=>akP (akc Z @dU hp x hx)) h2.2;rw[e]at bG;simp at bG;omega
  .rw[(@fb)]at hk;exact absurd (Ay @sc @sc @sc @sc @sc) h
 .rw[(@cl)]at hk;by_cases h2:@aW="word";.rw[n0 (hk.trans h2)];rfl
  .by_cases h3:@aW="(";rw[aL,w_ (hk.trans h3),D,one 40 h2 Z (abc.1 h3)];.by_cases h4:@aW=")";rw[aL,yA (hk.trans h4),D,one 41 h2 Z (abc.2.1 h4)];.by_cases h5:@aW=";";rw[aL,CA (hk.trans h5),D,one 59 h2 Z (abc.2.2 h5)];rw[ai,Ay (gb,h2) (gb,Z) (gb,h3) (gb,h4) (gb,h5),h]
def amD(t:@o):(pg,@zp->My.BP @b7=@d4)
 |0,p,x,h,_=>@ch
 |f+1,p,x,h,hw=>by
  rw[fN]at h;rw[en]
  .rw[a0,hp];rcases bz.1 h with h|h;.by_cases hb:@tW;rw[ev,hb];.rw[bd,hb];rw[cz.1 h]at hw⊢;exact aDb hp hw
   .exact amD t f _ x h hw
  rw[ew,hp]
def amE(t:@o):∀(f p:Nat),((fN t f p).map @mY).sum<=@ah-p
 |0,p=>@aO
 |f+1,p=>by
  rw[fN];rw[en]
  .rw[ai hp,bh,Dv];have ih:=amE t f @aN;rw[cJ];have fG:=EZ hp;have hl:(gb t p @aN).spelt.length=@aN-p:=by show@iA=_;unfold spelt;rw[eD,ik];omega
   split;.simp;omega
   .simp[hl];omega
  rw[bk,hp,@aO]
def nc.toP{H:Hp}{ps:@aa}{xs:@cQ}(h:@ka):@pn:=by induction h with|nil=>rw[bp]|cons a _ ih=>let{dx,sp,a1,M,J,_}:=a;exact .cons ⟨dx,sp,a1,M,J⟩ ih
def Ji(hn:0<n)(t:@o):(nR,@rP,∃w,atY n t=.ok w/\@fU/\@rP=0/\@z8=@gD/\aV4 w=(fN t @ah 0).map @qA,atY n t,@rP):=by
 by_cases h6:@ef;.left;rw[ae,h6];unfold je lM;rw[ai h6]
 .right;rw[ae,h6];let{Z,h2}:=My.av_ hn (t:=t) h6;cases hr:atY n t with
  |error q=>rw[g2]
  |ok w=>
   left;let{wf,e,hp}:=Z w hr;have F:je n @K t=({[],@gg},0):=e;refine{w,@d,wf,(aF,F),(aF,F),?_};have Fq:(iB @tE (IX n) @dA).2=@r:=by have e2:=dg @bA F;unfold je lM at e2;rw[af h6]at e2;dsimp only at e2;cases U:(iB (iX n false) (IX n) (lw t)).2 with|none=>rfl|some q=>rw[U]at e2;have e3:@kF=0:=e2;have:(cY q)=(u,q):=rfl;omega
   have a:=amC (My.aiM n @K) _ _ Fq;rw[akg]at a hp;rw[hp,abb _ a,bC];rw[ak];intro x hx;have eh:@zp:=a @qk (d,abb _ a,@uq);exact amD t _ _ x hx eh
def yE{H:Hp}(ha:@oQ)(h:@hc):BL K H a @fB/\(lE ns).length<=700:=by rw[P,aj.of ?_,by unfold lE;rw[au];exact h.1];rw[ha];congr 2;unfold lE;rw[bC];rw[ak];intro z hz;show V.int z=(b6,z.toNat);rw[aSy (h.2 z hz).1]
def AA{x:@A_}{f:α->jA×GP}(h:@ef):(nM,(a9,7)):=ai h
def AB{x:@A_}{f:α->jA×GP}{q:Nat}(h:¬@ef)(hx:x=@hI):(nM,(S,[@kF])):=@GB
def AC{x:@A_}{f:α->jA×GP}{w:α}(h:¬@ef)(hx:x=.ok w):(nM,f w):=@GB
def AD(q:Nat):(ap,@kF,@d7)=@h:=bq (by have:cY q=(u,q):=rfl;omega)
abbrev abd:aY:=top 132
def amF:(hW,abd):=@D
def aDc{CR CP:aa}(F:(o,"act","act",abd))(B:@ad)(T:@bD)(b:@n1)(X:@pm)(G:@CU):(eP,8,.act @fB):=by
 refine(h,amF,@C);.rw[aA];rfl
 .rw[aH];rw[aB];rw[bR];dsimp only at g;rw[bF];rw[as,amF.nd,(e4,X),@mX,(bu,(aZ,(bN,G,@df)),@tU)];refine{_,@d,_,@d,d,C,dx,_,_,@d,@Ec};rw[aI];rw[dg];rw[c9,CR];rcases Ji O.h0 tx with⟨h6,e⟩|⟨h6,⟨k,n,wf,e,l,ep⟩|⟨N,n,e⟩⟩;rw[ce,@Ip];.rw[e];rw[aq];rw[dQ];rw[cd,.act tx,({S with row:=some @uc},0::bI @uc)];have m:=My.HD @bI hh;refine{_,(d3,d,@dn,@I6)};rw[b2];rw[iP];rw[b6];rw[ir];rw[er,H2,@mU,@mU];rw[lR,@uc];rw[hP,(ac,zj),(ac,p3),@jx];exact@Hl
  .rw[e,AD];rw[ar,@H9];exact@lv
abbrev abe:aY:=top 133
def amG:(hW,abe):=@D
def aDd{CR:aa}(F:(o,"shape","shape",abe))(B:@ad)(T:@bD)(b:@n1)(X:@pm)(m:(bH,"written","pieces",alK CP))(M:(qN,CP)):(eP,8,.shape @fB):=by
 refine(h,amG,@C);.rw[aA];rfl
 .rw[aH];rw[aB];rw[bR];dsimp only at g;rw[bF];rw[gy,amG.nd,(e9,(aO,m,@tJ))];rw[bH];rw[aI];rw[dg];refine{_,@d,p,CR,u,(lN,@l6,_,_,@hL)};rcases Ji O.h0 tx with⟨h6,e⟩|⟨h6,⟨k,n,wf,e,l,ep⟩|⟨N,n,e⟩⟩;rw[ce,@j7]
  .rw[e];rw[aq];rw[dQ];rw[cd,.shape tx,(fi,QQ k)];rw[b6];rw[c3,@bs,hz];rw[gL];rw[bo,z,@bs];refine{_,@d,a,tx,@d,s2.seq ie,@e,λH3 j s3 G=>?_};let{ps,PL,L,_}:=G;have U:=amE tx @r6 0;have Z:=aah tx @r6 0;refine{j,ps,fN tx @r6 0,@d,PL,L.toP,@e,@jx};have y:(aa,H4 p4,(jV,QQ k)):=by rw[h4,<-ep];unfold gZ QQ;rw[bC];rfl
   have ll:(c1,(gZ (QQ k)).length):=by unfold gZ QQ;rw[au,ep];have:=Od ((fN tx @r6 0).map @qA);rw[bC,au]at this;have e5:(pF,lz∘λx=>@d4)=(pF,@mY):=rfl;rw[e5]at this;omega
   refine vB ((s3.trans s4) _ _ z2) y ll @sW;exact(gg,(s2.trans @f5).trans s5,h5)
  .rw[e,AD];rw[ar,@j7];exact@lv
abbrev abf:aY:=top 135
def amH:(hW,abf):=@D
def aDe{CR CP:aa}(F:(o,"order","order",abf))(B:@ad)(T:@bD)(b:@n1)(X:@pm)(j:(Z,"order_of",["move"],2,aky)):(eP,8,.order @fB):=by
 refine(h,amH,@C);.rw[aA];rfl
 .rw[aH];rw[aB];rw[bR];dsimp only at g;rw[bF];rw[gy,amH.nd,(e8,(aO,j,@df))];refine{_,@d,_,@Hb};rw[aI];rw[dg];rw[c9,CR];rcases Ji O.h0 tx with⟨h6,e⟩|⟨h6,⟨k,n,wf,e,l,ep⟩|⟨N,n,e⟩⟩;rw[ce,@Ip];.rw[e];rw[aq];rw[dQ];rw[cd,.order tx,(S,[0,cY (aV5 @mE)])];exact(E,p,CR,(kP,b.move,mv,@mE,@T,@d,fO,hh,@a1,pQ,(cX,ge,Y)))
  .rw[e,AD];rw[ar,@j7];exact@lv
abbrev abg:aY:=top 136
def amI:(hW,abg):=@D
def aDf{CR CP:aa}(F:(o,"tame","tame",abg))(B:@ad)(T:@bD)(b:@n1)(X:@pm)(G:@CU)(zi:@po):(eP,8,.tame @fB):=by
 refine(h,amI,@C);.rw[aA];rfl
 .rw[aH];rw[aB];rw[bR];dsimp only at g;rw[bF];rw[gy,amI.nd,(ky,(bN,zi,(bN,G,@df)))];rw[bH];rw[aI];rw[dg];rw[c9,CR];rcases Ji O.h0 tx with⟨h6,e⟩|⟨h6,⟨k,n,wf,e,l,ep⟩|⟨N,n,e⟩⟩;rw[ce,@j7];.rw[e];rw[aq];rw[dQ];rw[cd,.tame tx,(kh,afn @mE)];have m:=My.HD @bI hh;rw[<-My.awg @bI hh]at ge;refine{_,@d,d,C,dx,_,_,@d,@dn,@V,@bz,@d,_,(d3,d,@dn,@I6)};refine{r,p2,q,@uc,@T,@d,aj.of ((Y.trans s2) _ _ @ev),aj.of ju,@bI,m,@bx,@a1,@sU};have kc:=@i5;cases hc:rw q (done (cA q.length k) q)with|true=>rw[eE,kc]|false=>rw[eF,kc]
  .rw[e,AD];rw[ar,@j7];exact(l2,AB h6 n)
abbrev abh:aY:=top 134
def Oq:(iu,["deck","text","reading","answer","pair"],abh):=@D
def aDg{CR CP:aa}(F:(o,"hand","hand",abh))(B:@ad)(T:@bD)(b:@n1)(X:@pm):(eP,8,.hand @fB):=by
 refine(h,Oq,@C);.rw[aA];rfl
 .rw[aH];rw[aB];rw[bR];dsimp only at g;rw[bF];rw[as,Oq.nd,(e4,X),@mX,(cJ,3,Oq.nd,@pR,(dw,@df,4,Oq.nd,(sA,@H,@ak)),@H)];refine(e,(E,d,C,(fB,hd,@bz,(cm,r,@iP))));rw[aI];rw[dg];rw[c9,CR];rcases Ji O.h0 tx with⟨h6,e⟩|⟨h6,⟨k,n,wf,e,l,ep⟩|⟨N,n,e⟩⟩;rw[ce,@j7]
  .rw[e];rw[aq];rw[dQ];rw[cd,.hand tx,(fi,(cA @T k).flatMap @qB)];generalize@mE=M at*;let{ps,cH,qW}:=id fO;rw[b6];have s2:=(ax,@bs,H1,hz);refine{_,@d,p,CR,u,_,_,@d,(aM,hp),@hB,b.move,@d,mv,@d,(a1,(aM,cH)),?_};have qc:∀L:ax,@GY:=by intro L;unfold gZ;rw[au];rw[mO]
   refine(nQ,mv,@d_/\∃v4:@ag,(qP,[@fQ,@bc,@e5,(J,z),v4]),s2,ao,(ey,cH))
   .rintro j y σ H3 hj⟨s3,v4,rfl,h3⟩;rw[k_];let{x,hx,ex}:=qW.get Z;have m:=hh.len;have hn:=O.hn;refine{_,@d,(X,h3),_,@d,z,pp,_,(E,@d,h3,(ac,ex),?_,cF s3 hz,_,@d,?_)};.rw[au,cX,qc,eD];exact@un
    rw[mn]
   .rintro σ H3⟨s3,v4,rfl,h3⟩;rw[au,qW.len,gn]at h3;exact(am,(gg,Y.trans s3,h3))
  .rw[e,AD];rw[ar,@j7];exact@lv
def amJ(n:Nat)(t:@o):(nR,@mN,∃x,at3 n t=.ok x/\My.BZ n x/\dk x≠[]/\@mN=0/\(nO,@vd)/\(eA,fo @vd),at3 n t,@mN):=by
 by_cases h6:@ef;.left;rw[ae,h6];unfold jE lM;rw[ai h6]
 .right;rw[ae,h6];let{Z,h2}:=My.awc (n:=n) (t:=t) h6;cases hr:at3 n t with|error q=>rw[g2]|ok x=>left;let{a1,M,m,e,_,I,a5}:=Z x hr;have F:jE n t=(m,0):=e;refine{x,@d,a1,M,(aF,F),?_,?_};rw[s,F,I];rw[s,F,a5]
def aDh{r:db}(H:@G):((((bt n).map @qS).zipIdx.filter @Lf).map λx=>V.int ((u,x.2)+1))=(jV,(GR r).filter λno=>@fG%2==0):=by
 rw[ah,((bt n).map @qS).zipIdx,(a2,n,((A,bB r @A),i)),by
  apply uC;.simp[bt]
  .intro i Z h2;simp[bt]];rw[ag,GR r,(a2,n,@A),by unfold GR;rw[H.len]];rw[e1,e2,Gq,Gq];unfold gZ;rw[bC,bC,bC];have e3:(br n).filter ((λx:Int×Nat=>decide (x.1%2=0))∘λi=>((A,bB r @A),i))=(br n).filter ((λno=>@fG%2==0)∘λi=>@A):=by apply P9;intro i _;show decide ((A,bB r @A)%2=0)=(bB r @A%2==0);rw[aD];rw[bU,eW];omega
 rw[e3];rw[ak];intro i _;rfl
def aDi{l m:@o}(hm:@yp)(h:(gH,m,l)):@bW=l.eraseDups.length:=by
 have g:@v_:=hm.imp λh=>il h;have hd:=My.Mt @R l @L;refine aSr (g.length_le_of_subset @i9) (hd.length_le_of_subset @i9);.exact Gp.2 ((h c).1 hc)
 .exact(h c).2 (Gp.1 hc)
def aDj:∀(f:Nat)(l:@o)(i:Nat),(at4 f l i).length<=f:=by
 intro f;induction f with
 |zero=>intro l i;exact@L
 |succ f ih=>
  intro l i;unfold at4;dsimp only;split;.exact@aO
  rw[s,cX,aQ2 (ih _ _)]
def aDk{i:Nat}{r:db}(H:@G)(h0:0<n)(hn:@aQ)(hi:i<GS n):(c1,(bI (Ly r i)).length):=by
 rw[jg];have hl:=aDj r.length (GR r) (i/aSz r.length);have hr:=H.len;have:(Ly r i).length<=(at4 r.length (GR r) (i/aSz r.length)).length:=by unfold Ly aV6;dsimp only;split;rw[ba,Lp,@L];rw[ba,afe,Nat.min_le_left _ _]
 omega
def aDl{r z:db}{x:aSn}(H:@G)(h0:0<n)(hx:My.BZ n x)(h:sM r x=some z):aG n z:=by
 rcases My.RF H h0 hx with⟨e,_⟩|⟨q,e,J,_⟩;.rw[h]at e;cases e
 .rw[h]at e;cases e;exact J
abbrev abi:aY:=top 142
def aDm:(iu,["deck","text"],abi):=@D
def aDn(F:(o,"nth","nth",abi))(B:@ad)(G:@bT)(T:@bD)(j:@GM)(M:@Fq)(e:@GK)(k:(dU,"row_of_rank","rank",4,akY K)):(eP,5,.nth @fB):=by
 refine(h,aDm,@C);.rw[aA];rfl
 .rw[aH];rw[aB];rw[bR];dsimp only at g;rw[bF];have n:(dd,.nth tx)=(pG,(da,My.x9 tx=@h/\o_ tx<@rm,o_ tx)):=(fs,(pG,aV7 @rm tx),My.avd @a1);rw[bb,(ct,(dS,(dR,(dp,j)),(ao,yj,@tJ,(aO,e,@c0))),G.NO_SUCH_NUMBER),(e9,(bN,k,@tJ))];refine{_,@d,a,tx,@d,ie,@e,@wd};cases l:My.x9 tx with
  |false=>rw[bK];rw[ar,@hj];rw[af (λh=>by rw[l]at h;cases h.1)]at n;exact(fD,n,Y,ao)
  |true=>
   rw[aq];have b:∀x∈tx,48<=x:=by intro x hx;unfold My.x9 at l;rw[dJ,dJ,iR]at l;have:=l.1.2 x hx;unfold QN at this;exact(bT this).1
   refine{_,@d,a,tx,@d,Y.seq ie,b,@Eh};rw[aI];refine{@T,@d,(bs,@bx,@a1,_,@d)};rw[V];.have yI:¬o_ tx<@rm:=@dY;rw[af (λh=>yI h.2)]at n;exact{dL,(cX,n,Y)}
   .have bn:o_ tx<@rm:=by
     rcases dH (o_ tx) (GS q.length)with z|z;.exact z
     rw[ai,bq (v,(A,o_ tx)>=(A,@rm)),hc]
    rw[ai ⟨l,bn⟩]at n;rw[b6];rw[c3,@bs,hz];rw[gL];rw[bo,z,@bs];refine{_,@d,d,C,dx,_,_,@d,(aM,hd),@V,@bz,@d,_,@d,a,tx,@d,s2.seq ie,b,r,q,@T,o_ tx,@d,aj.of (aM,@ev),@bI,@bx,@a1,bn,@ga};refine vB @nP h3 (aDk @bI @bx @a1 bn) @jx;exact g.stay D n @A9 h4
abbrev abj:aY:=top 144
def Ot:(im,["deck","numbers","at","number"],abj):=@D
def aDo(F:(o,"fate","fate",abj))(B:@ad)(T:@bD)(m:@va):(cN,3,λ_=>.fate,@fd):=by
 refine(h,Ot,@C);.rw[aA];rfl
 .rw[aH];rw[aB];have hn:=O.hn;rw[an,(e9,(j3,[("at",2),("number",3)],Ot.nd,(dW,(jh,m)),(fm,2,Ot.nd,3,Ot.nd),(c_,@H),(b1,@E)))];rw[b6];rw[bn,@bs,hz];rw[gS];rw[cm,z,@bs];refine(ik,(rL,@jv));refine{p2,_,@d,@ig,@g9};refine Nv @aJ ((bt @T).map λno=>(u,@iS)) @Lf (λx=>.int ((u,x.2)+1)) (jX,My.gq) I @ig @cg (λi x H' Q _ hs k=>?_) (λi x H' Q _ _ k=>(e,_,_,@d,@d,@g1)) @xl;.rw[co];rw[ft];exact@g1
  .rw[aDh @bI]at h3;refine vB ((s2.trans s3) _ _ z1) h3 ?_ @jx;.unfold gZ;rw[au];refine(cH,?_);unfold GR;rw[au,lu];omega
   .exact g.stay D @d (l_,@g8) h4
abbrev abk:aY:=top 145
def amK:(iu,["deck","text","condition"],abk):=@D
def aDp{j:aa}(F:(o,"holds","holds",abk))(B:@ad)(T:@bD)(b:r8 K j)(k:@Ew)(G:@HU)(l:(is,"lies_of",alh K)):(eP,8,.asks @fB):=by
 refine(h,amK,@C);.rw[aA];rfl
 .rw[aH];rw[aB];rw[bR];dsimp only at g;rw[bF];rw[as,amK.nd,(e4,k),@mX,(aY,(ky,(aU,G,@df,(jh,l))))];rw[bH];rw[aI];refine{a,tx,@T,@d,ie,@mg,@e,@JM};rw[c9,j];rcases amJ q.length tx with⟨h6,e⟩|⟨h6,⟨x,n,inr,aI,e,xh,jF⟩|⟨N,n,e⟩⟩;rw[ce,(E,p,j,(kP,@l6,dL,@cY))];.rw[e];rw[aq];rw[cd,.asks tx,(kh,at5 q x)];refine(E,p,j,(kP,b.steps,(ik,(rL,λH2 dd s2 lc=>?_))));refine{st,dd,_,_,_,_,at5 q x,@d,dM.same Cw s2,hos,lc,λc hc=>My.jm.2 @DR,eI,xh _ _,@sU};have kc:=@i5;cases hc:at5 q x with|true=>rw[eE,kc]|false=>rw[eF,kc]
  .rw[e,AD];rw[ar,{_,@d,p,j,u,@vY}];exact@lv
abbrev abl:aY:=top 146
def abm:(iu,["deck","text","condition","failing"],abl):=@D
def aDq{j:aa}(F:(o,"sure","sure",abl))(B:@ad)(G:@bT)(T:@bD)(b:r8 K j)(k:@Ew)(M:@GD)(Z:(dU,"first_failing_row","steps",5,alx K)):(eP,8,.sure @fB):=by
 refine(h,abm,@C);.rw[aA];rfl
 .rw[aH];rw[aB];rw[bR];dsimp only at g;rw[bF];rw[a8,(bP,abm.nd,(e4,k)),(bF,@mX,(ct,(go,(aS,(aO,M,@df)),G.MOST_CARDS_NAMED),G.TOO_MANY),(cJ,3,abm.nd,(bN,Z,@df),(aL,(bL,(aS,@H)),(e8,aE)),bd m_ (e8,aE) @H))];rw[bH];rw[aI];refine{a,tx,@T,@d,ie,@mg,@e,@JM};refine{_,@d,p,j,u,_,(E,hp,@hB,(eU,@l6))};rcases amJ q.length tx with⟨h6,e⟩|⟨h6,⟨x,n,inr,aI,e,xh,jF⟩|⟨N,n,e⟩⟩;rw[ce,(E,p,j,u,@vY)]
  .rw[e];rw[aq];rw[cd,.sure tx,(mq,at6<@nG,match sM q x with|none=>(S,[0,1])|some z=>(S,0::0::bI z))];generalize(My.settle 1 (jE @T tx).1.steps (jE @T tx).1.wait).1=ss at*;have vV:∀c∈@e3,1<=c/\c<=@T:=λc hc=>@DR;refine(E,p,j,(kP,b.steps,st,ss,@T,@d,dM,eI,@a1,vV,λH2 p2 m s2 AG oe h2=>?_));refine{p2,_,(dM,(aJ,h2))};have jw:=aDi AG (λc=>(oe c).trans (jF c));rw[au,j5,jw];rw[b2];rw[V]
   .have h4:at6<@nG:=by have:=@b6;show 4<_;omega
    rw[ai h4]at ge;exact{dL,(cX,ge,eV)}
   .have h4:¬at6<@nG:=λh=>(bm,by have h':4<@nG:=h;show(A,@nG)>4;omega);rw[af h4]at ge;have FU:∀m':@o,m'.Nodup->(∀c∈m',c∈@e3)->m'.length<=4:=by intro m' lQ js;have:=lQ.length_le_of_subset (l₂:=@ra) λc oS=>Gp.2 ((jF c).1 (js c oS));have y:@nG<=4:=asC h4;exact cU this y
    have W:@e3≠[]:=λe=>by cases Po:dk x with|nil=>exact aI Po|cons c l=>have:=(jF c).2 (aX,Po);rw[bm];cases this
    refine(e,(cs,d,C,dx,@qz,@V,@bz,@d,_,@d,p,j,u,_,_,@d,(aM,hp),@hB,b.steps,@d,r,st,q,ss,@T,x,@d,aj.of (eV _ _ @ev),@bI,@bx,@a1,dM.same Cw s2,hos,eI,vV,W,FU,jF,λp=>xh _ _,@ga));have kc:=eV.trans s3;refine(e,p3,_,@d,(aJ,h3),@d,_,@d,?_);rw[au,ft];cases hf:sM q x with
    |none=>rw[hf]at ge h3;exact cq {pQ,(cX,ge,kc)}
    |some U=>
     rw[hf]at ge h3;have h3:(aa,H3 p3,(aT,U)):=h3;have IZ:=aDl @bI @bx inr hf;have ic:(bI U).length=@T:=(r,jg,IZ.len);have hn:=O.hn;have h0:=O.h0;rw[aE,λv=>?_,@gC];.exfalso;have h9:(u,(bI U).length)=0:=bT v;omega
     rw[P,pQ,@cY];have s4:=(ax,[@ex,@ex],H3,hz);refine{_,@d,z,(dY,p3,ao,(bB,h3),?_,λp5 xC=>?_)};.show 2+_<=_;rw[au];exact jb @a2
     .exact(gg,aH (kc.trans s4) xC,ao)
  .rw[e,AD];rw[ar,{_,@d,p,j,u,@vY}];exact@lv
def Fe(ns:@J):@u:=2<=@aM/\@aM<=4002/\∀z∈ns,-(2^64)<z/\z<2^64
def amL{a b:Int}(h:At a b n=@h)(hn:@aQ):∃h w:Nat,a=h/\b=w/\0<h/\0<w/\h*w=n/\h<=52/\w<=52/\at7 a b n=@h:=by
 unfold At at h;rw[dJ,dJ,bU,bU,bU]at h;let{Z,h2,h3}:=h;let{x,rfl}:=agj (v,0<=a);let{y,rfl}:=agj (v,0<=b);have h4:x*y=n:=by exact_mod_cast h3
 have hx:0<x:=@e;have hy:0<y:=@e;have e1:x<=x*y:=Nat.le_mul_of_pos_right _ hy;have e2:y<=x*y:=aPW _ hx;exact{x,y,@d,@d,hx,hy,h4,@e,@e,bq ⟨Z,h2,h3⟩}
def amM{a b:Int}(h:(F,At a b n)):(F,at7 a b n):=by unfold At at h;unfold at7;rw[l9];rintro⟨Z,h2,h3⟩;have h3:a*b=@aq:=h3;rw[bq Z,bq h2,bq h3]at h;cases h
def Ou(S:jA)(o:Option cV):jA×GP:=match o with|none=>(a9,9)|some [[q]]=>@Fe|some _=>(a9,5)
def aDr(S:jA){g:cV}(h:1<@eV\/1<@qo):Ou S (some g)=(a9,5):=by match g with|[]=>simp at h|[[]]=>simp at h|[[q]]=>simp at h|[x::y::l]=>rfl|[]::b::l=>rfl|[x]::b::l=>rfl|(x::y::l')::b::l=>rfl
def aDs{g:cV}(G:@ob)(Z:¬1<@eV)(h2:¬1<@qo):∃q,g=[[q]]:=by let{h,w,h0,U,R}:=G.rect;have hl:=R.len;have hh:=@kG;match g with|[]=>simp at hl;omega|[[]]=>simp at hh;omega|[[q]]=>rw[a_,q]|[x::y::l]=>simp at h2|a::b::l=>simp at Z
def aDt{w h:Nat}{r:db}(hl:r.length=h*w):dZ h w @t4:=by rw[P,My.MB w h r,@gW];rw[My.Se]at hx;rw[fG];have hi:=@jo;have fG:@A*w<=h*w:=DL _ hi;rw[KW]at fG;rw[au,eD,ik];omega
abbrev abn:aY:=top 148
def aDu:(eh,abn):=@D
def aDv(F:(o,"alike","alike",abn))(B:@ad)(G:@bT)(T:@bD)(p:@IB)(b:(dU,"alike_when_folded","width",2,ale K)):(cN,3,λns=>@DS,Fe):=by
 refine(h,aDu,@C);.rw[aA];rfl
 .rw[aH];rw[aB];rw[j8];have hx:=hok.2.2 x @v;rw[ga,.alike x y];rw[bb,@Is,(e9,(bN,b,@f0))];refine{_,@d,a,_,_,(ef,@d,@fP,@lw,a,_,_,_,@d,@d,@fP,@u6,_,@Hb)};rw[aI];rw[mg];cases hb:At x y q.length with
  |false=>rw[fx,.alike x y,3,amM hb];exact(fe,@bj)
  |true=>
   rw[iA];rw[bw,.alike (u,h) @gX,(fi,Lz w q),by show@pZ=_;rw[af (d,hg,@q7)];rfl];rw[aw,@hj];rw[bn,@bs,hz];rw[gS];rw[cm,z,@bs];refine{_,(d3,d,@dn,@V,@bz,@d,_,@d,a,_,_,_,@d,@d,@qh,@u6,r,q,@T,w,@d,@p5,@bI,@bx,@a1,U,mw,@jv)};refine vB (aM,z1) (ns:=gZ (Lz w q)) h2 ?_ @ga;.unfold gZ Lz;rw[au];refine(cH,?_);unfold GR;rw[au,lu];have:=O.hn;omega
   .exact(gg,@i5,h3)
abbrev abo:aY:=top 147
def amN:(im,["deck","numbers","grid"],abo):={@d,@d,@d,@aG,@d,@aG,@aG}
def aDw(F:(o,"fold","fold",abo))(B:@ad)(G:@bT)(T:@bD)(p:@IB)(aJt:(Z,"laid",["row","height","width"],1,ak4 K))(aJu:(Z,"folded",["grid","folds"],5,alc K)):(cN,6,λns=>@Gr,Fe):=by
 refine(h,amN,@C);.rw[aA];rfl
 .rw[aH];rw[aB];rw[j8];have hx:=hok.2.2 x @v;have Ba:@aM<=4000:=by have:=hok.2.1;rw[cX,cX]at this;omega
  rw[ga,.fold x y ns];rw[bc,@Is,(bP,amN.nd,(aU,aJu,(es,aJt,@aC,@f0,@f0),(mK,aE))),(bF,(ct,(bL,(aS,@E)),G.WRONG_LIST),(ct,(dS,(gp,@E),(gp,@ty)),G.MORE_THAN_ONE_PILE),(bu,(aZ,(fF,@ty)),@tU))];refine{_,@d,a,_,_,_,@d,@d,@fP,@lw,_,@d,a,_,_,_,@d,@d,@fP,@u6,(k3,hd,@iP)};rw[aI];rw[mg];cases hb:At x y q.length with
  |false=>rw[fx,.fold x y ns,3,amM hb];exact(fe,@bj)
  |true=>
   rw[iA];have GG:=My.avA @bI h0 U hw;have fm:=My.aij ns GG;have n:(dd,@E5)=Ou S (match at8 ns with|none=>none|some f=>aSA (qi w h q) f):=by show@pZ=_;rw[af (d,hg,@q7)];show(match at8 ns with|none=>(a9,9)|some f=>match aSA (qi w h q) f with|none=>(a9,9)|some [[q]]=>@Fe|some _=>(a9,5))=_;cases at8 ns<;>rfl
   rw[bw,@E5,Ou S @BU,n.trans (dg (Ou S) fm)];rw[aq];refine(e,(cs,d,C,dx,hd,@V,@bz,@d,_,@d,a,_,_,_,@d,@d,@fP,@lw,_,@d,a,_,_,_,@d,@d,@fP,@u6,r,q,h,w,@d,aj.of @ev,hw.symm,@a1,hh,mw,λH1 p1 Y g1=>?_));refine(dx,_,a,@qh,@fX);have JV:mn (lv,(u,h),@gX::ns) @mZ @r=@bN:=E4 _ 2;dsimp only;rw[JV];rw[c3,@bN,b7];have g2:=g1.same @gR (ax,@bN,H1,b7);have z2:=(aG,H1,p2,@bN);rw[bo,p2,@bN];refine{p1,p2,_,@T,h,w,ns,@d,g2,aj.of z2,GG,@a1,aDt hw.symm,h0,U,hh,mw,@e,λH3 p3 s3 g3=>?_};have u:=@g8;have GX:∀g',@BU=some g'->GoodG @T g':=by
    intro g' e;by_cases W:@tF;.rw[ai W]at e;cases e
    .rw[af W]at e;exact My.aii _ GG e
   generalize@BU=X at*;let{ys,lT,cP}:=g3.len (K:=K);refine{_,(f1,p3,.inl lT)};rw[cP,ft];cases X with
   |none=>exact(fe,u)
   |some g'=>
    have b:=GX g' @d;replace g3:rW H3 p3 g':=g3;replace cP:@dG=@o0:=cP;let{h',w',yO,Pb,R'}:=b.rect;have J:=R'.len;have hgh:=R'.head yO;rw[cR];rw[j1,@o0];have hi0:0<@o0:=@e;let{L,pl,O9,JS,_,PL}:=g3.ix (K:=K) hi0;let{M,Z,PM}:=PL.len (K:=K);have e0:g'[0]=g'.headD []:=by cases g' with|nil=>rw[al,hi0,@v]|cons a l=>rfl
    dsimp only[rP,pC,tM];rw[bQ,@zy,(e1,@s5,1)];.refine{_,@d,p3,_,(eN,lT)};rw[cP];exact k
    .refine(E,p3,_,_,_,@d,@d,O9,JS,pl,_,(eN,Z));rw[PM,e0];exact k
    by_cases hm:1<@o0\/1<@s5;rw[kw,@zy,(e1,@s5,1),aDr S hm,(fe,u)];.rw[jv,@zy,(e1,@s5,1)];let{q',rfl}:=aDs b (λh=>hm @fN) (λh=>hm @sw);have m:=My.avB b;let{N,I,aJv,aJw,_,v}:=PL.ix (K:=K) (i:=0) @v;replace v:(aa,H3 I,(aT,q')):=v;rw[aw,{_,@d,p3,_,_,_,@d,@d,O9,JS,pl,_,_,(ef,@d,aJv,aJw,d,(dD,u _ _ hd,@bz,3))}];rw[b6];have s4:=(ax,@bs,ag H3 d (ad,@tz),hz);rw[er,H3,@tz,@tz];have p3':(aa,ag H3 d (ad,@tz) I,(aT,q')):=(D,(λe=>by rw[e,u _ _ hd]at v;cases v),v);rw[hP,(bB,zj),(bB,p3'),λH4 p4 s5 h4=>?_];exact g.row R O ge m u v @jw h4
abbrev abp:aY:=iF (top 128) 0
def aDx:(jy,abp):=@D
def amO(C:aa):Sp:=λvs H Q _=>∃(p dx:aa),(hq,@n3,∀(H':Hp)(c:aa),pP C H' p c aV8->(I,c)->@n_->Q @cI H')
def aDy(F:(ge,"__init__","Deck.__init__",abp))(B:@ad)(T:@bD):(dz,1,f0,@mk,amO C):=by
 refine(h,aDx,@C);.let{p,dx,rfl,_}:=h;rfl
 .let{p,dx,rfl,hp,q0}:=h;rw[bc,@nO,@nO,ay (aZ,Ii)];rw[ax,λr jx=>?_];have Y:=(bM,H,jx);have z1:=(aG,H,r,[]);have d:r≠p:=λe=>by rw[e,hp]at jx;cases jx
  rw[cm,r,[]];rw[eo];rw[gV,@bz];have z2:(cA,(dj,H1,@pe,p),@pe):=ao;have r2:(aa,(dj,H1,@pe,r),[]):=(D,d,z1);have k2:(hu,H1,@pe):=(f9,@h3);generalize(gU,@pe)=H2 at*;rw[ax,λt pX=>?_];have s3:=(bM,H2,pX);have Z:=(aG,H2,t,[]);have qW:t≠p:=λe=>by rw[e,z2]at pX;cases pX
  rw[c4,t,[]];have M:=@nP;rw[aW,M,@iF,1];have j:(cA,(dj,H3,@oF,p),@oF):=ao;have q:(aa,(dj,H3,@oF,r),[]):=(D,d,(ac,r2));have t4:(aa,(dj,H3,@oF,t),[]):=(D,qW,Z);have k4:(hu,H3,@oF):=(f9,(ac,k2 b o h hb));generalize ag H3 p (ad,@oF)=H4 at*;refine@i9;have s5:=(aK,@gV,H4,hc);have c5:=ao (H:=H4) (a:=c) (o:=@gV);have f:c≠p:=λe=>by rw[e,j]at hc;cases hc
  have hcH:(I,c):=by cases U:H c with|none=>rfl|some o=>rw[k4 _ _ U f]at hc;cases hc
  generalize ag H4 c @gV=H5 at*;have xC:=(dl,j);rw[aW,xC,@si,2];refine q0 _ c {r,t,{⟨dx,ao⟩,?_,?_,?_},@d} hcH ?_;rw[aK,d,(dl,q)];.exact(sl,(D,qW,(dl,t4)))
  .exact{[],(D,f,c5),QB,λz m=>nomatch m}
  .intro b o h hb;rw[aA hb];exact(dl,@Cc)
abbrev abq:aY:=top 130
def aDz:(eh,abq):=@D
def amP(C:aa):Sp:=λvs H Q _=>∃(d c a:aa)(S:jA)(ns:@J),vs=[@cD,@W]/\@lJ/\@oQ/\(fU,rB S (.load ns))
def aDA(F:(o,"load","load",abq))(B:@ad)(G:@bT)(T:@bD)(k:(Z,"is_deck",["numbers"],2,akA K)):(aI,3,"deck","numbers",amP C):=by
 refine(h,aDz,@C);.let{d,c,a,S,ns,rfl,_}:=h;rfl
 .let{d,c,a,S,ns,rfl,D,ha,g}:=h;let{r,t,R,O}:=id D;let{dx,hd}:=@kq;rw[bs,(ns,(dp,k)),@lh,@nO,(e8,@c0)];refine(e,a,ns,@d,@fP,@wd);have e0:@q9=(da,@Hc,@cz):=My.QZ ns;have e:rB S (.load ns)=(sP,@q9):=rfl;by_cases hb:(bv,decide (1<=@aM/\@ne),mT ns);.rw[hb];rw[dJ,bU]at hb;rw[ai ⟨hb.1.1,hb.1.2,hb.2⟩]at e0;rw[e0]at e;have I:=My.Q0 hb.2;have hl:@s4=@aM:=I.len;have et:bI @cz=ns:=My.agL ns;have y:=@dn;have i:=(aV,ha);rw[aw,{_,@d,_,@d,d,(dD,y,@bz,3)}];have R2:n_ C (fx,@pr) d a t c ns @zd:=R.re Y i (R.told.same Y);have z2:(cA,ag H1 d (ad,@pr) d,@pr):=ao;have k2:Kd d c H (fx,@pr):=λb o h hb _=>(D,hb,@h3);generalize(fx,@pr)=H2 at*;rw[ax,λt2 U=>?_];have s3:=(bM,H2,U);have Z:=(aG,H2,t2,[]);rw[c4,t2,[]];refine{_,@d,d,(dD,@nP,@iF,3)};have R4:n_ C @Av d a t2 c ns []:=R2.re s3 (ac,R2.row) (sl,Z);have j:(cA,ag H3 d (ad,@xh) d,@xh):=ao;have k4:Kd d c H @Av:=λb o h hb hc=>(D,hb,(ac,k2 b o h hb hc));generalize@Av=H4 at*;refine{_,(d3,d,j,@V,@bz,@d,a,_,@d,(aJ,R4.row),pQ,@cY)};rw[e]at g;have s5:=(ax,(lf,(W,@H1)),H4,hz);refine g _ z {a,t2,?_,?_} ?_ (λb o h hb hc=>(dl,k4 b o h hb hc));rw[b4,n_ C _ d a t2 c (bI @cz) [],et,R4.same s5];rw[b4,CF @s4 @cz [],hl,{I,hb.1.1,hb.1.2,λh=>@zs,@aO,λw m=>nomatch m}];.rw[ao,au];rw[ez,_,(lf,cY @s4)];rw[hl];rfl
  .rw[cF];rw[af (λh=>hb (ai,dJ,bU,{{h.1,@eK},@mp}))]at e0;rw[e0]at e;exact cq {dL,(cX,e,Y)}
def aDB(hn:0<n)(t:@o):(nR,@mC,∃L,at9 n t=.ok L/\@sy/\L≠[]/\@mC=0/\@HI=@xV,at9 n t,@mC):=by
 by_cases h6:@ef;.left;rw[ae,h6];unfold je My.lM;rw[ai h6]
 .right;rw[ae,h6];let{Z,h2}:=My.awa hn (t:=t) h6;cases hr:at9 n t with|error q=>rw[g2]|ok L=>left;let{wf,G,w,e1,e}:=Z L hr;have F:je n @h t=({G.map (cA n),@gg},0):=e;refine{L,@d,wf,(aX,e1),(aF,F),?_};rw[F,e1,bh];rfl
def Gives.words{C d c:aa}{H:Hp}{S:jA}{x:jA×@J}{Q:VK}(g:(fU,x)){r t:aa}{q0:db}(hS:@hA=some q0)(R:@EE)(O:@EB){a:@J}{L:List aSu}(e:x=({S with words:=L},a))(W:@l4<=8)(h4:@ew<=4)(wf:∀w∈L,WF @l4 w){H1 H2:Hp}{q t' dx:aa}(s:@cB)(m:dC H1 t' (L.map (cA @l4)))(s2:ae (fx,ir r t' c) H2)(U:@Fo):Q @bi H2:=by subst e;refine g H2 q {r,t',?_,?_} U @DQ;rw[b4,n_ C H2 d r t' c (Jf @hA) (L.map (cA (Oo @hA))),hS,(R.re s (as,@ev) m).same s2];.show Fd {@hA,L};unfold Fd;dsimp only;rw[hS];exact{@bI,@bx,@a1,λ_=>W,h4,wf}
def Jj{H H2:Hp}{p:aa}(hp:@dK)(hd:(I,dx))(k:(cd,(R,(dj,ag H dx (.own p),[],b)),@ec,H2 b)):@jH:=by intro b o h;have hb:@ec:=(gw,hp);have su:b≠dx:=(gw,hd);exact k b o (ai,(@dV),aA su,h) hb
def aDC{S:@Q}(T:My.g8 n S U)(hn:n<=8)(i:Nat):@lK<=1000:=by
 by_cases hi:i<n
 .have cJ:=@ot;have js:∀x∈@KQ,x∈(br n).flatMap λj=>[@fR,(j,@h)]:=by intro x hx;rw[fE];have bn:=T.lt i y hi hy;rw[jT];rw[ab,y.1.1,ja.2 bn];let{{a,b},z}:=y;cases b<;>simp
  have hl:=@qF;rw[au]at hl;rw[E,((br n).flatMap λj=>[@fR,(j,@h)]).length,2*n,by rw[aeX];rw[l6];exact this n];omega
 .rw[dy,ny (af,T.len)];simp
abbrev abr:aY:=top 149
def amQ:(hW,abr):=@D
def aDD{CR:aa}(F:(o,"group","group",abr))(B:@ad)(G:@bT)(T:@bD)(b:@n1)(j:(my,"read_handlings",al4 K CR)):(eP,8,.group @fB):=by
 refine(h,amQ,@C);.rw[aA];rfl
 .rw[aH];rw[aB];rw[bR];dsimp only at g;rw[bF];rw[as,amQ.nd,(e4,j),@mX,(bF,(ct,(dS,(go,@c0,G.MOST_CARDS_FOR_GROUP),(go,(aS,@df),G.MOST_TOLD)),G.TOO_MANY),(aZ,@df),(aY,(e8,@c0)))];rw[bH];rw[aI];rw[nh,λH1 p u W mv v I J tm Y hp x _=>?_];rw[c9,CR];rcases aDB O.h0 tx with⟨h6,e⟩|⟨h6,⟨L,n,wf,m,e,l⟩|⟨N,n,e⟩⟩;rw[ce,@j7]
  .rw[e];rw[aq];rw[l]at x;rw[cd,.group tx,(mq,@Ce,({S with words:=L},[0,cY @ew]))];let{ys,lT,cP}:=x.len (K:=K);rw[au]at cP;dsimp only[rP,pC,tM];rw[bQ,@Bx,@Bw];.refine(ik,@dn,@V,@bz,@d,r,_,@d,(aJ,(aV,@ev)),_,_,@d,@d,_,@d,?_);rw[aI];exact k
   .refine{_,@d,p,CR,u,(lN,b.moves,W,_,(eN,lT))};rw[cP];exact k
   by_cases hm:8<@T\/4<@ew;rw[kw,@Bx,@Bw,ai (show@Ce from hm),(fe,Y)];.rw[jv,@Bx,@Bw];rw[af (show¬@Ce from hm)]at ge;rw[aw,(e,p,CR,u,_,(c5,hp,@hB,b.moves,d,C,dx,_,@d,@dn,@V,@iF,(el,3),?_))];rw[er,H1,ir r W c,ir r W c];have J_:dC (fx,ir r W c) W (L.map (cA @T)):=x.updI @dn;let{M,Z,PM}:=J_.len (K:=K);rw[au]at PM;refine(ik,zj,@V,@iF,@d,W,M,@d,.inl Z,pQ,@cY);refine g.words (H2:=(an,(fx,ir r W c),z,(lf,(W,M.length)))) hS R O ge @e @e wf Y x (aH @b5 hz) ?_;rw[ao,PM];rfl
  .rw[e,AD];rw[ar,@H9];exact@lv
abbrev abt:aY:=top 150
def aDE:(eh,abt):=@D
def aDF{e:aa}(F:(o,"size_of_group","size_of_group",abt))(B:@ad)(G:@bT)(T:@bD)(i:@Iw)(k:gG P w K mg @ba e "size_of_all" @mk 1 (amq e)):(cN,6,λ_=>.size,@fd):=by
 refine(h,aDE,@C);.rw[aA];rfl
 .rw[aH];rw[aB];rw[gQ];rw[au]at cP;rw[bb,@Br,(e8,Fa k @cf @Ft)];rw[ii];rw[cP,ft];rw[gv];rw[h8,.size];.rw[g8];rw[bw,.size,(S,[0,cY (aV9 @Ba)]),@B6];rw[cR];rw[gD];have W:=O.few hw;rw[hT];refine(E,d,C,dx,_,_,@d,hd,@V,@iF,@d,λp j m oU aI=>?_);have L:ae H (ag (ag H j (.own p)) p (.ins e j [])):=Jj m oU λb o h _=>h;rw[mh,R.told.same L];have s2:@jH:=Jj m oU keep;let{l,b7}:=y.ins;let{x,hg}:=My.aiz J;have hsz:=My.avF W v J.tab x hg;refine{p,l,_,@d,b7,@d,p,u,f0,ds,U,F0,@d,y,aDC J.tab W,λH3 s3=>{pQ,@cY}};refine(fD,ge,@g8,?_);rw[ao,<-hsz];rfl
abbrev abu:aY:=top 151
def aDG:(eh,abu):=@D
def aDH{e:aa}(F:(o,"member","member",abu))(B:@ad)(G:@bT)(T:@bD)(i:@Iw)(V:gG P w K mg @ba e "has" (aC,"move") 3 (amo e))(N:@oB)(ad0:@G2):(cN,6,.member,qJ):=by
 refine(h,aDG,@C);.rw[aA];rfl
 .rw[aH];rw[aB];rw[gQ];rw[au]at cP;rw[bL,@Br,@ut,(ky,(gF,V,@Ft,(bN,ad0,@B)))];rw[ii];rw[cP,ft];rw[gv];rw[h8,@yy]
  .rw[g8];have n:(dd,@yy)=QO S q ns λq'=>(kh,auc @Ba @T (jV q q')):=@B6;rw[cR];rw[gD];have W:=O.few hw;rw[hT];rw[bH];rw[aI];rw[dp,@a1];rw[dm]
   .rw[hb];rw[dn];have ge:=n.trans @Ch;rw[aw,(E,d,C,dx,_,_,@d,@dn,@V,@iF,@d,λp j m oU aI=>?_)];have L:ae H1 (ag (ag H1 j (.own p)) p (.ins e j [])):=Jj m oU λb o h _=>h;rw[mh,(R.told.same Y).same L];have s2:@jH:=Y.trans (Jj m oU keep);let{l,b7}:=y.ins;let{x,hg}:=My.aiz J;refine(hN,l,b7,(cs,d,C,dx,(aM,hd),@V,@bz,@d,_,@d,r,a,q,@cz,@T,@d,aj.of (aM,@ev),(d,e3,aj.of (aM,ha)),@bI,I,@a1,@ga));have k:=My.Hx @bI I;refine{p,u,f0,p3,ds,U,F0,_,@uF,@T,@d,y.same s3,h3,k,@a1,J.tab,λH4 s4=>@mf};have M:auc @Ba @T @uF=(B,restOf U 0 @uF,fz @T):=by let{A1,A2,A3}:=My.agw W v;rw[aD];unfold auc agk;rw[eW,bU,My.aut A1 A2 k,A3,<-My.ais v J.tab x hg];exact(jx,@mp,{k,by simp[aV_],h})
    rw[M]at ge;have zd:=@A9;cases hc:decide (restOf U 0 (jV q (e9 ns))=fz q.length)with|true=>rw[eE,zd]|false=>rw[eF,zd]
   .rw[cF];rw[ar,@hj];exact(fD,n.trans @DX,Y,ao)
def okO(ns:@J):@u:=@yR
def BU(L:ax):@GY:=by unfold gZ;rw[au];rw[mO]
def aDI(n:Nat)(R:@bu):(tE n R).length<=2*n:=by unfold tE;refine(cH,?_);unfold My.signed;rw[aeX];rw[l6];exact Lb (this n)
abbrev abv:aY:=top 152
def Ff:(im,["deck","numbers","card","place","answer","pair"],abv):=@D
def aDJ(F:(o,"orbit","orbit",abv))(B:@ad)(G:@bT)(T:@bD)(I:(cW,"brought_to","moves","start",amz)):(cN,3,λns=>.orbit @wJ,okO):=by
 refine(h,Ff,@C);.rw[aA];rfl
 .rw[aH];rw[aB];obtain⟨x,ns,rfl⟩:∃x l,ns=@gd:=by match ns,hok with|x::l,_=>exact{x,l,@d}
  rw[ga,.orbit x];rw[gQ];rw[au]at cP;rw[bc,@Br,(ct,(dS,(ip,@f0),(ao,j4,@f0,@c0)),G.NO_CARD),(bR,3,@pp,(ra,@pp,@pp,@f0),(cI,@pp,@pR),(bu,(dw,(bN,I,@H),5,@pp,(sA,@ak,@a4)),@ak))];rw[ii];rw[cP,ft];rw[gv];rw[h8,.orbit x]
  .rw[g8];have n:(dd,.orbit x)=(if@AA then(a9,4)else(fi,(jE,@T,(pf,(pH,@af),(pH,@rW))))):=@B6;rw[cR];rw[gD];have W:=O.few hw;have hn:=O.hn;rw[hT];dsimp only[rP,pC,tM];rw[bQ,(ap,x,1),@Bt];.exact(cQ,a,_,@fP,@lw,_,_,@d,@d,_,@d,k)
   .refine(cQ,a,_,@fP,@lw,_,@d,d,C,dx,_,(a5,hd,@V,@bz,@d,r,(dM,@iP)));rw[aI];exact k
   by_cases hm:x<1\/@wD<x;.rw[show((ap,x,1)||@Bt)=@h by rw[mN,bU,bU];exact hm];rw[ai (show@AA from hm)]at n;exact cq {dL,(cX,n,@bj)}
   .rw[show(F,(ap,x,1)||@Bt)by rw[xP,l9,l9];exact(jx,hm @fN,hm @sw)];rw[af (show¬@AA from hm)]at n;let{no,rfl}:=agj (v,0<=x);have b1:@e1:=@e;have b2:no<=@T:=@e;rw[afH]at n;rw[aw,{_,@d,d,C,dx,_,_,@d,hd,@V,@bz,@d,r,@d,(a1,@ev),λJ hD=>?_}];have ac8:aj K H r (atN @dg q):=(mj,aj.of (K:=K) @ev,fC,bC);rw[kx,q,ac8];rw[b0];let{pl,pe}:=(hJ,@bI);refine{(X,u),(cQ,a,_,@qh,@lw,J,_,_,(cb,q),_,@d,@d,@k6,@d,?_,(dg,(@nF)),?_,?_,?_)};rw[kr];rw[s,Aq,bq (aF,pe)];.intro m z' hm hz;rw[be,(@nF)]at hz;cases hz;rw[Aq];refine cG @c8;have:(cb,q)=m:=My.zP @bI @e @e;omega
    rw[b6];have s2:=(ax,@bs,H1,hz);rw[gL];rw[bo,z,@bs];rw[b2];refine{_,@d,d,C,(fB,@qz,@iF,_,@d,t,_,(cb,q),@T,@d,R.told.same eV,v,pl,@a1,λH3 p3 U s3 I3 h3=>?_)};rw[bw,.orbit (u,no),(fi,(tE @T U).flatMap @qB),(r,n,My.avN (My.avM v pl I3))];have hML:=aDI @T U;generalize tE @T U=M at*;let{ps,cH,qW}:=id h3;rw[c0,p3,cH];refine(nQ,p3,(cd,(R,H3 b),b≠z,H' b)/\∃N:@ag,(qP,[@fQ,@bc,@r,(aB,(cb,q)),(J,z),N]),λb o h _=>h,@nP,aj.of (h.1 _ _ cH @c8));.rw[e,(@nP)]at cH;cases ps with|nil=>cases cH|cons p ps=>cases cH
    .rintro j y σ H4 hj⟨s4,v4,rfl,h4⟩;rw[k_];let{x,hx,ex}:=qW.get Z;have FQ:pp≠z:=λe=>by rw[e,(@nP)]at ex;cases ex
     refine{_,@d,(X,h4),(E,z,pp,_,(a5,@d,h4,s4 _ _ ex FQ,?_,(f9,s4 _ _ h hb),@d,?_))};.rw[au,cX,BU,eD];exact@un
     rw[mn]
    .rintro σ H4⟨s4,v4,rfl,h4⟩;rw[au,qW.len,gn]at h4;rw[am,(gg,λb o h=>?_,h4)];refine s4 _ _ (ac,eV _ _ h) @c8;rw[e]at h;rw[(@h3)]at hz;cases hz
def Ov{r:db}(H:aG 1 r):∃b,r=[⟨1,b⟩]:=by
 have hl:=H.len;match r,hl with
  |[c],_=>
   have:=H.nos;have Z:@cK∈My.bt 1:=this.mem_iff.1 @v;rw[My.jm]at Z;let{no,b}:=c;have:no=1:=by have:=Z.1;have:=Z.2;simp at*;omega
   exact{b,by rw[aa]}
def aDK{r:db}{K:im}(H:@G)(J:@ap)(h0:0<n)(h6:n<=6)(G:Oc n K):@lS=@h->@rc/\(hp,kP n @fW k∈@ib)/\∀w:@o,@FD->@FE->@zh:=by
 intro hc;by_cases h2:@aX;.have A:=G.all h2;let{U,l}:=(My.aiI H J h2 h6).1 hc;exact{A.nodup,λk hk=>My.aiL h2 H J A l hk,λw hw uh=>My.av4 H J h2 h6 hc A hw uh}
 .rw[dD,n=1];have e:=G.one @d;subst e;let{a,rfl}:=Ov H;let{b,rfl}:=Ov J;have d:a=b:=by cases a<;>cases b<;>first|rfl|rw[al,hc,@Z]
  subst d;have hb:kP 1 (jV [⟨1,a⟩] [⟨1,a⟩]) 0=fz 1:=by cases a<;>decide
  rw[ad,@v,λk hk=>?_,λw hw uh=>?_];.rw[dD,k=0];rw[hb];simp
  .let{k,b,hk,hm,rfl}:=hw;rw[dD,k=0];rw[cz]at hm;have:b=[]:=dg @bA hm;subst this;cases a<;>decide
def aDL{r:db}(H:@G)(J:@ap)(h0:0<n)(h6:n<=6)(hc:(F,@lS)):DI r q=@r:=by
 by_cases h2:@aX
 .rcases My.ahk H J h2 h6 with⟨h,_⟩|⟨w,_,hw,_⟩;.exact h
  .have:=(My.aiI H J h2 h6).2 ⟨w,hw⟩;rw[hc]at this;cases this
 .rw[dD,n=1];let{a,rfl}:=Ov H;let{b,rfl}:=Ov J;cases a<;>cases b<;>first|(rw[al,hc,@Z])|decide
def Ow{zs:(b9,Nat×im)}:(kz,yD zs,.inl @aq,n):=by unfold cB yD;rw[Eg];rw[e6,aW,(B,D.1,(d1,@aq)),λz:aa×(Nat×im)=>@vc,(fP,n),(kV,(b2,@aF),.inl @aq,λq=>@rA)];rw[aa];cases zs.find? λz=>z.2.1==n<;>rfl
def aDM{t u:TS}{D:Ends}{H:Hp}(J:@fy)(Z:∀H',J H'->(dP,H'))(h2:(oi,∀H',J H'->L.nx σ H')):tM tt t u D σ H:=h2 D Z
def pP.stok{H:Hp}(h:@lJ):Fd S:=let⟨_,_,_,O⟩:=h;O
def aDN(H:Hp)(c:aa)(n:Nat):@u:=∃kvs y Cn,(P,c,@b9)/\cB kvs (.inl @aq)=some @k2/\jO H y Cn/\Oc n Cn
abbrev abw:aY:=top 143
def abx:(im,["deck","numbers","size","found"],abw):=@D
def aDO(F:(o,"least","least",abw))(B:@ad)(G:@bT)(T:@bD)(N:@oB)(zi:@po)(aJE:(Z,"fewest_cuts",["size"],3,alE))(aJF:(Z,"least_way",["move","cuts"],3,alG))(ad0:@G2):(cN,5,.least,qJ):=by
 refine(h,abx,@C);.rw[aA];rfl
 .rw[aH];rw[aB];rw[as,abx.nd,@c0,(ns,(aU,N,@B,@E)),aw (ct,(go,@E,G.MOST_CARDS_FOR_LEAST),G.TOO_MANY) (bF,@BA,(hk,(jU,@E,@aC),(gv,@aC,@E,(gf,aJE))),(bu,(bd,abx.nd,(aU,aJF,(bN,ad0,@B),(gP,@aC,@E))),bd m_ (e8,(d_,(aS,@H))) (fT,SU,@H)))];refine(k3,hd,@iP);rw[aI];refine(E,_,@d,a,ns,@T,@d,@fP,@a1,@wd);rw[dm]
  .rw[hb];rw[aq];rw[dn];have n:(dd,.least ns)=(mq,aud<@T,match DI q @cz with|none=>(a9,5)|some w=>(fi,@yK::w)):=@Ch;refine@od;.rw[ai (show aud<@T from(show 6<@T by have:=@b6;omega))]at n;exact{dL,(cX,n,Y)}
   .have h6:@T<=6:=by
     rcases dH 6 q.length with z|z;.exact absurd (bq (v,(A,@T)>6)) hc
     .exact z
    rw[af (show¬aud<@T from Nat.not_lt.2 h6)]at n;rw[g6];rw[b2];cases jv:rw q (e9 ns)with
    |false=>rw[aDL @bI I @bx h6 jv]at n;exact cq {dL,(cX,n,eV)}
    |true=>
     rw[aq];have R2:=R.same eV;have on:=@qz;have PN:=eV _ _ ha;dsimp only[rP,pC];refine aDM (λH'=>n_ C H' d r t c (bI q) @Dy/\Kd d c H H'/\(aP,a,@bN)/\aDN H' c @T) (λH4 hJ=>?_) (λL v=>?_)
     .let{R4,k4,ha4,kvs,y,Cn,hc4,hv4,aJJ,J}:=hJ;let{Dn,Pk}:=R4.ins;let{cJ,cM,ab1}:=aDK @bI I @bx h6 J jv;dsimp only;refine(e,d,C,Dn,_,(c5,Pk,@V,@bz,r,a,q,@cz,@T,@d,aj.of R4.row,(d,e3,aj.of ha4),@bI,I,@a1,@sW));have aJK:tU H5 c (a7,@T) (J,y):=(eO,tU.k (k:=(b2,@T)) (dl,hc4),hv4);refine(e,(cs,d,C,Dn,(dl,Pk),@V,(bh,@si,@d,c,_,@d,aJK)));refine{p5,y,@uF,Cn,@T,@d,h5,My.Hx @bI I,@bx,h6,aJJ.same s5,cJ,cM,J.short,λH6 p6 l s6 h6' hex uh=>?_};have elw:=ab1 l hex uh;rw[elw]at n;replace n:(dd,.least ns)=(fi,@jF::l):=n;let{k,b,hk,hbm,M}:=hex;have vP:@R=@bX+1:=(ab,M,dj);have ie:@bX<=2985984:=J.short _ hbm;refine{_,@d,p6,_,@d,.inr (b_.of h6'),_,_,@d,@d,pQ,@cY};have s7:=(ax,@pk,H6,hz);have z7:=(aG,H6,z,@pk);generalize(an,H6,z,@pk)=H7 at*;rw[aO,p6,.inr (b_.of (eg,h6')),λy8 hy8=>?_];have s8:=(ax,@jL,H7,hy8);refine{z,(dY,y8,s8 _ _ z7,ao,?_,λp9 Kv=>?_)};rw[ba,j5,cU (v,2+@R<=2985990) @Z]
      .have s9:=(cu,@pk++@jL,((s5.trans s6).trans s7).trans s8,Kv);have e5:(lv,@d7,gZ (@jF::l))=@pk++@jL:=by
        rw[au,j5];show@ex::V.int (cY @jF)::_=@ex::V.int ((u,@R)-1)::_;have:cY @jF=(u,@R)-1:=by show(A,@jF)=_;omega
        rw[aa];rfl
       rw[n]at g;have R9:=R4.same s9;refine g _ p9 {r,t,?_,D.stok} ?_ (λb o h hb su=>s9 _ _ (k4 b o h hb su));rw[b4,n_ C _ d r t c (Jf @hA) @zd,hS,R9];.rw[ao,e5]
     .refine(e,(E,d,C,dx,_,_,@d,on,@V,@si,@d,?_));let{zs,F9,p,X}:=id R2.cuts;refine{c,(E,tU.k (k:=(b2,@T)) F9,_,@d,?_)};rw[Ow,BH];cases hf:zs.find? λz=>z.2.1==q.length with
      |some z=>
       rw[aw,v _ {R2,λb o h _ _=>eV _ _ h,PN,_,z.1,@eR,F9,?_,?_}];rw[ay,Ow,hf]
       .have hz1:=zq hf;have hz2:@aF=@T:=by have:=Gd hf;exact eW.1 this
        have:=X z hz1;rw[hz2]at this;exact{@l8,this.2.1}
      |none=>
       rw[ar,(e,@T,@d,@bx,h6,λH3 q3 C3 s3 j gc3=>?_)];have u:=(ac,F9);have JG:@T∉zs.map @qa:=λm=>by let{z,mz,e}:=bf.1 m;have:=we.1 hf z mz;exact this (eW.2 e)
       have ic:@cX<=6:=(mj,p.length_le_of_subset (l₂:=My.bt 6) λx hx=>by let{z,mz,rfl}:=@kv;exact My.jm.2 (X z mz).2.2,au,My.gq);refine{_,@d,d,C,dx,_,_,@d,(ac,on),@V,@si,@d,_,@d,(cm,c,Ie.k (k:=(b2,@T)) u (by unfold yD;rw[au];exact@a2))};have aJP:iE (yD zs) (bG,@T) (.ref q3)=yD @vz:=by
        rw[Ni];.unfold yD;rw[bh];rfl
        rw[ay,Ow,hf]
       rw[aJP];have W:c≠d:=λe=>by rw[e,on]at F9;cases F9
       have U:=R2.same s3;refine v _ {?_,λb o h hb su=>?_,?_,yD @vz,q3,C3,ao,?_,?_,gc3}
       .let{{Z,zj},hr3,FS,_}:=id U;let{tz,htz,_}:=id FS;refine{{Z,(D,W.symm,zj)},(D,(λe=>by rw[e,u]at hr3;cases hr3),hr3),FS.updW (λe=>by rw[e,u]at htz;cases htz) (aN,u) (λa h m _ e=>by let{ps,cH,_}:=m;rw[e,u]at cH;cases cH),@vz,ao,?_,?_};rw[s,bh,Du.2 {p,@v,λx hx y hy e=>JG (by rw[ag,y,@T,cz.1 hy];rw[<-e2,<-e];exact hx)}]
        .intro z mz;have up:∀{y:aa}{C':im},jO H3 y C'->jO (ag H3 c (.dK (yD @vz))) y C':=λh=>h.updO (pP,h) (aN,u);rcases bz.1 mz with m|m;.exact{up ((X z m).1.same s3),(X z m).2}
         rw[a5,m,{up j,gc3,@bx,h6}]
       rw[aK,su,(ac,eV _ _ h)];rw[aK,(λe=>by rw[e,F9]at PN;cases PN),(ac,PN)];.rw[Ow,aSC,hf];simp
       .exact j.updO (pP,j) (aN,u)
  .rw[ig.2 hb];rw[ar,@hj];exact@ue
def pR:Nat->@J->agg|0,ns=>.load ns|1,_=>.row|2,ns=>.act @ik|3,ns=>.shape @ik|4,ns=>.hand @ik|5,ns=>.order @ik|6,ns=>.tame @ik|7,ns=>.can ns|8,ns=>.way ns|9,ns=>.walk ns|10,_=>.count|11,ns=>.rank ns|12,ns=>.nth @ik|13,ns=>.least ns|14,_=>.fate|15,ns=>.asks @ik|16,ns=>.sure @ik|17,ns=>@Gr|18,ns=>@DS|19,ns=>.group @ik|20,_=>.size|21,ns=>@yy|22,ns=>.orbit @wJ|_,_=>.row
def okI:(Y,Nat,@J)|2,ns=>@hc|3,ns=>@hc|4,ns=>@hc|5,ns=>@hc|6,ns=>@hc|7,ns=>qJ ns|8,ns=>qJ ns|9,ns=>qJ ns|11,ns=>qJ ns|12,ns=>@hc|13,ns=>qJ ns|15,ns=>@hc|16,ns=>@hc|17,ns=>Fe ns|18,ns=>Fe ns|19,ns=>@hc|21,ns=>qJ ns|22,ns=>okO ns|_,_=>True
def spI(C:aa):Nat->Sp|0=>amP C|k+1=>j7 C (pR @aV) (okI @aV)
def amU(fs:Nat->aa):@bp:=(br 23).map λ(i:Nat)=>((d1,@aL),V.ref (fs i))
structure amV(P:cE)(w:cn)(K:aM)(mg:@aT)(base:bV)(C o:aa)(fs:Nat->aa):@u extends@bT where
 CALLS:(fZ,"CALLS",o)
 CALLS_d:(dy,o,amU fs)
 hs:∀k,k<23->∃fd ps,(dz,8,fs k,ps,spI C k)/\uM K (.ref (fs k))=@h/\@lT
def amW(g:Nat->V):∀(m k:Nat),k<m->cB (iW,@K8) (.inl @av)=some (g k)
 |0,k,h=>@e
 |m+1,k,h=>by
  unfold cB;rw[qY,bh,aSC];by_cases hk:k<m;.have:=amW g m k hk;unfold cB at this;cases hf:((br m).map λ(i:Nat)=>((.inl (i:Int):aW),g i)).find? λD=>decide (D.1=(.inl (k:Int):aW))with|none=>rw[hf]at this;cases this|some x=>rw[hf]at this;exact this
  .rw[dD,k=m];have:((br k).map @K8).find? (λD=>(B,D.1,(d1,@av)))=@r:=by rw[we];intro x hx e;rw[fG];have Z:=@jo;have h2:=wy (bT e);omega
   rw[aa];simp
def aDP{k:Nat}(h:@hA=@r)(hk:k≠0):@oJ=(a9,1):=(rT,(a9,1))
def aDQ{k:Nat}(h:@tT)(hk:k≠0):@oJ=(dd,@ms):=(rT,(dd,c))
abbrev abz:aY:=top 157
def amX:(bf,["deck","call","numbers","handler"],@BC,abz):=@D
def amY(C:aa):Sp:=λvs H Q _=>∃(d c a:aa)(S:jA)(k:Nat)(ns:@J),vs=[@cD,@id,@W]/\k<23/\@lJ/\@oQ/\okI k ns/\(fU,@oJ)
def aDR{o:aa}{fs:Nat->aa}(F:(o,"answer_of","answer_of",abz))(B:@ad)(T:@bD)(G:amV P w K mg @ba C o fs):(ae,9,@BC,amY C):=by
 refine(h,amX,@C);.let{d,c,a,S,k,ns,rfl,_}:=h;rfl
 .let{d,c,a,S,k,ns,rfl,hk,D,ha,hok,g}:=h;let{r,t,R,O}:=id D;let{dx,hd}:=@kq;rw[bL,(ct,(eB,(ao,tO,@B,dB G.LOAD),(bL,@c0)),G.NO_DECK),(bd,amX.nd,Nw G.CALLS G.CALLS_d @B @cg),ay4 (i:=3) (k:=8) @cf (be,@Y,@E)];refine EX @AM (sN,@hA) (λQ' kk=>?_) (λQ' kk=>?_) ?_;.rw[bl];rw[ft,<-decide_not];exact kk
  .refine{_,@d,d,C,dx,_,_,@d,hd,@V,@bz,(f1,r,@iP)};rw[au,ft];exact kk
  have go:∀(H':Hp),pP C H' d c S->H'=H->(k=0\/∃q,@tT)->spI C k [@cD,@W] H' Q E0:=by
   intro H' L e U;subst e;rcases U with rfl|⟨q,U⟩;.exact@Jw
   .cases k with|zero=>exact@Jw|succ k=>rw[aDQ U @e]at g;exact{d,c,a,S,q,ns,@d,L,U,ha,hok,g}
  let{p,n,m,b,l}:=G.hs k hk;have hv:=amW (λi=>V.ref (fs i)) 23 k hk;by_cases vL:k=0;.rw[(hs,(F,@AM),l9),wx];rw[aw,(e,(cm,(d1,@av),hv))];exact{_,_,_,(E,m,b,l,_,@d,_,@d,go H D @d (.inl vL))}
  .rw[(hs,@AM=@h,bU),Bx];cases U:S.row with|none=>rw[aDP U vL]at g;exact cq {dL,(cX,@d,@bj)}|some q=>unfold Fd at O;rw[U]at O;have j:@BN:=O;have h0:=j.h0;rw[show(F,(sN,some q))by rw[l9];show¬(u,@yk)=0;rw[jg];omega];rw[aw,(e,(cm,(d1,@av),hv))];exact{_,_,_,_,@d,m,b,l,_,@d,_,@d,go H D @d (a_,q,U)}
def del(H:Hp)(g:aa):Hp:=λb=>(H,b,g,@r,H b)
def aDS{H:Hp}{g:aa}:del H g g=@r:=@ax
def AE{H:Hp}{g:aa}(h:b≠g):del H g b=H b:=af h
def amZ{H:Hp}{g:aa}(h:(R,del H g b)):@ez/\b≠g:=by unfold del at h;by_cases e:b=g;rw[ev,e];.rw[bd,e];exact⟨h,e⟩
def aDT{H:Hp}{s:aF}{g:aa}{xs:@F}{aD:@O}(I:@I)(hg:(co,g))(N:(bx,g,@gf)):Inv X ((g,@gf)::@P) σ @sb s:=by
 have sub:∀b,@bP->del H g b=@r:=λb h=>by
  unfold del;split;.rfl
  .exact h
 rw[ly,sub _ @gq,λx c e=>sub _ @lO,?_];.exact(pM,λb o Z h2 h3=>sub _ (iv,Z,h2,h3),λb ys h=>(sm,@EZ),λb o u h=>(sm,@Fg),λb ps h=>by let{m,this}:=I.base.tbls b ps h;exact{m,(d,AE (jC,hg),this)})
 .intro p hp;rcases bz.1 hp with m|m;rw[ln,xH _ m]
  .rcases de.1 m with e|m
   .subst e;refine{N,aDS,@c8,λhb=>?_,λv e=>@kn};.have:=I.free;rw[<-e]at this;rw[hg]at this;cases this
    .rw[fJ];have:=I.base.free g o N (I.ok.frf g hb) λz=>I.ok.exfs g z hb;rw[hg]at this;cases this
   rw[ln,qZ _ m]
 .intro a o e;let{e1,aI}:=amZ e;refine(I.hok a o e1).stay (λb u _ q=>q) (λb q=>?_) (λb ys q=>?_);rw[i8];rw[i8]
def aDU{f:L2.St}{H:Hp}{s j:aF}{g:aa}{xs:@F}{aD:@O}(I0:(gA,f,k,j))(d:(aa,k g,ys))(hl:@X<=a7)(hv:@kM)(I:Inv X ((g,@gf)::@P) σ H s):(ar,(aH,g,xs),s):=by
 have pg:=I.pin (g,@gf) (qZ _ mP);have hn:(I,g):=pg.2.1;have up:∀b o,@ez->(R,(bE,H,g,xs,b)):=λb o h=>(D,(λe=>by rw[e,hn]at h;cases h),h);rw[ly,?_,@sM,@cu]
 .refine{I.base.keep,I.base.slot,λb o Z h2 h3=>?_,I.base.there,λb ys h=>up _ _ @EZ,λb o u h=>up _ _ @Fg,λb ps h=>let⟨m,q⟩:=I.base.tbls b ps h;{m,up _ _ q}};rw[aA @c8];.exact(iv,Z,h2,h3)
  .have:=I0.base.free b o Z h2 h3;rw[e,d]at this;cases this
 .rw[aA @c8];.exact@gq
  .have:=I0.free;rw[e,d]at this;cases this
 .rw[aA @np];.exact@lO
  .have:=I0.freeC x c e;rw[z,d]at this;cases this
 .have h0:=I0.pin p hp;let{a,b,c}:=I.pin p (by
   rcases bz.1 hp with m|m;.exact xH _ m
   .exact qZ _ (f6 _ m));rw[ad,a,?_,c];rw[aA @np];.exact b
  .have:=h0.2.1;rw[z,d]at this;cases this
 .intro a o e;by_cases ha:a=g;.subst ha;rw[ao]at e;cases e;exact⟨hl,aD,n,hv,pg.1⟩
  .rw[aA ha]at e;exact(I.hok a o e).stay (λb u _ q=>q) (λb q=>up _ _ q) (λb ys q=>up _ _ q)
def aDV{t:TE}(he:PE X e t):PE X e (λσ H Q=>∃g xs,(co,g)/\t σ @sb λv H'=>H' g=@r->Q v (an,H',g,xs)):=by unfold PE at*;intro pins s σ H Q I⟨g,xs,hg,h⟩;let{hl,aD,n,hv,N}:=(c2,g,hg);refine(i6,he _ s σ _ _ (aDT I hg N) h,λu Y⟨v,H1,L,rv,O⟩=>?_);have pg:=L.pin (g,_) (qZ _ mP);exact{v,(cY,g,xs),aDU I hg hl hv L,rv,O pg.2.1}
def aDW{x:aq}(h:@r2)(hg:@cF:=by rfl)(hd:@cc:=by decide):(kd,@W):=z_ (v:=@W) hg h @d hd
def yF{t:@J}(h:(os,aSD z 8,700)):lP t:=by rw[dJ,bU,iR]at h;rw[P,h.2,@cY];have:=h.1 z hz;unfold aSD at this;rw[dJ,bU,bU]at this;have h2:z<256:=@tk;exact{@l8,@e}
def CH{t:@J}(h:(os,Ei z,4000)):qJ t:=by rw[dJ,bU]at h;exact h.2
def Jk{z:Int}(h:Ei z=@h):-(2^64)<z/\z<2^64:=by unfold Ei at h;rw[dJ,bU,bU]at h;omega
def aDX{p:Int}{r:@J}{c:List @J}{t:@J}(h:@Cy)(ha:@yG):∃(k:Nat)(ns:@J),p=k/\k<23/\okI k ns/\(∀S,GU S (rh c)=@oJ)/\di p<=r.length/\(tI p=@h->ns=@sv/\t=@su)/\((F,tI p)->∃m rest,@su=m::@bl/\0<=m/\@zT/\ns=@sv++@hK/\t=@xY):=by
 let{h0,a,J,hn,hl}:=My.av7 h;let{k,rfl}:=agj h0;have hk:k<23:=@e;have two:∀r:@J,2<=r.length->∃x y l,r=x::y::l:=by intro r h;match r,h with|x::y::l,_=>exact{x,y,l,@d}
 have lst:∀k:Nat,(F,tI @av)->@fu=0->((F,tI @av)->∃m rest,r.drop @fu=m::@bl/\0<=m/\@zT/\c=[@av::r.take @fu,@hK]/\t=@xY)->∃m rest,r.drop @fu=m::@bl/\0<=m/\@zT/\c=[[@av],@hK]/\@hK=r.take @fu++@hK/\t=@xY:=by intro k Z h2 h3;let{m,rest,e1,e2,e3,e4,e5}:=h3 Z;refine{m,@bl,e1,e2,e3,?_,?_,e5};rw[ay,e4,h2];.rw[h2];rfl
 match k,hk with
  |0,_=>rw[bW,0,0,eY,@my]
  |1,_=>rw[hV,1]
  |2,_=>rw[cZ,2,2]
  |3,_=>rw[cZ,3,3]
  |4,_=>rw[bW,4,4,yF ha,@Dl]
  |5,_=>rw[cZ,5,5]
  |6,_=>rw[cZ,6,6]
  |7,_=>rw[mv,7,7]
  |8,_=>rw[bW,8,8,CH ha,@my]
  |9,_=>rw[mv,9,9]
  |10,_=>rw[hV,10]
  |11,_=>rw[bW,11,11,CH ha,@my]
  |12,_=>rw[bW,12,12,yF ha,@Dl]
  |13,_=>rw[bW,13,13,CH ha,@my]
  |14,_=>rw[fw];subst e1;exact{14,_,@d,@Z,eY,@iL,J,@wK,@iK}
  |15,_=>rw[cZ,15,15]
  |16,_=>rw[fH,16];subst e4;exact{16,@hK,@d,@Z,yF ha,@iL,J,@iK,λ_=>@my}
  |17,_=>
   let{m,rest,e1,e2,e3,e4,e5}:=hl @d;let{x,y,l,rfl}:=two r J;subst e4;refine{17,_,@d,@Z,?_,@iL,J,@iK,λ_=>{m,@bl,e1,e2,e3,@d,e5}};have hb:(bv,Ei x,Ei y&&((rest.take @hC).all (λ(z:Int)=>Ei z)&&(bY,(rest.take @hC).length,4000))):=ha;rw[dJ,dJ]at hb;have W:=CH hb.2.2;rw[dJ,iR]at hb;show Fe (x::y::@hK);rw[ad,@v,?_,@cY];.rw[cX,cX];unfold qJ at W;omega
   .rcases de.1 hz with e|hz;rw[s,e,Jk hb.1];.rcases de.1 hz with e|hz;rw[s,e,Jk hb.2.1];.exact Jk (hb.2.2.1 z hz)
  |18,_=>rw[fw];let{x,y,l,rfl}:=two r J;subst e1;refine{18,(E,@Z,?_,@iL,J,@wK,@iK)};have hb:(bv,Ei x,Ei y):=ha;rw[dJ]at hb;show Fe [x,y];rw[ad,@v,@v,@cY];rcases de.1 hz with e|hz;rw[s,e,Jk hb.1];rw[a5,hz,Jk hb.2]
  |19,_=>rw[cZ,19,19]
  |20,_=>rw[hV,20]
  |21,_=>rw[fH,21];subst e4;exact{21,@hK,@d,@Z,CH ha,@iL,J,@iK,λ_=>@Dl}
  |22,_=>
   rw[fw];obtain⟨x,l,rfl⟩:∃x l,r=@gd:=by match r,J with|x::l,_=>exact{x,l,@d}
   subst e1;exact{22,[x],@d,@Z,bo 1,@iL,J,@wK,@iK}
def am0{H:Hp}{g:aa}:del (ag H g o) g=@sb:=by
 funext b;unfold del;by_cases e:b=g;.rw[aG,e,e]
 .rw[af e,af e,aA e]
def am1{H:Hp}{g:aa}(h:(I,g)):@sb=H:=by
 funext b;unfold del;by_cases e:b=g;.rw[ai e,e,h]
 .rw[af e]
def aDY{H H':Hp}{g:aa}(s:@ab):ae @sb (del H' g):=λb o h=>by let{Z,h2}:=amZ h;rw[AE h2];exact(as,Z)
def aDZ{t u:TS}{D:Ends}{H:Hp}(J:@eL)(Z:∀σ' H',J σ' H'->D.nx σ' H')(h2:(oi,∀σ' H',J σ' H'->L.nx σ' H')):tM tt t u D σ H:=h2 D Z
def Ox:@bp:=[((d1,17),.int 2),((d1,18),.int 2),((d1,22),.int 1)]
def Jl:@F:=[.int 1,.int 10,.int 14,.int 18,.int 20,.int 22]
structure am2(P:cE)(w:cn)(K:aM)(mg:@aT)(aO:aa):@u where
 OWN_NUMBERS:(fZ,"OWN_NUMBERS",aO)
 OWN_NUMBERS_d:(dy,aO,Ox)
structure am3(K:aM)(mg:@aT)(aT:aa):@u where
 CALLS_WITHOUT_LIST:(fZ,"CALLS_WITHOUT_LIST",aT)
 tup:∀H,(cc,aT,Jl)
def aD0{k:Nat}(hk:k<23):(cB Ox (.inl @av)).getD @cy=(a7,@fu):=(qg,(cB Ox (.inl (A,k))).getD @cy=(a7,di (A,k)))
def aD1{k:Nat}(hk:k<23):wW (.int @av) Jl=tI @av:=(qg,wW (.int (A,k)) Jl=tI (A,k))
abbrev abA:aY:=top 158
def r9:(aq,["calls","deck","given","at","call","begin","end","numbers","answer"],"calls",abA):=@D
def abB(K:aM):Sp:=λvs H Q _=>∃(a:aa)(l:@J),(fN,(fE,l),@R<=17000,aSE l=@h,∀(H':Hp)(q:aa),(aP,q,(GV l).map @aJ)->Q @bi H')
structure Mid(C:aa)(H:Hp)(l:@J)(d c g:aa)(x:@J×(ej,@J)×jA×@J)(at_:Nat)(H':Hp):@u where
 same:@ab
 rest:l.drop at_=x.1
 le:(g_,at_)
 calls:∃f,zA sP f x.1=some @bw
 asked:∀c∈@bw,@yG
 given:(aP,g,x.2.2.2.map @aJ)
 deck:pP C (del H' g) d c x.2.2.1
 told:GV l=x.2.2.2++QR (agl GU x.2.2.1 (x.2.1.map rh))
def aD2{aO aT:aa}(F:(o,"answers","answers",abA))(B:@ad)(D:am2 P w K mg aO)(G:am3 K mg aT)(F_:(kf,"Deck",@mk,amO C))(aJQ:(Z,"answer_of",@BC,9,amY C)):(ae,10,["calls"],abB K):=by
 refine(h,r9,@C);.let{a,l,rfl,_}:=h;rfl
 .let{a,l,rfl,ha,h17,y,q0}:=h;obtain⟨W,ap2,aJR,aJS⟩:∃W,zA sP @R l=some W/\(∀c∈W,@yG)/\(GV l).length<=10000000:=by unfold aSE at y;cases hc:zA sP l.length l with|none=>rw[hc]at y;cases y|some W=>rw[hc]at y;dsimp only at y;rw[dJ,dJ]at y;let{{_,Z},h2}:=y;unfold aWa at Z;rw[dJ,iR]at Z;exact{W,@d,λc hc=>Z.1 _ (a0,c,hc),bT h2}
  have aJT:GV l=[]++QR (agl GU auf (W.map rh)):=by unfold GV aWb;rw[ap2];rfl
  rw[a9,1,@fs,ay3 F_ @cf,(bP,@fs,@bg),(cJ,3,@fs,aE,tN dh (ao,jL,@H,@a6) (bR,4,@fs,@y4,(aw,5,@fs,(b1,@H)),aw (oL,aj7 D.OWN_NUMBERS D.OWN_NUMBERS_d @ak aE @ur) (bR,7,@fs,(kj,@a4,@bS),bN (mE,@ak,aDW G.CALLS_WITHOUT_LIST) (d9,5,@fs,(b1,@bS),(oL,(bi,@Y,@bS)),(aw,7,@fs,bd m_ @cv (kj,@a4,@bS))) bS,(bR,3,@fs,@bS,(aw,8,@fs,aDV (es,aJQ,@B,@ak,@cv)),(aQ,(cq,@E,(aS,@dW)),(sz,@E,@dW))))),@E)];refine λd dx oU ap3 aI=>{d,dx,@d,ao,λH1 c DK vW keep=>@kB};have Y:@cB:=Jj oU ap3 keep;have hcH:(I,c):=by by_cases e1:c=d;rw[s,e1,oU];by_cases e2:c=dx;rw[s,e2,ap3];rw[aA e1,aA e2]at vW;exact vW
  rw[ax,@nq];rw[c3,[],hg];have hgH:(I,g):=Y.free hg;have M0:Mid C H l d c g (l,W,auf,[]) 0 (cY,g,[]):={s2,@d,@aO,{_,ap2},aJR,ao,(ai,am0,am1 hg,DK),aJT};rw[bo,g,[]];refine IU (λ(x:List Int×List (List (List Int))×jA×List Int)σ H'=>∃(at_:Nat)(v4 N v6 v7 v8:@ag),σ=[@bc,@fQ,(J,g),(T,at_),v4,N,v6,v7,v8]/\Mid C H l d c g x at_ H') (λx=>x.1.length) (l,W,auf,[]) (rE,0,M0) ?_;rintro⟨rest,cs,S,q⟩σ H'⟨at_,v4,N,v6,v7,v8,rfl,M⟩;have vY:=M.same.seq ha;have Ga:=M.rest;dsimp only at Ga;refine(e,(E,a,_,(eN,vY)));rw[au];cases rest with
  |nil=>have fG:@R<=at_:=auh.1 Ga;rw[cR];rw[aQ,@b6];.let{f',Jw}:=M.calls;have jF:=My.av9 Jw;dsimp only at jF;subst jF;have ht:GV l=q++[]:=M.told;rw[gk]at ht;exact(am,q0 _ g (d,ht,M.given))
  |cons p r=>
   have bn:(cD,at_):=by
    rcases dH at_ l.length with z|z;.exact z
    .rw[auh.2 z]at Ga;cases Ga
   rw[cD,bq (v,(u,at_)<(u,@R))];let{f',Jw}:=M.calls;let{cc,t,cs',f2,aJV,aJW,ecs}:=My.av8 Jw;dsimp only at ecs;subst ecs;have aJX:=M.asked cc mP;let{k,ns,rfl,hk,hok,R,J,ck,Pw}:=aDX aJV aJX;have hp:(K,@m2,at_,.int @av):=by
    have:(K,l,at_,@av):=by have e:(K,l.drop at_,0,@av):=(O,Ga);rw[KH]at e;exact e
    rw[be,this];rfl
   have X:l.drop (at_+1)=r:=by rw[<-Gr,Ga];rfl
   have T:r.length=@R-(at_+1):=(cw,X,ik);have ap5:GV l=@G_++QR (agl GU (rB S @ms).1 (cs'.map rh)):=by have:=M.told;rw[aN,cb];show q++QR ((GU S (rh cc)).2::agl GU (GU S (rh cc)).1 (cs'.map rh))=_;rw[R S];unfold QR;rw[Bq,eM]
   rw[ab,λI H9=>∃(PQ:Nat)(v4 N v6 v7 v8:@ag),I=[@bc,@fQ,(J,g),(T,PQ),v4,N,v6,v7,v8]/\Mid C H l d c g (t,cs',(rB S @ms).1,@G_) PQ H9,λI H9⟨PQ,w4,w5,w6,w7,w8,e,M9⟩=>{@ah,?_,_,@d,PQ,w4,w5,w6,w7,w8,e,M9}];.show@ah<((@av::r)).length;rw[cX];cases Ba:tI (k:Int)with|true=>rw[(ck Ba).2,ik];omega|false=>let{m,rest,e1,_,_,_,e5}:=Pw Ba;have:=dg lz e1;rw[ik,cX]at this;rw[e5,ik];omega
   refine(E,_,@d,(bs,a,_,vY,(gG,at_,hp)));rw[aM,_,@d];refine(e,_,@d,(d1,@av),@d,?_);rw[aD0 hk];refine(cm,_,@d);have JV:mn @m2 (some ((u,at_)+1)) (some @j9)=@u1:=(rC,at_+1,@dp,@j9,@dp,(u,at_),at_+1,@dp,at_+1,@fu,X);refine(e,(E,_,@d,(dx,_,a,vY,λU hp7=>?_)));dsimp only;rw[JV];have u:=M.given;have n7:U≠g:=λe=>by rw[e,u]at hp7;cases hp7
   have s3:=(ax,@u1,H',hp7);have z3:=(aG,H',U,@u1);generalize(an,H',U,@u1)=H3 at*;have ap6:=s3.seq vY;dsimp only[kn,pC];refine aDZ (λσ' H4=>ae H' H4/\∃(N:V)(p9:aa)(en:Nat),σ'=[@bc,@fQ,(J,g),(T,at_),(T,k),some N,(T,en),(J,p9),v8]/\(aa,H4 p9,@bN)/\p9≠g/\(g_,en)/\l.drop en=t) (λσ' H4 hJ=>?_) (λL v=>?_)
   .let{s4,N,p9,en,rfl,h9,n9,JJ,n}:=hJ;dsimp only[kn,pC];rw[aU];refine{g,_,(bB,u),(E,_,@d,_,@d,d,c,p9,S,k,ns,@d,hk,M.deck.same (aDY s4),(d,AE n9,h9),hok,λH5 q5 D5 h5 k5 hg5=>?_)};generalize@oJ=xs at*;have bG:@T+(1+xs.2.length)<=10000000:=by have:=aJS;rw[ap5,dj,dj,cX]at this;omega
    have n5:q5≠g:=λe=>by rw[e,hg5]at h5;cases h5
    have g6:=(aG,H5,g,@qH);have q6:(pW,H5,@qH):=(D,n5,h5);refine{_,@d,(X,g6),_,@d,q5,_,@d,(bs,(aJ,q6),g,g6,?_)};rw[s,au,nz (v,@T<=10000000) @Z];have g7:=(aG,(an,H5,g,@qH),g,@DY);have O:(pW,(an,H5,g,@qH),@DY):=(D,n5,q6);refine{_,@d,(X,g7),(cQ,g,q5,g7,O,?_,?_)};rw[bq,dj,au,cU (v,@T+1+xs.2.length<=10000000) @Z];rw[pB,pB];refine{en,_,_,_,_,_,@d,{λb o h=>?_,n,JJ,⟨f2,aJW⟩,λc hc=>M.asked c (f6 _ hc),?_,?_,?_}};.have hbg:b≠g:=(gw,hgH);rw[aA hbg];refine k5 b o ?_ (gw,oU) (gw,hcH);rw[AE hbg];exact(bB,M.same _ _ h)
    .rw[ao,au,bh,cb,eM];rfl
    rw[aj,am0,am1 hg5,D5];.exact ap5
   .refine(e,(dK,aT,Jl,@d,.inr (G.tup _)));rw[(@ax),aD1 hk];cases Ba:tI (k:Int)with
    |true=>let{e1,e2}:=ck Ba;rw[aw,v _ _ {s3,_,U,@dp,@d,(d,e1,z3),n7,@e,?_}];rw[e2,<-X,Gr]
    |false=>
     let{m,rest,e1,e2,e3,e4,e5}:=Pw Ba;have ug:l.drop @dp=m::@bl:=by rw[<-Gr,X];exact e1
     have oe:(K,@m2,@dp,.int m):=by have e:(K,l.drop @dp,0,m):=(O,ug);rw[KH]at e;rw[be,show(K,l,@dp,m)from e];rfl
     have ad3:l.drop (@dp+1)=@bl:=by rw[<-Gr,ug];rfl
     have aTD:@wb=@R-(@dp+1):=(cw,ad3,ik);have jw:(cD,@dp):=by
      rcases dH (at_+1+di (k:Int)) l.length with z|z;.exact z
      .rw[auh.2 z]at ug;cases ug
     rw[ar,(e,(cm,_,@d))];refine(e,(hS,a,@d,@d,ap6,(gG,@dp,oe),_,_,@d,@d,?_));have aJY:mn @m2 (some (@j9+1)) (some (@j9+1+m))=@o_:=(rC,@dp+1,@pc,@j9+1+m,@pc,@j9,@dp+1,@pc,@dp+1,@hC,ad3);refine(c5,_,@d,_,(dx,_,a,ap6,λp8 hp8=>?_));dsimp only;rw[aJY];have s8:=(cu,@o_,s3,hp8);have s38:=(ax,@o_,H3,hp8);have z8:=(aG,H3,p8,@o_);generalize(an,H3,p8,@o_)=H8 at*;refine{U,(dY,p8,s38 _ _ z3,z8,?_,λp9 Kv=>?_)};.rw[au,au,eD,eD];exact cU (v,min @fu r.length+min @hC @wb<=34000) @Z
     .refine v _ _ {aH s8 Kv,V.int (@j9+1),p9,@pc,?_,?_,@c8,@e,?_};.rw[a3,@j9+1+m,(A,@pc)];rw[bj];rfl
      .rw[ao,e4,bh]
      .rw[e,s8 _ _ u]at Kv;cases Kv
      .rw[e5,<-ad3,Gr]
structure Df(K:aM)(x:aq)(s:aY)(f:aa)(fd:lD):@u where
 a:(cp,x,f)
 F:(o,x,x,s)
structure If(K:aM)(C:aa)(q:aq)(s:aY)(f:aa)(fd:lD):@u where
 a:Mk K C f
 F:(jf,q,s)
structure Mf(K:aM)(C:aa)(x q:aq)(s:aY)(f:aa)(fd:lD):@u where
 a:EM K C x f
 F:(o,x,q,s)
section
variable{h:bV}{k:Nat}{ps:@aE}{x q:aq}{s:aY}{oc kV L pm aL ct:ah}{od z:@eg}{M:@jr}
structure Qx(P:cE)(w:cn)(K:aM)(mg:@aT)(base:bV):@u where
 ex:∃h:bV,@g7/\h.Ns iU mg
def Qx.at{v:ah}(Q:@kb)(e:oE K iU x=some @dh):mg x=some v:=let⟨_,X,G⟩:=Q.ex;aSF X G e
def Qx.non(Q:@kb)(e:oE K iU x=some @r:=by k_is):(bA,x):=let⟨_,X,G⟩:=Q.ex;aWc X G e
def Qx.val{g:Tok->ah}{t:Tok}(Q:@kb)(e:oE K iU x=some (some (g t)):=by k_is):∃t,mg x=some (g t):={t,Q.at e}
def bK(Q:@kb)(D:Df K x s f fd)(O:@oj)(hb:(kJ,@zQ):=by first|exact λ_ _ _ _ _ _ us hl=>(match us,hl with|[_],_=>rfl)|exact λ_ _ _ _ _ _ us hl=>(match us,hl with|[_,_],_=>rfl)|exact λ_ _ _ _ _ _ us hl=>(match us,hl with|[_,_,_],_=>rfl)|exact λ_ _ _ _ _ _ us hl=>(match us,hl with|[_,_,_,_],_=>rfl)):(Z,x,ps,k,sp):={f,fd,O,Q.at D.a,D.F.kp,@yz}
def Fg(Q:@kb)(m:(cp,x,C))(D:If K C q s f fd)(O:@oj)(hb:(kJ,@Dm):=by first|exact λ_ _ _ _ _ _ us hl=>(match us,hl with|[_],_=>rfl)|exact λ_ _ _ _ _ _ us hl=>(match us,hl with|[_,_],_=>rfl)|exact λ_ _ _ _ _ _ us hl=>(match us,hl with|[_,_,_],_=>rfl)|exact λ_ _ _ _ _ _ us hl=>(match us,hl with|[_,_,_,_],_=>rfl)):vn P w K mg @ba x C ps k sp:={f,fd,O,D.a,Q.at m,@yz}
def jP(Q:@kb)(cl:@fk)(D:Mf K C x q s f fd)(O:@oj)(hb:(kJ,@zR):=by first|exact λ_ _ _ _ _ _ us hl=>(match us,hl with|[_],_=>rfl)|exact λ_ _ _ _ _ _ us hl=>(match us,hl with|[_,_],_=>rfl)|exact λ_ _ _ _ _ _ us hl=>(match us,hl with|[_,_,_],_=>rfl)|exact λ_ _ _ _ _ _ us hl=>(match us,hl with|[_,_,_,_],_=>rfl)):gG P w K mg @ba C x ps k sp:={f,fd,O,D.a,@yz,cl}
def a6.to8(R:(Z,x,ps,k,sp))(Q:@kb)(D:Df K x s f fd)(hk:k<=8:=by decide):∃fd ps,(ae,8,ps,sp)/\@j3/\@lT:=by let{f',fd,O,m,kp,b}:=R;have e:=m.symm.trans (Q.at D.a);cases e;exact{fd,ps,aU.mono O hk,kp,b}
def bL(a:(cp,x,f):=by k_is)(l:(hQ,@zQ):=by k_is)(c:(hK,x):=by k_is)(k:@j3:=by k_is):Df K x s f @zQ:={a,Tf l c k}
def jQ(a:(lp,x):=by k_is)(b:@pa:=by k_is)(l:(hQ,@zR):=by k_is)(c:(hK,q):=by k_is)(k:@j3:=by k_is):Mf K C x q s f @zR:={⟨a,b,k⟩,Tf l c k}
def Fh(m:@Bc:=by k_is)(a:@zN:=by k_is)(b:@pa:=by k_is)(d:uM K @ea=@h:=by k_is)(l:(hQ,@Dm):=by k_is)(c:(hK,q):=by k_is)(k:@j3:=by k_is):If K C q s f @Dm:={⟨m,a,b,d⟩,Tf l c k}
def Fi(a:Qn K C aQF=@h:=by k_is)(b:@u2:=by k_is)(c:@Bb:=by k_is)(d:@BK:=by k_is):@fk:=⟨a,b,c,d⟩
end
set_option maxHeartbeats 0 in def aD3{h:bV}{g l o aO aT m J0 r u i F_:aa}{aJ0 aJ1 aJ2 aJ3 aJ4 aJ5 aJ6 aJ7 aJ8 aJ9 aJ_ aKa aKb aKc aKd aKe aKf aKg aKh aKi aKj aKk aKl aKm aKn aKo aKp aKq aKr aKs aKt aKu aKv aKw aKx aKy aKz aKA aKB aKC aKD aKE aKF aKG aKH aKI aKJ aKK aKL aKM aKN aKO aKP aKQ aKR aKS aKT aKU aKV aKW aKX aKY aKZ aK0 aK1 aK2 aK3 aK4 aK5 aK6 aK7 aK8 aK9 aK_ aLa aLb aLc aLd aLe aLf aLg aLh aLi aLj aLk aLl aLm aLn aLo aLp aLq aLr aLs aLt aLu aLv aLw aLx aLy aLz aLA aLB aLC aLD aLE aLF aLG aLH aLI A ad5 ad6 t I y ad_ F N C Y R aef V D aei aej aLJ T Z E S O U aLK aLL:aa}{aLM aLN aLO aLP aLQ aLR aLS aLT aLU aLV aLW aLX aLY aLZ aL0 aL1 aL2 aL3 aL4 aL5 aL6 aL7 aL8 aL9 aL_ aMa aMb aMc aMd aMe aMf aMg aMh aMi aMj aMk aMl aMm aMn aMo aMp aMq aMr aMs aMt aMu aMv aMw aMx aMy aMz aMA aMB aMC aMD aME aMF aMG aMH aMI aMJ aMK aML aMM aMN aMO aMP aMQ aMR aMS aMT aMU aMV aMW aMX aMY aMZ aM0 aM1 aM2 aM3 aM4 aM5 aM6 aM7 aM8 aM9 aM_ aNa aNb aNc aNd aNe aNf aNg aNh aNi aNj aNk aNl aNm aNn aNo aNp aNq aNr aNs aNt aNu aNv aNw aNx aNy aNz aNA aNB aNC aND aNE aNF aNG aNH aNI aNJ aNK aNL aNM aNN aNO aNP aNQ aNR aNS aNT ap_:lD}(X:@g7)(Gn:h.Ns iU mg)(Jp:(fZ,"answers",g))(aNU:(cp,"Ring",m))(aNV:(cp,"Piece",J0))(aNW:(cp,"Reading",r))(aNX:(cp,"Condition",u))(aNY:(cp,"Group",i))(aNZ:(cp,"Deck",F_))(f:Ap K m)(j:wY K J0)(a:mr K r)(d:r8 K u)(p:Ja K i)(b:jr K F_)(aqa:Df K "nothing" TF aJ0 aLM)(aqb:Df K "cut" TJ aJ1 aLN)(aqc:Df K "every" TM aJ2 aLO)(aqd:Df K "turned_round" TQ aJ3 aLP)(aqe:Df K "turn" TU aJ4 aLQ)(aqf:Df K "deal" TV aJ5 aLR)(aqg:Df K "followed" TW aJ6 aLS)(aqh:Df K "moved" TX aJ7 aLT)(aqi:Df K "common_divisor" TY aJ8 aLU)(aqj:Df K "round_length" TZ aJ9 aLV)(aqk:Df K "order_of" T0 aJ_ aLW)(aql:Df K "undone" T1 aKa aLX)(aqm:Df K "repeated" T6 aKb aLY)(aqn:Df K "side_of" T7 aKc aLZ)(aqo:Df K "is_row" T8 aKd aL0)(aqp:Df K "is_deck" T_ aKe aL1)(aqq:Df K "faces_up" Ua aKf aL2)(aqr:Df K "sums_of" Uc aKg aL3)(aqs:Df K "odd_differences" Ud aKh aL4)(aqt:Df K "can_come" Uf aKi aL5)(aqu:Df K "sides_of_one_order" Ug aKj aL6)(aqv:Df K "count_of_rows" Uh aKk aL7)(aqw:Df K "rank_of_numbers" Uj aKl aL8)(aqx:Df K "rank_of_sides" Uk aKm aL9)(aqy:Df K "rank_of" Ul aKn aL_)(aqz:Mf K m "bring_up" "Ring.bring_up" Um aKo aMa)(aqA:Mf K m "exchange" "Ring.exchange" Up aKp aMb)(aqB:Mf K m "place_of" "Ring.place_of" Us aKq aMc)(aqC:If K m "Ring.__init__" Uu aKr aMd)(aqD:Df K "ring_of" Uv aKs aMe)(aqE:Df K "put_in_order" Ux aKt aMf)(aqF:Df K "bring_round" Uy aKu aMg)(aqG:Df K "cards_on_wrong_side" UA aKv aMh)(aqH:Df K "way_to" UB aKw aMi)(aqI:Df K "is_way" UD aKx aMj)(aqJ:Df K "walked" UF aKy aMk)(aqK:Df K "kind_of" UG aKz aMl)(aqL:Df K "end_of_piece" UH aKA aMm)(aqM:Df K "number_of" UI aKB aMn)(aqN:Df K "is_decimal" UK aKC aMo)(aqO:Df K "is_number" UN aKD aMp)(aqP:Df K "word_of" UO aKE aMq)(aqQ:If K J0 "Piece.__init__" UQ aKF aMr)(aqR:Df K "piece_at" US aKG aMs)(aqS:Df K "pieces_of" UU aKH aMt)(aqT:Df K "with_sides" UX aKI aMu)(aqU:Df K "sides_by_one" UZ aKJ aMv)(aqV:Df K "settled_by_others" U2 aKK aMw)(aqW:Df K "numbers_of_rank" U4 aKL aMx)(aqX:Df K "sides_of_rank" U5 aKM aMy)(aqY:Df K "row_of_rank" U6 aKN aMz)(aqZ:Df K "is_grid" U7 aKO aMA)(aq0:Df K "turned_pile" U9 aKP aMB)(aq1:Df K "turned_over" Va aKQ aMC)(aq2:Df K "laid" Vc aKR aMD)(aq3:Df K "columns_of" Vd aKS aME)(aq4:Df K "first_folded" Ve aKT aMF)(aq5:Df K "is_fold" Vf aKU aMG)(aq6:Df K "folded_once" Vg aKV aMH)(aq7:Df K "folded" Vh aKW aMI)(aq8:Df K "alike_when_folded" Vi aKX aMJ)(aq9:Df K "move_between" Vj aKY aMK)(aq_:Df K "claim_holds" Vn aKZ aML)(ara:Df K "lies_of" Vo aK0 aMM)(arb:Df K "holds_of" Vp aK1 aMN)(arc:Df K "named_cards" Vs aK2 aMO)(ard:Df K "sides_of" Vu aK3 aMP)(are:Df K "have_room" Vw aK4 aMQ)(arf:Df K "sides_in_reach" VA aK5 aMR)(arh:Df K "all_cases" VB aK6 aMS)(ari:Df K "failing_cases" VC aK7 aMT)(arj:Df K "first_row_of" VD aK8 aMU)(ark:Df K "cases_left" VE aK9 aMV)(arl:Df K "first_failing_row" VH aK_ aMW)(arn:Df K "fewest_cuts" aab aLa aMX)(aro:Df K "turns_and_cuts" aac aLb aMY)(arp:Df K "least_way" aad aLc aMZ)(arq:Df K "written" aal aLd aM0)(PR:Df K "refusal_of" aan aLe aM1)(ars:If K r "Reading.__init__" aao aLf aM2)(art:Mf K r "add_move" "Reading.add_move" aaq aLg aM3)(aru:Mf K r "take_times" "Reading.take_times" aar aLh aM4)(arv:Mf K r "take_word" "Reading.take_word" aas aLi aM5)(arw:Mf K r "take_amount" "Reading.take_amount" aat aLj aM6)(arx:Mf K r "take_bracket" "Reading.take_bracket" aau aLk aM7)(ary:Mf K r "end_bracket" "Reading.end_bracket" aav aLl aM8)(arz:Mf K r "end_handling" "Reading.end_handling" aax aLm aM9)(arA:Mf K r "may_end" "Reading.may_end" aaA aLn aM_)(arB:Mf K r "take" "Reading.take" aaB aLo aNa)(arC:Df K "read_handling" aaC aLp aNb)(arD:Df K "read_handlings" aaD aLq aNc)(arE:Mf K u "depth" "Condition.depth" aaF aLr aNd)(arF:Mf K u "settle" "Condition.settle" aaH aLs aNe)(arG:If K u "Condition.__init__" aaI aLt aNf)(arH:Mf K u "take_card" "Condition.take_card" aaJ aLu aNg)(arI:Mf K u "take_claim" "Condition.take_claim" aaK aLv aNh)(arJ:Mf K u "end_bracket" "Condition.end_bracket" aaL aLw aNi)(arK:Mf K u "take_joint" "Condition.take_joint" aaM aLx aNj)(arL:Mf K u "may_end" "Condition.may_end" aaN aLy aNk)(arM:Mf K u "take" "Condition.take" aaO aLz aNl)(arN:Df K "read_condition" aaP aLA aNm)(arO:Df K "first_changed" aaS aLB aNn)(arP:Mf K i "rest_of" "Group.rest_of" aaV aLC aNo)(arQ:Mf K i "has" "Group.has" aaX aLD aNp)(arR:Mf K i "size_of_all" "Group.size_of_all" aaY aLE aNq)(arS:Mf K i "enter" "Group.enter" aaZ aLF aNr)(arT:Df K "brought_to" aa0 aLG aNs)(arU:If K i "Group.__init__" aa1 aLH aNt)(arV:Df K "in_decimal" aa3 aLI aNu)(aeq:Df K "tell_row" aa6 A aNv)(aer:Df K "count" aa7 ad5 aNw)(aes:Df K "can" aa8 ad6 aNx)(aet:Df K "way" aa9 t aNy)(aeu:Df K "rank" aa_ I aNz)(aev:Df K "walk" aba y aNA)(aew:Df K "act" abd ad_ aNB)(aex:Df K "shape" abe F aNC)(aey:Df K "order" abf N aND)(aez:Df K "tame" abg C aNE)(aeA:Df K "hand" abh Y aNF)(aeB:Df K "nth" abi R aNG)(aeC:Df K "fate" abj aef aNH)(aeD:Df K "holds" abk V aNI)(aeE:Df K "sure" abl D aNJ)(aeF:Df K "alike" abn aei aNK)(aeG:Df K "fold" abo aej aNL)(arW:If K F_ "Deck.__init__" abp aLJ aNM)(aeH:Df K "load" abq T aNN)(aeI:Df K "group" abr Z aNO)(aeJ:Df K "size_of_group" abt E aNP)(aeK:Df K "member" abu S aNQ)(aeL:Df K "orbit" abv O aNR)(aeM:Df K "least" abw U aNS)(arX:Df K "answer_of" abz aLK aNT)(aeN:Df K "answers" abA aLL ap_)(B:@ad)(G0:Glb mg)(c:@bT)(v:Cf mg)(aN0:oE K iU "SIGNS"=some @c2)(aN1:(dy,l,signs))(aN2:(cp,"CARDS_NAMED",aN))(aN3:(dy,aN,E8))(aN4:(cp,"BINDS",aB))(aN5:(dy,aB,Vm))(aN6:(cp,"CALLS",o))(aN7:(dy,o,amU (λk=>[T,A,ad_,F,Y,N,C,ad6,t,y,ad5,I,R,U,aef,V,D,aej,aei,Z,E,S,O].getD k 0)))(aN8:(cp,"OWN_NUMBERS",aO))(aN9:(dy,aO,Ox))(aN_:(cp,"CALLS_WITHOUT_LIST",aT))(aOa:∀H,(cc,aT,Jl)):(sy,(["calls"]:@aE).length,(["calls"]:@aE).zip us,K.In @ba,(dz,10,g,["calls"],abB K)):=by have e:=Jp.symm.trans (aSF X Gn aeN.a);cases e;let{oc,od,kV,L,pm,z,aL,ct,M,efd,G,W}:=aeN.F.ex;rw[ad,ap_,λs us hu=>by subst efd;exact match us,hu with|[_],_=>.of_eq @d,λbase _ _=>?_];.have Q:@kb:=⟨h,X,Gn⟩;have DS:Dic P w K mg l:={Q.at aN0,aN1};have J:@vM:={c,{Q.at aN2,aN3,Q.at aN4,aN5}};have DA:am2 P w K mg aO:={Q.at aN8,aN9};have GT:am3 K mg aT:={Q.at aN_,aOa};have Ds:=bK Q aqa (azP aqa.F @a_);have PU:=bK Q aqb (azQ aqb.F @a_);have aOc:=bK Q aqc (azR aqc.F @a_);have arY:=bK Q aqd (azS aqd.F @a_);have aeO:=bK Q aqe (azU aqe.F arY);have aOd:=bK Q aqf (azW aqf.F arY);have Gb:=bK Q aqg (azX aqg.F);have aeP:=bK Q aqh (azY aqh.F);have aOe:=bK Q aqi (azZ aqi.F);have aOf:=bK Q aqj (az0 aqj.F);have aOg:=bK Q aqk (az1 aqk.F @a_ aOf aOe);have arZ:=bK Q aql (az2 aql.F @a_ Ds);have aOh:=bK Q aqm (az3 aqm.F @a_ Ds Gb);have Dt:=bK Q aqn (az5 aqn.F);have Gc:=bK Q aqo (az6 aqo.F @a_);have aOi:=bK Q aqp (az8 aqp.F @a_ G0 Gc);have aeQ:=bK Q aqq (az9 aqq.F @a_ Dt);have PV:=bK Q aqr (az_ aqr.F @a_ Dt);have ar0:=bK Q aqs (aAa aqs.F @a_ PV);have Kw:=bK Q aqt (aAb aqt.F @a_ aeQ ar0);have aeR:=bK Q aqu (aAd aqu.F @a_);have ar1:=bK Q aqv (aAe aqv.F @a_ aeR);have aOj:=bK Q aqw (aAf aqw.F @a_);have aOk:=bK Q aqx (aAg aqx.F @a_ Dt);have aOl:=bK Q aqy (aAi aqy.F @a_ aOj aeR aOk);have ar2:=jP Q f.cl aqz (aAm aqz.F f);have ar3:=jP Q f.cl aqA (aAn aqA.F f ar2);have aeS:=jP Q f.cl aqB (aAo aqB.F @a_ f);have aOm:=Fg Q aNU aqC (aAq aqC.F @a_ f);have aOn:=bK Q aqD (aAs aqD.F @a_ ar0 aOm);have aOo:=bK Q aqE (aAv aqE.F @a_ aeS ar3);have aOp:=bK Q aqF (aAw aqF.F @a_ f aeS ar3);have aOq:=bK Q aqG (aAx aqG.F @a_ f Dt);have aOr:=bK Q aqH (aAy aqH.F @a_ f aOn aOo aOq aOp ar2 aeS);have aOs:=bK Q aqI (aAz aqI.F @a_);have aOt:=bK Q aqJ (aAA aqJ.F @a_ aeP PU aeO);have PX:=bK Q aqK (aAC aqK.F v DS);have aOu:=bK Q aqL (aAD aqL.F @a_ PX);have ar4:=bK Q aqM (aAE aqM.F v);have ar5:=bK Q aqN (aAF aqN.F @a_ v PX);have aOv:=bK Q aqO (aAH aqO.F @a_ v ar5);have aOw:=bK Q aqP (aAI aqP.F v);have aOx:=Fg Q aNV aqQ (aAK aqQ.F j);have aOy:=bK Q aqR (aAL aqR.F j PX aOx aOw aOv ar4);have aeT:=bK Q aqS (aAM aqS.F @a_ PX aOu aOy);have ar6:=bK Q aqT (aAT aqT.F B);have ar7:=bK Q aqU (aAU aqU.F B PV);have ar8:=bK Q aqV (aAV aqV.F B aeQ);have aOz:=bK Q aqW (aAW aqW.F B);have aOA:=bK Q aqX (aAX aqX.F B);have aOB:=bK Q aqY (aAY aqY.F B aOz aeR ar6 ar7 ar8 aOA);have ar9:=bK Q aqZ (aA9 aqZ.F);have aOC:=bK Q aq0 (aA_ aq0.F B);have aOD:=bK Q aq1 (aBa aq1.F B aOC);have aOE:=bK Q aq2 (aBb aq2.F B);have aOF:=bK Q aq3 (aBc aq3.F B);have aOG:=bK Q aq4 (aBd aq4.F B aOD);have aOH:=bK Q aq5 (aBf aq5.F B c);have aOI:=bK Q aq6 (aBg aq6.F B c aOF aOG);have aOJ:=bK Q aq7 (aBh aq7.F B aOH aOI);have aOK:=bK Q aq8 (aBi aq8.F B Dt);have ar_:=bK Q aq9 (aBj aq9.F B);have aOL:=bK Q aq_ (aBl aq_.F);have aOM:=bK Q ara (aBm ara.F B Dt);have asa:=bK Q arb (aBp arb.F B J.toDicC aOL);have asb:=bK Q arc (aBs arc.F B);have aON:=bK Q ard (aBu ard.F Dt);have asc:=bK Q are (aBv are.F B);have aOO:=bK Q arf (aBw arf.F B PV aeQ);have aOP:=bK Q arh (aBz arh.F B);have aOQ:=bK Q ari (aBA ari.F B asb aOP aOO asc asa);have aOR:=bK Q arj (aBC arj.F B ar6 ar7 ar8);have aOS:=bK Q ark (aBG ark.F B asc);have aOT:=bK Q arl (aBL arl.F B aOQ aOS aOR aON);have aOU:=bK Q arn (aBM arn.F B Ds PU aeO Gb);have aOV:=bK Q aro (aBS aro.F B);have aOW:=bK Q arp (aBT arp.F B PU Gb aOV);have aOX:=bK Q arq (aBW arq.F B v j);have asd:=Fg Q aNW ars (aBZ ars.F a Ds);have aeU:=(eM,art,aB1 art.F a Gb);have aOY:=(eM,aru,aB3 aru.F a c);have aOZ:=(eM,arv,aB6 arv.F a c aOc aeU);have aO0:=(eM,arw,aB8 arw.F a j PU aeO aOd aeU);have aO1:=(eM,arx,aB_ arx.F a j B c Ds);have aO2:=(eM,ary,aCa ary.F a B c arZ aOh aeU);have aO3:=(eM,arz,aCc arz.F a B Ds);have aO4(n:Nat)(sv:Bool)(rf:Int):=(eM,arA,aCi arA.F a B (n:=n) (sv:=sv) (rf:=rf));have aO5(n:Nat)(sv:Bool)(rf:Int):=(eM,arB,aCk arB.F a j aO0 aO1 aOY aOZ aO3 aO2 (n:=n) (sv:=sv) (rf:=rf));have ase(n:Nat)(sv:Bool):=bK Q PR (alM (aCe r n sv 0) (My.aiM n sv) PR.F B c j aeT (aO5 n sv 0) (aO4 n sv 0));have Kx:=bK Q arC (aCl arC.F a asd (λn=>ase n @K));have aO6:=bK Q arD (aCm arD.F a asd (λn=>ase n @h));have aO7:=(fv,arE,aCn arE.F d B);have aeV:=(fv,arF,aCp arF.F d B J);have aO8:=Fg Q aNX arG (aCt arG.F d);have aO9:=(fv,arH,aCv arH.F d j B J);have aO_:=(fv,arI,aCx arI.F d B J aO7);have aPa:=(fv,arJ,aCz arJ.F d aeV);have aPb:=(fv,arK,aCB arK.F d aeV aPa);have aPc(n:Nat)(rf:Int):=(fv,arL,aCE arL.F d (n:=n) (rf:=rf));have aPd(n:Nat)(rf:Int):=(fv,arM,aCF arM.F d j aO9 aO_ aPb (n:=n) (rf:=rf));have aPe(n:Nat):=bK Q PR (alM (aCC u n 0) (My.awb n) PR.F B c j aeT (aPd n 0) (aPc n 0));have asf:=bK Q arN (aCG arN.F d aO8 aPe aeV);have ash:=bK Q arO (aCK arO.F B);have asi:=jP Q p.cl arP (aCL arP.F B p Gb);have aPf:=jP Q p.cl arQ (aCN arQ.F B ash asi);have aPg:=jP Q p.cl arR (aCO arR.F B p);have aPh:=jP Q p.cl arS (aCT arS.F B p ash arZ Gb asi);have aPi:=bK Q arT (aCU arT.F B);have asj:=Fg Q aNY arU (aCV arU.F B p Ds aPh);have asm:=bK Q arV (aCY arV.F B);have aPj:=bK Q aeq (aC0 aeq.F b);have aPk:=bK Q aer (aC2 aer.F B b asm ar1);have MJ:=bK Q aes (aC4 aes.F B c b Gc Kw);have aPl:=bK Q aet (aC7 aet.F B c b Gc Kw aOr);have aPm:=bK Q aeu (aC9 aeu.F B c b Gc Kw asm aOl);have aPn:=bK Q aev (aDa aev.F B c b aOs aOt);have aPo:=bK Q aew (aDc aew.F B b a Kx aeP (CP:=g));have aPp:=bK Q aex (aDd aex.F B b a Kx aOX aeT);have aPq:=bK Q aey (aDe aey.F B b a Kx aOg (CP:=g));have aPr:=bK Q aez (aDf aez.F B b a Kx aeP Kw (CP:=g));have aPs:=bK Q aeA (aDg aeA.F B b a Kx (CP:=g));have aPt:=bK Q aeB (aDn aeB.F B c b ar5 ar4 ar1 aOB);have aPu:=bK Q aeC (aDo aeC.F B b PV);have aPv:=bK Q aeD (aDp aeD.F B b d asf asa aOM);have aPw:=bK Q aeE (aDq aeE.F B c b d asf asb aOT);have aPx:=bK Q aeF (aDv aeF.F B c b ar9 aOK);have aPy:=bK Q aeG (aDw aeG.F B c b ar9 aOE aOJ);have aPz:=Fg Q aNZ arW (aDy arW.F B b);have aPA:=bK Q aeH (aDA aeH.F B c b aOi);have aPB:=bK Q aeI (aDD aeI.F B c b a aO6);have aPC:=bK Q aeJ (aDF aeJ.F B c b asj aPg);have aPD:=bK Q aeK (aDH aeK.F B c b asj aPf Gc ar_);have aPE:=bK Q aeL (aDJ aeL.F B c b aPi);have aPF:=bK Q aeM (aDO aeM.F B c b Gc Kw aOU aOW ar_);have GA:amV P w K mg @ba F_ o (λk=>[T,A,ad_,F,Y,N,C,ad6,t,y,ad5,I,R,U,aef,V,D,aej,aei,Z,E,S,O].getD k 0):={c,Q.at aN6,aN7,λk hk=>match k,hk with|0,_=>aPA.to8 Q aeH|1,_=>aPj.to8 Q aeq|2,_=>aPo.to8 Q aew|3,_=>aPp.to8 Q aex|4,_=>aPs.to8 Q aeA|5,_=>aPq.to8 Q aey|6,_=>aPr.to8 Q aez|7,_=>MJ.to8 Q aes|8,_=>aPl.to8 Q aet|9,_=>aPn.to8 Q aev|10,_=>aPk.to8 Q aer|11,_=>aPm.to8 Q aeu|12,_=>aPt.to8 Q aeB|13,_=>aPF.to8 Q aeM|14,_=>aPu.to8 Q aeC|15,_=>aPv.to8 Q aeD|16,_=>aPw.to8 Q aeE|17,_=>aPy.to8 Q aeG|18,_=>aPx.to8 Q aeF|19,_=>aPB.to8 Q aeI|20,_=>aPC.to8 Q aeJ|21,_=>aPD.to8 Q aeK|22,_=>aPE.to8 Q aeL|n+23,q=>absurd q @e};have aPG:=bK Q arX (aDR arX.F B b GA);exact aD2 aeN.F B DA GT aPz aPG
end Tc
open PySem PySem.W PyProof.Rows Tc in set_option maxRecDepth 100000 in set_option maxHeartbeats 0 in 
theorem PySem.Challenge.cw_turnedcards_s01_answers_holds : PySem.Challenge.rw_turnedcards_s01_answers.Holds := by
 refine hd0.2 ⟨?_⟩;refine L2.ayY (r:=PySem.Challenge.rw_turnedcards_s01_answers) (k:=10) (CX:=L2.a8) (ps:=["calls"]) (sp:=Tc.abB) (by decide+kernel) rfl rfl ⟨rfl,by decide,by decide⟩ (λw h Y=>PySem.W.kIn_of Y) ?F ?S (λ_ _ _ _ z=>z);case F=>intro w mg g h Y B G l;have Q:Qx PySem.Challenge.rw_turnedcards_s01_answers.1 w _ mg h:=⟨h,B,G⟩;exact Tc.aD3 B G l (by k_is) (by k_is) (by k_is) (by k_is) (by k_is) (by k_is) ⟨Fi,iG,iG,iG,iG⟩ ⟨Fi,iG,iG,iG,iG,iG⟩ ⟨Fi,iG,iG,iG,iG,iG,iG,iG,iG,iG⟩ ⟨Fi,iG,iG,iG,iG,iG,iG,iG⟩ ⟨Fi,iG,iG⟩ ⟨Fi,iG,iG,iG⟩ bL bL bL bL bL bL bL bL bL bL bL bL bL bL bL bL bL bL bL bL bL bL bL bL bL jQ jQ jQ Fh bL bL bL bL bL bL bL bL bL bL bL bL bL Fh bL bL bL bL bL bL bL bL bL bL bL bL bL bL bL bL bL bL bL bL bL bL bL bL bL bL bL bL bL bL bL bL bL bL bL bL Fh jQ jQ jQ jQ jQ jQ jQ jQ jQ bL bL jQ jQ Fh jQ jQ jQ jQ jQ jQ bL bL jQ jQ jQ jQ bL Fh bL bL bL bL bL bL bL bL bL bL bL bL bL bL bL bL bL bL Fh bL bL bL bL bL bL bL bL ⟨⟨Q.non,Q.non,Q.non,Q.non,Q.non,Q.non,Q.non,Q.non,Q.non,Q.non,Q.non,Q.non⟩,Q.non,Q.non,Q.non,Q.non,Q.non⟩ ⟨Q.val⟩ ⟨Q.val,Q.val,Q.val,Q.val,Q.val,Q.val,Q.val,Q.val,Q.val,Q.val,Q.val,Q.val,Q.val,Q.val,Q.val,Q.val,Q.val,Q.val,Q.val,Q.val,Q.val,Q.val,Q.val⟩ ⟨Q.val,Q.val,Q.val,Q.val,Q.val,Q.val⟩ (by k_is) (Ip (by decide+kernel) (by k_is) ⟨rfl,rfl,rfl⟩ rfl (by exact .cons ⟨⟨_,rfl⟩,rfl,⟨_,rfl⟩⟩ (.cons ⟨⟨_,rfl⟩,rfl,⟨_,rfl⟩⟩ (.cons ⟨⟨_,rfl⟩,rfl,⟨_,rfl⟩⟩ (.nil)))) (by decide+kernel)) (by k_is) (Ip (by decide+kernel) (by k_is) ⟨rfl,rfl,rfl⟩ rfl (by exact .cons ⟨⟨_,rfl⟩,rfl,⟨_,rfl⟩⟩ (.cons ⟨⟨_,rfl⟩,rfl,⟨_,rfl⟩⟩ (.cons ⟨⟨_,rfl⟩,rfl,⟨_,rfl⟩⟩ (.nil)))) (by decide+kernel)) (by k_is) (Ip (by decide+kernel) (by k_is) ⟨rfl,rfl,rfl⟩ rfl (by exact .cons ⟨⟨_,rfl⟩,rfl,⟨_,rfl⟩⟩ (.cons ⟨⟨_,rfl⟩,rfl,⟨_,rfl⟩⟩ (.cons ⟨⟨_,rfl⟩,rfl,⟨_,rfl⟩⟩ (.cons ⟨⟨_,rfl⟩,rfl,⟨_,rfl⟩⟩ (.nil))))) (by decide+kernel)) (by k_is) (Ip (by decide+kernel) (by k_is) ⟨rfl,rfl,rfl⟩ rfl (by exact .cons ⟨⟨_,rfl⟩,rfl,rfl⟩ (.cons ⟨⟨_,rfl⟩,rfl,rfl⟩ (.cons ⟨⟨_,rfl⟩,rfl,rfl⟩ (.cons ⟨⟨_,rfl⟩,rfl,rfl⟩ (.cons ⟨⟨_,rfl⟩,rfl,rfl⟩ (.cons ⟨⟨_,rfl⟩,rfl,rfl⟩ (.cons ⟨⟨_,rfl⟩,rfl,rfl⟩ (.cons ⟨⟨_,rfl⟩,rfl,rfl⟩ (.cons ⟨⟨_,rfl⟩,rfl,rfl⟩ (.cons ⟨⟨_,rfl⟩,rfl,rfl⟩ (.cons ⟨⟨_,rfl⟩,rfl,rfl⟩ (.cons ⟨⟨_,rfl⟩,rfl,rfl⟩ (.cons ⟨⟨_,rfl⟩,rfl,rfl⟩ (.cons ⟨⟨_,rfl⟩,rfl,rfl⟩ (.cons ⟨⟨_,rfl⟩,rfl,rfl⟩ (.cons ⟨⟨_,rfl⟩,rfl,rfl⟩ (.cons ⟨⟨_,rfl⟩,rfl,rfl⟩ (.cons ⟨⟨_,rfl⟩,rfl,rfl⟩ (.cons ⟨⟨_,rfl⟩,rfl,rfl⟩ (.cons ⟨⟨_,rfl⟩,rfl,rfl⟩ (.cons ⟨⟨_,rfl⟩,rfl,rfl⟩ (.cons ⟨⟨_,rfl⟩,rfl,rfl⟩ (.cons ⟨⟨_,rfl⟩,rfl,rfl⟩ (.nil)))))))))))))))))))))))) (by decide+kernel)) (by k_is) (Ip (by decide+kernel) (by k_is) ⟨rfl,rfl,rfl⟩ rfl (by exact .cons ⟨⟨_,rfl⟩,rfl,⟨_,rfl⟩⟩ (.cons ⟨⟨_,rfl⟩,rfl,⟨_,rfl⟩⟩ (.cons ⟨⟨_,rfl⟩,rfl,⟨_,rfl⟩⟩ (.nil)))) (by decide+kernel)) (by k_is) (ay5 (by k_is) rfl rfl (by decide+kernel) (.cons ⟨_,rfl⟩ (.cons ⟨_,rfl⟩ (.cons ⟨_,rfl⟩ (.cons ⟨_,rfl⟩ (.cons ⟨_,rfl⟩ (.cons ⟨_,rfl⟩ (.nil))))))))
 case S=>intro K H xs a t I y hx;cases hx with|cons Z h2=>cases h2;cases Z with|lst hs ha=>have e:=L2.ajS a.1 _ ha;subst e;have q:((Lm.inLen 0 17000 a.1&&a.1.all (Lm.inInt (-1000000000000000000) 1000000000000000000))&&true)=true:=I;rw[dJ,dJ]at q;exact⟨_,a.1,rfl,hs,(Lm.inNat_iff.mp q.1.1).2,y,λH' p hp=>.lst (L2.aj.of hp) (L2.ajR _)⟩
