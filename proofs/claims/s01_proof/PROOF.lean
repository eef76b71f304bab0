import PyProof.Rows.All
import KE.BitLaws
import KE.KDictList
import KE.KDictOf
import KE.KMinKey
import KE.KRevIter
import KE.KSortTupG
import KE.KTupSum
import KE.OsGo
import KE.OsHead
import KE.OsShapes
import KE.SpHead
import Open.SpecLaws
import OpenK.AllK
import PyProof.DictRoadsH
import PyProof.EqAt
import PyProof.EqKinds
import PyProof.TupleCall
import PyProof.TupleKey
import PySem.Challenge.RW_turnedcards_s01_answers
import PyVbcjac
import VbcjacSpec
import Wide.All
import Wide.FinOn
set_option Elab.async false
set_option linter.all false
section
set_option hygiene false
local macro_rules|`(universe $_*)=>do
 let f(p:String×List Nat):=p.2.mapM λi=>`(theorem $(Lean.mkIdent (.str `PySem.W.Fast s!"tw{(Lean.Name.str `hd0 s!"{p.1}_{i}").hash}")):ident:True:=trivial)
 let l<-[("o",List.range 1025),("heap",[1,8,1024]),("view",[1]),("tree",[9,53,91,149,228,304,387,417,473,482,568,648,701,757,809,865,956,998,1001,1021]),("sts",[11,54,94,152,229,305,388,418,474,483,569,649,702,758,810,866,957,999,1004])].mapM f
 return Lean.mkNullNode (l.flatten.map (·.raw)).toArray
universe u
end
theorem PySem.W.Fast.tw3581923804579812207:True:=trivial
structure HdKp (p:Prop):Prop where
 o:p
def HdKz {P:Prop}(_:P){α:Type}(d:α):α:=d
theorem HdZd {P:Prop}(z:P){α β:Type}{o:Option (α×β)}{d:α}{k:β}(h:o=some (d,k)):o=some (HdKz z d,k):=h
section
set_option hygiene false in
local macro_rules|`(tactic|rfl)=>`(tactic|first|exact HdZd z (by eq_refl)|exact HdZd z rfl)
open PySem PySem.W PyProof.Rows in
set_option maxRecDepth 100000 in
set_option maxHeartbeats 0 in
def hd0 : {p : Prop // HdKp p → PySem.Challenge.rw_turnedcards_s01_answers.Holds} := ⟨_, fun z => by
  w_on; k_headS; (case hw => exact ⟨[.list [.int 1]], by decide +kernel, by decide +kernel⟩)
  k_fillS; unfold HdKz; exact z.o⟩
end
set_option maxRecDepth 100000
set_option maxHeartbeats 0
open Array renaming length_toList->AI,getElem?_toList->G4,forIn_toList->awb,toList->awi,mem_toList_iff->aXJ,getElem?_eq_none->aYy
open Bool renaming and_eq_true->eZ,eq_false_iff->jA,false_ne_true->jP,eq_iff_iff->kK,or_eq_true->pk,false_eq_true->qh,noConfusion->xB,false_and->zd,not_eq_true'->AA,or_eq_false_iff->AE,true_and->Eo,not_true->Ep,not_eq_true->N4,not_eq_false'->ajM,bne_assoc->avH,false_or->avY,not_false->awc,or_false->aX3,and_false->aX8,true_or->aYp,and_eq_true_iff->aYV,and_true->aZv
open Char renaming toNat->aWW
open Classical renaming byContradiction->avI,choose->a09,choose_spec->a0_
open Decidable renaming not_not->aZm
open Eq renaming refl->tG,symm->Ks
open Except renaming ok->a1b
open False renaming elim->oI
open ForInStep renaming yield->ajm
open Function renaming comp->Gs
open Iff renaming rfl->Go
open Int renaming ofNat->dU,toNat->qU,natCast_emod->B2,eq_ofNat_of_zero_le->GJ,ofNat_le->JW,natCast_add->Kr,natCast_mul->OM,natCast_ediv->Uw,toNat_natCast->aje,zero_add->ajD,ofNat_lt->avF,natAbs->avT,toNat_of_nonneg->av_,le_antisymm->aWN,le_trans->aW_,fdiv_eq_ediv_of_nonneg->aXI
open List renaming length_map->aw,getElem?_map->bB,mem_map->bE,map_append->bF,range->bP,mem_append->bX,map_map->b6,getElem?_eq_getElem->cJ,map_cons->cT,mem_singleton->dt,mem_of_getElem?->eD,length_cons->eE,mem_cons->eJ,length_append->eM,getD_eq_getElem?_getD->eY,length_take->f_,append_assoc->gh,size_toArray->gB,getElem?_eq_some_iff->gL,mem_cons_of_mem->iD,append_nil->iO,take_length->iQ,contains_iff_mem->iW,mem_filter->jk,sum_cons->jB,length_drop->jC,map_congr_left->jO,getElem_map->jY,all_eq_true->j_,mem_range->kt,mem_flatMap->lI,length_reverse->lK,filter_cons->mi,reverse_cons->mQ,length_range->nI,length->nO,getElem_of_mem->oC,filter_eq_self->oH,nodup_cons->pd,drop_zero->pj,mem_cons_self->pw,getElem?_eq_none->qg,nodup_iff_pairwise_ne->qT,pairwise_iff_getElem->rQ,getElem_range->rR,length_eq_zero_iff->rS,find?_cons->rT,length_filter_le->rV,replicate->tI,map_id->uC,range_succ->uF,mem_append_right->uG,not_mem_nil->uJ,take_succ->uQ,flatten_cons->vX,ext_getElem->xn,getElem_mem->xo,getElem?_append_right->xp,length_singleton->xu,drop_eq_getElem_cons->yO,drop_eq_nil_of_le->yP,find?_eq_none->yQ,map_set->yS,map_drop->yU,map_take->yV,map_nil->At,mem_append_left->Au,pairwise_map->Av,getElem?_range->Ay,filter_sublist->AB,foldl_cons->BX,length_pos_iff->BY,mem_of_find?_eq_some->BZ,length_set->B1,any_cons->B3,mem_of_mem_take->Ee,mem_reverse->Ef,take_of_length_le->Eg,flatMap_cons->Ei,getLast?_eq_some_iff->El,zipWith->Em,all_map->Ey,nodup_append->Gk,sum_append->Gm,foldl_append->Gr,getElem?_reverse->Gu,take_append_drop->Gw,take_zero->Gx,isEmpty_iff->GB,nil_append->GF,getLast?_eq_none_iff->GH,lookup->GU,find?_map->Hc,find?_some->JY,take_add_one->J2,mem_eraseDups->J6,filter_map->J7,all_cons->J8,drop_drop->J9,lookup_cons->Kn,getElem?_drop->N0,exists_mem_of_ne_nil->N6,getD_cons_succ->N9,map_reverse->N_,cons_append->Oa,dropLast_concat->Od,replicate_succ->Ox,length_zipIdx->OH,flatMap_append->Tz,any_eq_true->TD,range_succ_eq_map->TF,ext_getElem?->TH,zip_cons_cons->TU,filter_congr->TW,getElem?_set_ne->TY,length_nil->Uh,nodup_nil->Ul,length_flatMap->aiw,getElem?_set->aiz,getElem?_append_left->aiB,exists_mem_of_length_pos->aiH,length_eraseIdx->aiI,getElem?_cons_succ->aiL,mem_of_getLast?->aiM,length_zip->aiN,filter_cons_of_neg->aiO,filter_cons_of_pos->aiP,mem_of_mem_drop->aiQ,map_eq_nil_iff->aiS,reverse_perm->aiT,flatten_append->aiU,filterMap_cons->ai3,getElem?_set_self->ai4,toList_toArray->ajs,filter_append->ajy,map_singleton->ajI,mk_mem_zipIdx_iff_getElem?->avJ,pairwise_flatMap->avK,foldr_cons->avL,perm_ext_iff_of_nodup->avN,getElem_append->avO,getElem_drop->avP,getElem_take->avQ,drop_length->avU,perm_append_comm->avV,findIdx_le_length->avW,zipIdx_cons->avX,pairwise_cons->avZ,any_eq_false->av0,mem_or_eq_of_mem_set->av5,getElem_reverse->av6,reverse->av7,dropLast_sublist->av9,length_dropLast->awa,of_mem_zip->awu,foldl->awP,getElem?_cons_zero->awZ,filterMap_map->aw1,length_tail->aw2,map->aw6,any_map->aw9,find?_isSome->aw_,append_inj'->axa,drop_eq_nil_iff->axu,findIdx_eq->aWK,perm_cons_erase->aWM,getElem?_take->aWR,dropLast_concat_getLast->aWX,reverse_append->aWZ,getElem?_zipIdx->aW0,mem_zipIdx_iff_getElem?->aW3,pairwise_append->aW4,findIdx_getElem->aW5,set_cons_succ->aW6,length_zipWith->aW8,not_of_lt_findIdx->aXa,nodup_range->aXb,filter_nil->aXc,mem_filterMap->aXF,eraseIdxIfInBounds_toArray->aYd,forIn_nil->aYk,getElem?_zip_eq_some->aY1,takeWhile_cons->aY4,map_dropLast->aZo,getLastD_eq_getLast?->aZp,reverse_reverse->aZu,find?_append->aZF
open List.Nodup renaming sublist->a1a
open List.Pairwise renaming imp_of_mem->aiv
open List.Perm renaming append_right->aW9,append_left->a1c,cons->a1d
open List.cons renaming inj->axb,injEq->a1i
open Nat renaming le_refl->bM,zero_le->cR,le_trans->dw,lt_or_ge->ft,mod_lt->fJ,mod_eq_of_lt->iN,le_of_lt->jc,ne_of_lt->jD,lt_of_le_of_lt->oB,zero_add->oE,lt_of_lt_of_le->qe,add_assoc->qf,add_mod->tf,add_sub_cancel->tp,mod_add_mod->yN,mod_self->yT,min_eq_left->yZ,lt_irrefl->y4,lt_succ_self->Aq,add_comm->Ar,add_mod_right->Aw,le_succ_of_le->AL,mul_comm->B0,min_le_right->D9,add_zero->D_,mod_two_eq_zero_or_one->Ea,lt_trichotomy->Eb,add_mul->Ec,sub_add_cancel->Gj,pow_succ->Gq,ne_of_gt->Gv,mul_le_mul_right->GD,add_mod_mod->JX,mul_le_mul->JZ,sub_zero->J0,sub_self->J1,lcm->J3,lt_succ_of_lt->J5,le_succ->J_,add_right_comm->NU,mul_assoc->NX,gcd->NY,not_lt_zero->N8,succ_mul->Oc,le_of_eq->Ou,le_add_right->OD,le_antisymm->Tx,lt_trans->TJ,le_of_not_lt->aiu,one_mul->aix,eq_zero_or_pos->aiC,div_lt_of_lt_mul->aiE,pow_le_pow_right->aiJ,le_of_succ_le->ajl,sub_lt_sub_left->ajE,min_eq_right->ajH,add_sub_cancel'->avE,succ_le_succ->avG,pow_pos->av2,sub_le->aWJ,succ_ne_self->aWP,lt_succ_of_le->aWQ,mul_add->aWS,mul_one->aWT,div_add_mod->aWV,le_add_left->aWY,le_mul_of_pos_left->aW1,log2_lt->aXe,gcd_comm->aZl,le_total->aZn,div_div_eq_div_mul->aZq
open Nat.succ renaming inj->a3G
open Ne renaming symm->tD
open Option renaming isSome_map->Ez,toList_some->EB,map_some->J4,none->ajt,map_eq_some_iff->awQ,getD_some->aWU,isSome_iff_exists->aXQ,getD_none->aX4,isSome_some->aYn,not_isSome_iff_eq_none->aZt
open Option.some renaming inj->cM,injEq->aYN
open Or renaming inl->al,inr->ao
open Prod renaming ext->aiA,fst->avS
open Prod.mk renaming injEq->a1j,inj->a3r
open PyFlat renaming calls->B4,call->Oe,told->UC,played->ajR,rows->a1e,row->a1f
open PyProof renaming noPylong_small->a1r,noPylong_of_log2->a3p
open PyProof.Rows renaming IntsAre->uN,kindOf->vY,boot_abs->zj,seqObj->AK,boot_list->B_,envOfC->Ex,callWith_type1->GS,AllBare->Kf,IsTup->Ol,boot_sum->ON,Call_->T8,boot_range->T9,Subscript_->ajf,boot_sorted->ajF,boot_all->ajG,boot_tuple->ajJ,subscriptTail->awE,tail_any->awF,isTrue_and->aXv,isTrue_or->aXw,floordiv_int->aXH,subscriptTail_builtinR->aX2,sortedAll_at->aYi,sortedAll_old->aYj,wpAny_notIn_heap->aYu,get?_update_seq->aZh,lexLt->aZw,lex_true->aZx,callWith_builtin1->a2a,lt_int->a2b,sorted_ints->a2B,join_list->a2L,join_tuple->a2M
open PyProof.Rows.G renaming tupKeyC->axc,sorted_tups->a3s,tupKindC->a3t
open PyProof.Rows.IntsAre renaming nil->a2z,cons->a2A
open PyProof.Rows.IsTup renaming new->aX1
open PySem renaming Addr->aa,Value->ai,Str->au,Shared->aK,wpAny_bind->bg,Stmt->bi,wpAny->bn,sizeLine->bq,Obj->bS,model->bV,Expr->cq,boot_len->cx,Heap->cH,wpAny_pure->cO,World->dc,eval->de,Program->dz,Pos->dO,starEach->eN,Around->fG,cLine->jl,mainGlobals->ke,Env->lu,Scope->lN,backTo->mP,FuncData->nY,cellsFrom->oJ,compareOp->px,sysModules->qi,Sem->qj,atKey->qW,wpAny_mono->tF,NameKind->tH,mem_of_lookup->uL,DictEntry->uO,wpAny_loadPart'->vZ,compEnvC->xA,holding->zg,binaryOp->zh,wpAny_holding->AG,pyNext->B5,rule->B6,codeAny->B7,sliceBounds->B9,wpAny_truthy_bool->Er,tupleKind->Es,Expr->Et,wpAny_Call_Name_kw->Ew,Params->EA,wpAny_forIn_list->GL,assignEach->GQ,rawInt->GR,attributeBase->GV,backToKw->GY,keywordEach->GZ,bindL->G1,bindC->G2,call_meets->G3,PyData->G5,pushCells->G6,valueAt->G7,plainId_quiet->G9,wpAny_specialOf->Kb,wpAny_call_entry->Kc,bootBuiltins->Ke,standAt->Kg,assign->Kh,wpAny_passesOwn->Ki,getMethod->Kj,BindsTo->Kk,getItem->Kl,slicePick->Km,wpAny_updateSeq->Ko,tupleKeyHash->Og,wpAny_isInstance->Oh,wpAny_seqItems->Oi,Model->Om,CmpOp->Oo,behindInMarks->Op,swapsWith->Oq,sizeLine_eq->Ot,callWith->Ov,notedBy->OB,callerA->OG,wpAny_letGo->OJ,wpAny_ite_split->OK,wpAny_tryCatch->OL,wpAny_tupleItemsOf->T1,wpAny_rule->T4,isTrue->T6,pyIter->T7,Result->Ub,bindArgs->Ud,codeAny_mono->Ue,Keyword->Uf,richCompare->Ug,updateSeq->Ut,codeAny_builtin->Uu,isInstance->aiX,isSubtype_tuple_tuple->aiY,eqIsQuiet->ai0,wpAny_execs_nil->ai5,setItem->ai6,letOwnedTupleGo->ai7,foldedSetIterable->ai8,Meets->ajc,data2->ajd,subscripted->ajg,pushCells_keeps->ajk,wpAny_newObj_type->ajn,tupleKind_room_in1->ajo,wpAny_dictEntries->ajp,wpAny_typeNameOfWhole_keyiter->ajq,wpAny_typeNameOf_keyiter->ajr,storeAll->ajz,sliceRange->ajA,entryOfKey->awd,Within->awe,builtinsNs->awg,wpAny_Name->awh,wpAny_standAt->awj,wpAny_pyIter_list->awk,getAttr->awl,wpAny_call->awt,concat_meets->awx,noFill_tuple_add->awy,seq_tuple_add->awz,evalPart_none->awD,seqIndex?->awG,seqIndex_of->awH,seqIndex_neg->awI,operate->awJ,slot_list_getitem->awK,typeIs_str->awL,typeIs_int->awM,typeOf->awN,cellOf->awR,compPost->awT,storedH->awU,wpAny_pyIter_revIter->awW,wpAny_dictEpoch->awX,wpAny_callSpecial?_slot->awY,ItemsOf->aw3,seqItems?->aw5,IsTupleKey->aXf,reduceHash->aXg,wpAny_ret_mkInt->aXh,wpAny_eqBool_tuple->aXi,wpAny_richCompare_same_room->aXj,storeName->aXq,Stmt->aXr,wpAny_Compare1->aXt,wpAny_isTrue_Compare1->aXu,wpAny_execs_cons->aXx,interactive->aXy,wpAny_assign_Name->aXz,PassesOwn->aXA,IsRangeIter->aXB,small_one->aXC,rangeSize_one->aXD,call_range_2->aXE,intBits_le_64->aXG,recursionLimit->aXM,Arguments->aXR,richCompare_meets_room->aXU,typeLookup->aXY,wpAny_Slice->aXZ,wpAny_getItem_list_slice->aX5,call_list_seq->aX6,PlainAttrs->aX7,fitsIndex_both->aYe,nums_intItems->aYg,preSum_eq->aYh,closureFor->aYl,newFunctionEnv->aYm,comprehension->aYo,wpAny_getItem_of->aYq,wpAny_getItem_heap->aYr,wpAny_in_of->aYs,wpAny_notIn_of->aYt,wpAny_setItem_heap->aYv,wpAny_Assign_Subscript->aYw,call_reversed_list->aYx,wpAny_pyIter_slot->aYz,wpAny_attempt->aYC,wpAny_fieldsOf->aYF,wpAny_isOneOf_keyiter->aYH,wpAny_setField->aYI,firstArgMember->aYL,wpAny_of_eq->aYM,wpAny_pyIter_keyiter->aYO,wpAny_pyIter_enum->aYQ,wpAny_pyIter_zip->aYR,call->aY0,call_meetsIn->aY3,wpAny_Dict_any->aY5,pairTrees_cons_walk->aY6,pairTrees_nil_walk->aY7,wpAny_dictSet_heap->aY8,typeLookup_type->aZc,builtinLookup_eq_fast->aZd,Fin->aZj
open PySem.Around renaming under_plainId->Uv,under->awr,in1->a1h,frames_deeper->a19
open PySem.AutoListH renaming list___mul___list_int_3->a2y
open PySem.AutoSeq1 renaming sub_tuple_tuple->aXT,sub_list_list->aY_,list_extend_list_list_0->a2t,idx_int->a28,sub_tuple_list->a29,sub_list_tuple->a2_
open PySem.Builtin.Builtins renaming bindParams->aZk
open PySem.Builtin.Dict renaming showsAll->aYB,dictSlotNone->a2J,pendingCount->a24
open PySem.Builtin.Dict_items renaming ownsTuple->aYG
open PySem.Builtin.List renaming listTooLong->Oy,listExtendWith->ajB,listLengthHint->aZb,listSameRef->aZe,listItems->aZg,listFitsIndex->a2x,listUpdate->a3i
open PySem.Builtin.Range renaming rangeSize->a1q
open PySem.Builtin.Tuple renaming tupleHashOf->Of,tupleItemsOf->a1g,tupleCompareSizes->a2c
open PySem.Calls renaming spliced_cons->Uc,spliced_nil->aja,callWith_builtin->ajh,evalArgs_plain->awO,Name_function_global->aXs
open PySem.Challenge renaming pw_turnedcards_s01_answers->a3q
open PySem.Code renaming isFrame->aws,frames->aXN
open PySem.Data renaming seq->ajw,dict->aYX
open PySem.DictEntry renaming refKey->a1R
open PySem.EqMixed renaming eq_bool_str->a1x,eq_int_str->a1z,eq_str_bool->a1B,eq_str_int->a1C,ne_bool_str->a1J,ne_int_str->a1L,ne_str_bool->a1N,ne_str_int->a1O
open PySem.EqNone renaming eq_none_none->a1s,eq_none_bool->a1t,eq_none_int->a1u,eq_none_str->a1v,eq_bool_none->a1w,eq_int_none->a1y,eq_str_none->a1A,ne_none_none->a1E,ne_none_bool->a1F,ne_none_int->a1G,ne_none_str->a1H,ne_bool_none->a1I,ne_int_none->a1K,ne_str_none->a1M
open PySem.F renaming plainAttrs_list->fC,slot_list_append->jm,type_list_append->jn,slot_list_pop->Ca,type_list_pop->Cb,plain_min_loop->Kq,slot_dict_keyiterator_next->OC,slot_tuple_hash->aiW,slot_tuple_eq->aiZ,slot_list_index->aji,slot_list_extend->ajK,type_list_extend->ajL,slot_tuple_lt->aww,slot_tuple_add->awA,entry_tuple_add->awB,args_tuple_add_2->awC,slot_dict_getitem->awV,entry_min_loop->aw4,type_list_index->aw8,entry_tuple_lt->aXV,args_tuple_lt_2->aXW,slot_list_extend->aX9,entry_list_extend->aX_,args_list_extend_2->aYa,slot_list_pop->aYb,entry_list_pop->aYc,slot_int_rmul->aYf,slot_dict_iter->aYA,entry_dict_keyiterator_next->aYD,args_dict_keyiterator_next_1->aYE,slot_dict_keyiterator_iter->aYP,slot_dict_get->aY2,slot_dict_len->aY9,plain_extend_loop->aZf,entry_list_index->a2C,args_list_index_2->a2D,plainAttrs_dict->a20,type_dict_get->a21,entry_dict_get->a22,args_dict_get_3->a23,entry_dict_len->a25,args_dict_len_1->a26,called_list->a3e,typeCall_list_1->a3f,entry_list_init->a3g,args_list_init_2->a3h,slot_list_lt->a3j,entry_list_lt->a3k,args_list_lt_2->a3l,kind_min->a3m,plain_min->a3n,entry_min->a3o
open PySem.Heap renaming lt_size->fL,get?_push_of_some->iX,get?_push_size->kx,size_push->zi,SameBut->Ka,get?_update_self->Ui,get?_update_other->Uj
open PySem.Heap.DictOf renaming new->a2I
open PySem.Heap.IsSliceOf renaming new->aX0
open PySem.Heap.Ns renaming keeps->a2G,new->a2H
open PySem.Heap.Ns1 renaming of_empty->a18
open PySem.Heap.SameBut renaming update->Um
open PySem.IsL renaming update->a2s
open PySem.IsRange renaming new->a1p
open PySem.ItemsOf renaming nil->a3d
open PySem.MeetsSeq renaming list_pop_last->a2u,list_pop_at->a2v
open PySem.MeetsSeq3 renaming plain_eq_loop->ajC,entry_eq_loop->aZi
open PySem.NameKind renaming free->OA,cell->awS
open PySem.Obj renaming mapSeq->qk,mapFields->aYJ,data_mapFields->aYK
open PySem.P renaming str_of_int->a1Q,add_list->a2w
open PySem.PassesOwn renaming never->eK
open PySem.PyData renaming eqv->Oz,eqvAll->Ur,int->ajx
open PySem.ReadsAll renaming nil->a2E,cons->a2F
open PySem.SeqAt renaming shaped->Uk,EqAt->awv
open PySem.SeqAt.EqAt renaming int_str->aXm,str_int->aXn,int_int->aXS,same->a2f,none_bool->a2g,none_int->a2h,none_str->a2i,bool_none->a2j,bool_bool->a2k,bool_int->a2l,bool_str->a2m,int_none->a2n,int_bool->a2o,str_none->a2p,str_bool->a2q,str_str->a2r
open PySem.Str renaming ofString->AJ,join->aw0,empty->aXL
open PySem.StrLaws renaming seqIndex_nonneg->aZr
open PySem.Txt renaming join->Uo
open PySem.Value renaming ref->dk,none->AF,type->AH,bool->GO,int->Oj,str->ai1,isInt->aXk,isStrOf->aXl,bytes->aXo,float->aXp,notImplemented->aXX
open PySem.Value.type renaming inj->aYW
open PySem.W renaming Frag->aZ,WData->lO,nsIn->qX,fnOf->uM,findIn->xy,keepIn->xz,emptyDict->Eu,instObj->GP,WellAll->G8,codeIn->Ow,Codec->OE,plainGet->T_,isFn->Ua,Well->Up,lookIn->ai9,hasDictIn->ai_,callWith_K->ajb,methodObj->awf,plainGet_of->awm,plainOver->awn,takerIn->awo,makesIn->awp,methodCall_KW->awq,handedIn->aXK,callWith_K0->aXO,cellsFrom_some->aXP,WRecords->aYT,length_le_weightAllW->aYU,WalkOS->aYZ,kdl_call->aZa,mg_of->aZJ,hideAll->a1k,hideAll_size->a1l,hideAll_get->a1m,of_hideAll->a1n,hideAll_none->a1o,eq_bytes->a1D,ne_bytes->a1P,InstAt->a1S,get_value->a1T,findObj_own->a1U,method_fn->a1V,set_plain->a1W,osa_open->a1X,any_some->a1Y,looks_clsIn->a10,typeIn->a12,InitBack->a13,make_core->a14,makes_of->a15,looks_findIn->a16,bind_fn->a17,codeRec_of->a1_,ki_setAt->a2d,ki_setBack->a2e,ktu_apart->a2K,layableW_iff->a2W,os_pre_some->a2X,enter_call->a2Y,ktm_sumG->a27,kdl_dict->a3a,KdlSrc->a3b,kdl_hint_dict->a3c,mg_none_of->a3H
open PySem.W.Codec renaming encAll->OF,app->Uq,denoteAll->aju,withinAll->aYY
open PySem.W.Looks renaming here->a1Z
open PySem.W.OpenSpec renaming post_iff->a2Z
open PySem.W.ReadsAllW renaming nil->a2U,cons->a2V
open PySem.W.ReadsW renaming none->a2N,bool->a2O,int->a2P,str->a2Q,bytes->a2R,list->a2S,tuple->a2T
open PySem.W.WData renaming weightAll->ajv,int->aYS
open PySem.Walks renaming list->ajj
open PySem.Within renaming cons->a11
open PyVbcjac renaming whole->tE,shape->uK,answers->Kx,answers_asked->aZI,calls->a3F
open String renaming toList_ofList->a08
open Sum renaming inl->kc,inr->xx
open Sum.inl renaming inj->ze
open Sum.inr renaming inj->ai2
open True renaming intro->B8
open Vbcjac renaming Hand->az,bit->aD,comp->aY,sumAt->b5,orderIn->b7,toldRow->cg,imageOf->cK,through->cQ,evenIn->cU,upIn->dj,meaning->du,Card->dX,cutHand->eg,Grid->eA,ringForm->eF,Row->eG,sideOf->eQ,named->e9,factorial->fk,text->fu,can->fK,Reached->fX,sidesCount->fY,downTo->fZ,ordering->gk,Toks->gK,same->gY,fixes->iq,truth->ir,exchanged->iE,fits->iP,turnHand->jd,«ints»->jo,over_->ka,State->kL,orderBad->lc,lengthAt->lJ,between->lM,chainOf->mh,reachedFrom->mO,tokens->nJ,levels->nQ,holds->nV,profiles->nX,tours->oF,tour->oG,sifted->ph,parts->qV,valueOf->rW,spaced->rX,movedBy->tj,Word->tq,DEEP->tu,laid->tw,step->tJ,rowBy->uI,can->uP,firstBad->vV,onto->vW,wordIn->xq,countOf->xt,completed->yR,wayHand->yW,decimal->yX,valueOf->yY,Bytes->As,everyHand->Ax,rankOrder->Az,Cond->AC,choices->AD,ROUNDS->Ed,wordsIn->Eh,leastBy->Ej,digit->Ek,folded->En,dealHand->Gp,levelOf->Gy,leastWay->Gz,foldFirst->GI,rankSides->GK,Call->He,decimal->Hf,Ans->Kt,orderIn->Ku,numbersOf->Kv,countOf->Kw,grown->NV,missing->NW,placeIn->N1,sidesBad->N7,twosOf->Ob,Tok->OI,movedBy->OO,nth->OP,alikeIn->OQ,DEEP->OR,OFTEN->TM,over->TN,readWord->TQ,readCond->TX,foldAll->TZ,alikeIn->T0,toksFrom->Us,sidesNumber->Ux,digit->Uy,ofRow->Uz,TEXT->UA,written->UB,pow->aiy,asWay->aiD,fuelOf->aiF,nextRings->aiG,cardIn->aiK,foldLast->aiR,tame->aiV,OFTEN->ajN,wayTo->ajO,sideOf->ajP,groupOf->ajQ,sizeOf_->avM,ringOf->avR,orderAt->av1,GotCond->av3,condIn->av4,width->av8,rank->aw7,text->axd,wayHand->axe,readWord->axf,reading->axg,readCond->axh,orderAt->axi,holds->axj,NAMED->axk,gridOf->axl,twosOf->axm,readWords->axn,IN_GROUPS->axo,WORDS->axp,belongs->axq,SMALL->axr,back->aWL,numbersOf->aWO,numberBelow->aW2,turnedGrid->aW7,readWords->aXd,Cond->aZs,Word->aZy,asWay->aZz,through->aZA,ordering->aZB,sidesCount->aZC,foldAll->aZD,comesTo->aZE,ofCan->a3u,cutHand->a3v,Toks->a3w,parts->a3x,orderOf->a3y,rowBy->a3z,numberBelow->a3A,start->a3B,sizeOf_->a3C,fixes->a3D
open Vbcjac.Call renaming load->aZG
open Vbcjac.Card renaming no->ic,up->mj,turned->NZ
open VbcjacNeutral renaming nats->nZ,nats->EC,whole60->Hh,step->Hi,asked1->axs,start->axt,natural->aZH,asked->a3E
def ag:=@if_neg
def aj:=@if_pos
def bN:=@decide_eq_true
def cF:=@of_decide_eq_true
def cG:=@decide_eq_true_eq
def dE:=@decide_eq_false
def dS:=@congrArg
def gy:=@beq_iff_eq
def gA:=@trivial
def ku:=@if_true
def ml:=@decide_eq_decide
def nR:=@if_false
def oK:=@decide_eq_false_iff_not
def uH:=@beq_eq_false_iff_ne
def G_:=@of_decide_eq_false
def TK:=@bne_iff_ne
def TV:=@beq_self_eq_true
set_option hygiene false
set_option compiler.extract_closed false
section
open Lean Parser
def Wk.I(n:Name):Nat:=let s:="abcdefghijklmnopqrstuvwxyzABCDEFGHIJKLMNOPQRSTUVWXYZ0123456789_'!?".toList;match n.toString.toList with|[a]=>if a.toNat<192 then s.idxOf a else if a.toNat<384 then a.toNat-126 else 99999|[a,b]=>258+66*s.idxOf a+s.idxOf b|['a',b,c]=>3690+66*s.idxOf b+s.idxOf c|_=>99999
def Wk.G(t:Array Syntax)(n:Syntax):Syntax:=if n.isIdent then match t[Wk.I n.getId]? with|some e=>if e.isOfKind ``Term.hole then .missing else e|_=>.missing else .missing
def Wk.P(s:Syntax):Nat:=if s.isIdent then match s.getId.getRoot.toString.toList with|[c]=>"YZLύώϏϐϑϒϓϔϕϖϗϘϙϚϛϜϝϞϟϠϡϢϣ".toList.idxOf c|_=>99 else 99
def Wk.A(a x:Array Syntax):Array Syntax:=x.foldl (λr y=>let k:=Wk.P y;if 14<=k&&k<26 then r++a.extract (k-14) else r.push y) #[]
def Wk.N(k:Name)(x:Array Syntax):Syntax:=mkNode k x
def Wk.S(c:String)(x:Array Syntax):Syntax:=mkNullNode (mkSepArray x (mkAtom c))
def Wk.V(x:Array Syntax):Syntax:=Wk.N ``Term.anonymousCtor #[mkAtom "⟨",Wk.S "," x,mkAtom "⟩"]
def Wk.M(f:Syntax->Syntax)(x:Array Syntax):Array Syntax:=x.map f
def Wk.Q(x:Syntax):Syntax:=Wk.N ``Tactic.paren #[mkAtom "(",x,mkAtom ")"]
def Wk.T(l:Array Syntax):Syntax:=Wk.N ``Tactic.tacticSeq #[Wk.N ``Tactic.tacticSeq1Indented #[Wk.S ";" l]]
def Wk.R(x:Syntax):Syntax:=Wk.N ``Tactic.rcasesPatMed #[mkNullNode #[x]]
def Wk.O:Nat->Syntax->Syntax
|0,s=>s
|n+1,s=>let s:=if s.isOfKind `choice then s[0] else s;if s.isIdent then Wk.N ``Tactic.rcasesPat.one #[s] else if s.isOfKind ``Term.anonymousCtor then Wk.N ``Tactic.rcasesPat.tuple #[s[0],Wk.S "," (Wk.M (λx=>Wk.N ``Tactic.rcasesPatLo #[Wk.R (Wk.O n x),mkNullNode]) s[1].getSepArgs),s[2]] else Wk.N ``Tactic.rcasesPat.ignore #[mkAtom "_"]
def Wk.H(s:Syntax)(i:Nat):Syntax:=s.setArg i (mkNullNode (Wk.M (λb=>if b.isOfKind ``Term.hole then mkIdent `x_ else b) s[i].getArgs))
def Wk.B(b:Array Syntax):Nat->Syntax->Array Syntax
|0,c=>#[c]
|n+1,c=>if c.isOfKind ``Term.instBinder&&c[1].getNumArgs==0 then let y:=Wk.G b c[2];if y.isMissing then #[c] else y[1].getArgs.flatMap (Wk.B b n) else #[c]
def Wk.D(r:Array Syntax):Array (Array Syntax):=r.foldl (λg x=>if x[0].getNumArgs==0&&g.size>0 then g.modify (g.size-1) (·.push x[1]) else g.push #[x[1]]) #[]
def Wk.K(x:Syntax)(a:List Syntax):Syntax:=if a.isEmpty then x else Wk.N ``Term.app #[x,mkNullNode a.toArray]
def Wk.U:Nat->Syntax->Nat
|0,_=>99
|n+1,s=>let j:=Wk.P s;if j<26 then (if j<14 then j+1 else 99) else s.getArgs.foldl (λa x=>max a (Wk.U n x)) 0
def Wk.Y(k:Name):Name×String:=((([(``Tactic.apply,``Tactic.refine,"refine"),(``Tactic.refine,``Tactic.apply,"apply"),(``Tactic.show,``Tactic.exact,"exact"),(``Tactic.exact,``Tactic.show,"show"),(``Tactic.delta,``Tactic.unfold,"unfold"),(``Tactic.unfold,``Tactic.delta,"delta"),(``Tactic.tacticLet__,``Tactic.tacticHave__,"have"),(``Tactic.tacticHave__,``Tactic.tacticLet__,"let"),(``Tactic.clear,``Tactic.revert,"revert"),(``Tactic.revert,``Tactic.clear,"clear")]:List (Name×Name×String)).lookup k).getD (k,""))
def Wk.W(u:Bool)(t:Nat->Array Syntax):Nat->Array Syntax->Syntax->Syntax
|0,_,s=>s
|n+1,a,s=>
 let s:=if s.isOfKind ``calcTactic then Wk.N ``Tactic.apply #[mkAtom "apply",s[1][0][0]] else if s.isOfKind ``Lean.Elab.Tactic.Ext.ext then Wk.N ``Tactic.intro #[mkAtom "intro",mkNullNode (Wk.M (λp=>if p[0].isOfKind ``Tactic.rcasesPat.ignore then Wk.N ``Term.hole #[p[0][0]] else p[0][0]) s[1].getArgs)] else s
 let f:=Wk.W u t n
 let w:=Wk.M (f a)
 let k:=s.getKind
 let x:=if k==``Term.explicit then Wk.G (t 0) s[1] else if k==``Term.tuple then Wk.G (t 1) s[1][0] else .missing
 if !x.isMissing then let y:=w (Wk.A a s[1][2].getSepArgs);let r:=f y x;let j:=Wk.U 99 x;if j<y.size then (if r.isOfKind ``Term.app then Wk.K r[0] (r[1].getArgs++y.extract j).toList else Wk.K r (y.extract j).toList) else r else
 let r:=if k==``Tactic.rwSeq&&s[3].getNumArgs==0 then s[2][1].getSepArgs else #[]
 if r.size>0&&r[0]![0].getNumArgs==0&&!(Wk.G (t 2) r[0]![1]).isMissing then
  let l:=(Wk.D r).map λr=>let q:=f (w (Wk.A a (r.extract 1))) (Wk.G (t 2) r[0]!);let q:=if q.isOfKind ``Term.paren then q[1] else q;Wk.Q q[1]
  if l.size==1 then l[0]! else Wk.Q (Wk.T l)
 else if k==`«term{_}» then
  let y:=w (Wk.A a s[1].getSepArgs)
  let l:=y.back!
  Wk.V (if l.isOfKind ``Term.anonymousCtor then y.pop++l[1].getSepArgs else y)
 else let j:=Wk.P s
 if j<14&&j<a.size then s.getId.components.tail.foldl (λx y=>Wk.N ``Term.proj #[x,mkAtom ".",mkIdent y]) a[j]!
 else match s with
 |.node i k x=>
  let k:=Wk.Y k
  let x:=w (x.flatMap (Wk.B (t 3) 99))
  let s:=Syntax.node .none k.1 (if k.2=="" then x else x.setIfInBounds 0 (mkAtom k.2))
  let k:=k.1
  let y(j:Nat)(a:Array Syntax):=let q:=(t 4).getD j .missing;if q.getNumArgs<2 then s else Wk.Q (f a q)[1]
  if u&&k==``Term.basicFun then Wk.H s 0
  else if u&&k==``Tactic.intro then Wk.H s 1
  else if k==``Tactic.omega&&s[1][0].getNumArgs==0 then y 0 #[(t 4)[8]!,(t 4)[9]!]
  else if k==``Tactic.show then y 2 #[s[1]]
  else if k==``Tactic.induction&&s[2].getNumArgs+s[3].getNumArgs==0&&s[4].getNumArgs>0 then Wk.N ``Tactic.cases #[mkAtom "cases",s[1],mkNullNode,s[4]]
  else if k==``Tactic.cases&&s[3].getNumArgs>0 then Wk.N ``Tactic.induction #[mkAtom "induction",s[1],mkNullNode,mkNullNode,s[3]]
  else if k==``Tactic.cases then let e:=s[1];if e.getNumArgs==1&&e[0][0].getNumArgs==0&&e[0][1].isIdent&&s[2].getNumArgs+s[3].getNumArgs==0 then y 1 #[e[0][1]] else s
  else if k==``Tactic.rwSeq&&s[3].getNumArgs==0 then let l:=Wk.M (λr=>y ((if (r.find? (·.isOfKind ``Term.syntheticHole)).isSome then 5 else 3)+r[0].getNumArgs) #[r[1]]) s[2][1].getSepArgs|>.push (y 7 #[]);let F:=(t 4)[3]![1][0][0][0];let a:=F[1][0];Wk.Q (Wk.T #[F.setArg 1 (mkNullNode #[a.setArg 1 (Wk.T l),a.setArg 1 (Wk.T #[s])])])
  else if k==``Tactic.tacticHave__ then
   let p:=s[2][0]
   if p[0].isOfKind ``Term.anonymousCtor||p[0].isOfKind `choice then Wk.N ``Tactic.obtain #[mkAtom "obtain",mkNullNode #[Wk.R (Wk.O 9 p[0])],mkNullNode,mkNullNode #[mkAtom ":=",mkNullNode #[p[4]]]] else s
  else s
 |.atom _ v=>.atom .none v
 |.ident _ r v p=>.ident .none r v p
 |_=>s
def Wk.C:Nat->Syntax->Syntax
|0,s=>s
|n+1,s=>
 let k:=s.getKind
 if k==``Command.universe then Wk.N ``Command.end #[mkAtom "end",mkNullNode (if s[1][0].getId==`z then #[] else #[s[1][0],mkNullNode])]
 else if k==``Command.in then s.setArg 2 (Wk.C n s[2])
 else if k==``Command.mutual then s.setArg 1 (mkNullNode (Wk.M (Wk.C n) s[1].getArgs))
 else if k==``Command.declaration then
  let d:=s[1]
  let g:=d[2]
  if d.isOfKind ``Command.definition&&d[0].getTrailingSize<2&&g[1].getNumArgs>0 then s.setArg 1 (Wk.N ``Command.theorem #[mkAtom "theorem",d[1],Wk.N ``Command.declSig #[g[0],g[1][0]],d[3]])
  else if d.isOfKind ``Command.definition||d.isOfKind ``Command.abbrev then s.setArg 0 (s[0].setArg 4 (mkNullNode #[Wk.N ``Command.noncomputable #[mkAtom "noncomputable"]]))
  else s
 else s
def Wk.J(c:String)(i:Nat):Syntax:=mkIdent (.mkSimple (c++toString i))
def Wk.L(T:Array Syntax)(q n s:Syntax):Syntax:=
 let w(i:Nat)(a:Array Syntax):=Wk.W false (λ_=>#[]) 99 a T[i]!
 let l:=s.getId.toString.toList
 let p:=l.headD 'I'
 let l:=l.tail
 let m:=l.length
 let e(i:Nat):Bool:=l[i]? ==some 'e'
 let R:=List.range (m+1)
 let d(i:Nat):=(List.range i).filter e
 let t:=Wk.J "T"
 let f:=Wk.J "x"
 let y(i:Nat):=if e i then t i else Wk.K (t i) ((d i).map f)
 let B(i:Nat)(x y:Syntax):Syntax:=(w i #[x,y])[1][0]
 let X:=R.map λi=>B 6 (f i) (y i)
 let M:=R.map λi=>B 5 (t i) (if e i then T[0]! else (d i).foldr (λj z=>w 2 #[t j,z]) T[1]!)
 let P:=(List.range m).foldr (λi z=>if e i then w 3 #[f i,t i,z] else w 4 #[y i,z]) (y m)
 let F:=R.map f
 let a:=Wk.V F.toArray
 let G:=mkIdent `G
 let k:=mkIdent `k
 let h:=mkIdent `h
 let r:=Wk.K k F
 let g:=B 5 G T[1]!
 let K:=B 6 k ((T[6]!.setArg 1 (mkNullNode X.toArray)).setArg 4 G)
 let(b,c,x):=if p=='I' then (X,P,a) else if p=='F' then ([g,K],w 2 #[P,G],w 7 #[a,r]) else ([g,B 6 h P,K],G.raw,w 8 #[a,r,h])
 (Wk.W false (λ_=>#[]) 99 #[n,c,x] q).modifyArg 1 (·.modifyArg 2 (·.setArg 0 (mkNullNode (M++b).toArray)))
def Wk.E(c:Array Syntax):Syntax:=
 let g(i:Nat):=((c[i]!)[1][2][1])[1].getSepArgs
 let o:=(c[6]!)[1].getArgs
 let T:=g 4
 let z:=(Array.range (o.size/2)).map λi=>Wk.L T c[5]! o[2*i]! o[2*i+1]!
 let r:=(c.extract 9).foldl (λ(r,m) s=>let m:=if s.isOfKind ``Command.namespace then s[1].getId==`_M||s[1].getId==`_T else m;(r.push (Wk.W (s.find? (·.isOfKind ``Tactic.renameI)).isNone (λi=>g (if i<4 then i else if m then 7 else 8)) 100000 #[] (Wk.C 9 s)),m)) (z,false)
 mkNullNode r.1
end
local macro_rules|`(mutual $c* end)=>if c[0]!.raw[1].isOfKind ``Lean.Parser.Command.example then pure (Wk.E (c.map (·.raw))) else Lean.Macro.throwUnsupported
mutual
example:=#[_,_,_,rfl,by omega,_,_,List Nat,_,_,_,_,_,_,true,_,_,_,_,_,none,Prop,_,_,_,_,by simp,_,by simp[*],_,fs @ø,_,_,λa7 A outer s H vs Q E hr h=>?_,_,_,pv 1,_,_,_,_,List V,i+1,pv 2,_,aJ n r,_,(bQ,s),_,List ai,_,_,_,_,_,_,_,_,_,_,_,_,_,_,_,_,List Int,pv 3,bM _,l.length,by simp_all,false,pins,(ţ,bS),List az,(Ķ,ai),dh mg,List aa,q.length,af H H',.ref a,xs.length,pv 0,Option V,s.heap.objs.size,by decide,pv 4,same n,j+1,_,aJ n q,Bool,t.length,n-1,Nat×@Ù,(bP,i),aj @d,List α,cf n h,.nil,List au,.ref p,s.heap,left,eI n S,(jb,@Ð),Type,V.int,λx_=>x_.1,(v,k),.inl @d,b9 @fh @fh,.ref b,n<=52,cR _,au->@ea,aG.toArray,ns.length,bQ n,2<=n,(v,n),_,by decide+kernel,by simp at h,(v,i),k+1,m+1,cA @ha,.int i,(ċ,a_,V),z.2.1,Blt mg,kvs.length,B.toBlt,(ĵ,?_),O.hn,pv 5,(ú,aa),X.env,bT t p,n%2=0,λ(x:Nat)=>@jk,List Cs,(Ĥ,@Ð),iT m p,x.kind,(ċ,Nat,@Ù),outer,O.h0,.ref l,List Wt,List fX,Nat->@Ù,jq n S U,λD hD=>?_,λ_=>@d,(T,a),kS K C,s.toks,base,X.prog,ag @ø,List cq,lD mg,(eq,g),p+1,λx_=>x_.2,.ref q,ax _ a6,h.length,x.number,af.refl _,cF hc,(ċ,az,@c9),(ep,@A),(ŏ,x,("__debug__":au)),rest,items.size,O.isRow,fY n,tokOf x,fc @e,cD ae,(Ħ,h),ps.map @d5,λh=>?_,aD b,ag h1,o.length,s1.heap.objs.size,λ_ _=>@d,fL e,(Ì,?_),ns.map @é,Array ai,pv 6,I.ok.hd hc,pv 7,m.length,.par,.ref f,gY n,@Ò+1,(cP,xs),k<=n,(Á,b),List @Ù,af H H1,(jk,@P),Gl X x,iw P w H h,c.length,x.2.1,items,I.hok,.non,name,af.refl H,n-i,n-k,(ge,aa),jd n 2,λp hp=>?_,by simp;omega,.ref d,cA b,r.length=n,h.2.1,cs.length,prog,.none,.cell,(by cases h),b7 q,ax _ aR,told c,.ref @Ò,(T,D),(cK,no),s1.seq ha,eg n k,lJ h i,(Ì,@d),(ed,dX),(ļ,xs),(Ġ,h),dH ?_,zs.map @mR,(ċ,au,V),List Pc,by simpa using h,λe=>?_,(ċ,@ce,V),(ą,a),RelV v u,even,hr.mono @Ó,.int 0,.int n,.ref t,(T,l),kx _ @d,kW k,p.map @ê,ag @Ó,(ċ,κ,V),X.calm=@o,X.K=K,aF hb,RelV y u,(bW,te),.free,q H' @ĩ,(jb,@R),.dK kvs,0+@ú,ie o s,_,(ai,xs),(aj,q),aY a b,nJ t,(cS,D),(ed,K),c.up,s.length,X.env.locals,ys.length,zs.length,(a2,@fg),bR σ vs,V.int 0,(gb,@a3<2),@é∘told,cO ?_,gm S i,v.lev i,(a2,St),iY r o c,Option aa,ag h2,(jf r q).headD 0,List lO,.str x,pv 8,tP (hf it @A) @Bv,List lu,ag @e,b.length,c.no,p.length,o.data,os.length,(v,0),.tup xs,some v,cU p x,(Á,p),spelt t p @ĉ,(jb,@K),n-@û,(pg,@Ą),lR q m,e_ k r,max k (w-k),∀c∈m,@mT,(av,h),o.Perm @ô,(bT,D),(ų,@BA),(I_,@P),g.length,e.symm,k.toNat,X.stack,I.free,vs.length,s3.heap.objs.size,x.spelt,vt.nd,R.row,V.ref z.1,af H1 H',(by cases z),(Ĥ,@ç),[@aH],λ_=>?_,gC ns,_,b≠p,(gg,2),mG (D.opened hS) (λr t dx hd R O=>?_),s1.trans s2,(ei,p),(r.map @fi).sum,(Ï,n),(cZ,@Ą),cJ hi,(v,S),f+1,no<=n,1<=no,(T,p),.inr @d,pA n,lg k,KV kvs vs,.bl b,i<=n,Mv H l h,(jq,j),(Ű,a,xs),uS H,xB (show@hc from p),cA c,by assumption,oZ K C,oV K C,a++b,a.length,x.2.2,want,ks.length,.wrong,z.2.2,X.base,I.bare,value,ps.length,bz.names,W.length,wR.nd,R.hM,e::es,List a_,ax _ aP,cX r,[@Î],λQ' k=>?_,i/2,.ref C,fN zs,(Ì,@Ą),(ed,a_),(ŧ,o),(eo,cg r),λ_=>@o,(jf,w),at_+1+@eb,nZ ns,iX _ e,m.contains x,oH.2 @ļ,(X,@jm),aY g x.2,.ref D,(T,b),(em,@Q),(a2,@Ù),.sign 40,kP W,jG g,kV k,gD v,.ref it,(v,1),aY @hd h,by omega(config:={}),(gg,1),_,(cX,@K),s3.trans s4,(v,w),(Ŧ,c),ag h0,aj h1,Array uO,(ü,@Ĵ),fJ _ h0,by simp;simp_all,(jB,H),(a4,@cd)=(px,@mU),m.wait,step,h.objs.size,s'.heap,x.cps.size,ya.nd,vq.nd,T.move,vy.nd,Option Nat,gu x,.bl @o,(gm,i),{_,@d},λz hz=>?_,Option Int,i%2==0,jr P w,(p.headD @Bu).1,I.hok.fresh @Â,.dT kvs,bN @d,.inl h,Pv i H,.ref x,cN.stab lY,(ü,dY),(r[j]).no,_,λb hb=>?_,cX h,.dT [],@Q%n,iE r i,cs.getD 0 0,k _ _ @ì e,λx hx=>?_,λ_ m=>@at_,(X,@fn),l≠[],2^63,g i j,List Profile,aj hn,K.In h,G.map dk,s2.trans s3,λD2 ia=>?_,gb x,oq ns,(R,?_),i<r.length,(ċ,@cn,V),(ge,tH),k<23,i/@ı,cd r m,n<=6,@fb+1<jl,PA X @cd t,@a1=@m3,vw K C,(jN,α),(eC,T,@m2,@ju),PE X a ta,PE X i ty,_,Gen.one,.notW,.joint,hk.2,V.ref,X.fs,items2,vs.toArray,ws.length,aG.toArray.size,es.size,j.heap,T.cl,Option ai,dP @ë,(ú,Hp),(cM,?_),eF q,dj p x,t.drop @ģ,b5 r no,bV @Ğ X.w,fk m,ig ss,(T,d),h≠[],(ĥ,@Õ,[]),¬@Ċ,WF n w,l1++l2,.word w,λp2 cP=>?_,gH v,λ_=>True,.dK [],ax _ cC,(a_,xs),(I!,h),(cK,@aZ),(å,h),cK h @Ý,k H' @ĩ,t_ n r q,cJ @C,λi hi=>?_,f i,ag h,.inl e,xt n,(Ä,@fq),x::l,l[i],RelV x v,az×@h,uV n k r,aj h0,bN h,eF r,λc hc=>?_,.int k,∀a∈A,@aub,_,_,λps a b=>?_,ak.of aq,EC ns,fJ _ hn,gM n @na,oh n ks,(Ÿ,H D),(ċ,@ce,aa×ai),(gH,H),q0 H1 s1,(x+y)%2,(pF,pos,@mU),(spelt t p @ĉ).length,a.toNat,h.2.2.1,F.length,u.length,A.units,.local,False,p.isList,slice,_L.St,λhc=>?_,λc=>aD @aA,.error q,du n w,(a2,Nat),I.tok _,h.get? b,dk a,(Ĺ,hd),cs++[@Ĩ],{s with heap:=h'},(el,i),cX z,.type "tuple",aY @Ā (iU n j),ak.of ha,(bP,j),(aq,k),(ķ,aR,aP),nQ 2000 [] [@ee],["self"],(λq=>nomatch q),(v,b),(Ĩ,@Ą),lM r q,x∈@c!,k-1-i,(@å)[k],y4 _,.tup ys,λH3 p3 s3 h3=>?_,j<r.length,p∈nX r m,(gh,@at7),(ĥ,@fk,[]),cQ G e,.sign 41,m.take i,(Ĺ,h),k<=2,aY x.2 h,(pi,r),n*(2*n),(Ja,s3),lS m p o,aj h,λ_ _=>@fd,{s with toks:=@rM},ak.of h2,(v,j),t+1,@ö-1,d%2=0,(Ä,@ô),(ì,cC),af H1 H2,(ļ,vs),_,k<=w,(jf,h),ju k @eg,g∈S,a+b,pT N A,(pH,o),bC _ @ad @d @d,iN @e,List bi,List j6,List @À,back h,M @e,kt.1 hi,Ax n,ag @C,aj h2,λy hy e=>?_,Array @ea,aF c,xQ B,λps dG ht=>?_,λH2 p2 s2 h2=>?_,iS (eD,cs),V.reverse.map @aue,by simpa using hl,A.handled=@u,af H H2,i<@ħ,p≠[],(Ä,l),(ü,@K),(ai,X.N),i<=j,gW k X.A,(db,h),(gD,s'),(eL,H),gW @û X.A,(jV,@Ī),(pI,@ņ),mI H d p,∀v,bR (jz,@a5) vs=@aG,97<=b/\b<123,(jZ,ps,xs),Qx P w K mg @ĝ,h.2.2,m.steps,b.toNat,x.2.length,us.length,A.in1,items2.size,pl.isList,j.toArray,ds.length,C4.nd,ss.length,Dc.nd,Dd.nd,ys.dropLast,T.word,S.row,q0.length,m.toNat,by rfl,(gd,p),λ_ _ _ _ _=>iH,@Å=@o,back x.2,(ah,e),h'.get? b,bV @ţ w,n/2-@cj,cK z.2 x,g.map f,@ď="word",(jl,p),List dX,rA x,1+@ú,λx_ J=>x_<J,ps.zip us,ax _ dr,Kp @Bw H H',λl=>l.map ka,.sign 59,gD x,λx l2 z=>@bt,BL K H a t,qE hk,by simpa using hi,(Jd,t),jr @Ğ X.w,¬@jr,xo _,R.head h0,tokOf @m0,zs.map @Ĥ,x.1<n,aJ n y,ax _ fj,i%2=0,@å/2,(ak,o),bG xs aG,jc hk,gZ q,dE h,bz.names.lookup y,G.map @é,dg ?_,s4.trans s5,λH4 p4 s4 h4=>?_,by simpa using hk,(v,@į),(À,?_),Nat×@at8,(Q,e),1<=@aZ,RelV x u,(Ú,H.len),(cR,i),(pi,q),(eM,H'),yR n Ed S,vs++me,(p.map @m8).headD 0,List sH,λx hx bf=>?_,aj hd,λm hm=>?_,cM h,.ref S,i7 M,_,aF @rl,_,qj @Ù,ak.of u,.dN [],pv 9,s1.seq hb,Ff mg,ds.map @d5,_,(Á,T),(ţ,oY),(Ķ,Unit),b≠g,(ge,Nat),x::xs,@ď="(",(ak,@aq),(Ū,5),(Ŀ,@Ī),(cV,@ſ),α->V,by simp;simp[*],gW k A,(gt,mv),PE X o td,n%2=1,(c?,gB),(gB,j),(ċ,κ,ai),(Jb,ds),(Je,CX),(j2,W),@nd++[i],ph (j?,i) i h,oX K h A,wo y.1 s,rF C H d c S,C0 K C,mO n i @aL,(JB,e),(Ŭ,a,@js,@Ę),λx_ J=>x_<=J,bG me ds,.rng 1 @rA,Binds K fd ps [],(pG,"nothing",@BM),CK CX X E,(ĩ,"side_of","card",CZ),this.1,m.outer,.hand,h2.symm,I.tab,o.cls,X.outer,I.ok.above,I.loc,I.kIn,aG.length,names,p'.isList,r.args,Fl.nd,Fm.nd,Fq.nd,Fv.nd,Bg.nd,Fx.nd,T.wanted,Fz.nd,T.row,(Đ,x),c<=n,s.heap.get? b,lj hr,H' b,gH x,(by cases e),(ei,600),{_,ha},(ő,q),(ē,_,@d),ir (dj p) (cU p) x,sJ k ns,cg q,.dN kvs,⟨us,[]⟩,aL @ĩ hD,(hz z m).1,signed n,c≠d,a≠D,(Ŕ,n),cK g x.1,ds[@cg],j.names.lookup x,cN.nil aq,(T,W),Mv H a h,(ŷ,@Å),(kC n @o t).2,-1000-dU q,vV r x,du @Ì k,(jt,"list_iterator",#[@ē,@at?]),V.ref a,own c,(X,@Bt),@Ö%n,(Ŧ,@aZ),(bU,e),b∉ch,(pt,p),(jO,@d8),(I?,j),(ln n t).2,[@ē],r.map @aJ,g i,ag h3,λw h=>@Ŧ,.int a,vs.map qB,wJ e,rD @a8,@Ã-1,b≠@aC,(ì,bI),@Ã-i,(eg,i),fJ _ @Ó,gM n ks,(gl,a6),(gs,tk),@Ã-@Q,cs.getD 1 0,kg n @o,d+d,(r[j]).up,@Ú-@ĉ,@rY+1+(Î,@eb),(đ,(gM,@ap),(cL,@ap)),X.blk s3 H3 bz ce B,Aq _,cJ hj,_,λz hz he=>?_,∀i∈l,i<n,ag e,ag @A,l.map @é,bN @e,λw1 a a1 X=>?_,.inl ha,λ_ _ _=>@fd,g.map @auf,kf n,.ref y,.ref _,.int j,λb o e=>@cu,∀u∈vs,@BN,u+1,aJ n x,(ge,ai),x::r,@ď=")",(ľ,@c_),(ī,z),(cX,@Ð),(bb,@A),oG r no,10^100,zo n a k,uP r q,(ķ,cC,bI),KT H kvs xs,.inr @ì,List Row,cJ bK,[@ã],λy hy=>?_,BZ e,Ce hi,dJ.length_le_of_subset kT,aj e,(q.map @fi).sum,λu hu=>?_,l.eraseIdx c,l'.map @ċ,eD hz,cX @cr,.int b,K.In @ä,hs.seq U,rW tx,λzt G _=>?_,(e9 x).eraseDups.length,uc ns,by simp+arith[*],(by cases x),(v,a),@Ļ+1,(ú,@X),_,@aul=n,h<=52,(cK,c),(Í,z2),(Ĩ,?_),p∈l,(cS,a),(el,0),(Œ,hj),(Œ,hk),(Ù,H2,D,[]),α->@Ù,α->β,(bX,@K),@ĉ-p,(jq,i),n<=8,(Ź,@Ã),oZ K CR,oV X.K C,@ģ+j,(gu,[]),(c_,j),(ċ,@cn,aa×ai),Tok×Nat,(pu,@rW),(pv,@jo),(eT,g),j<=k,zP K m,(pN,h1),(Js,@de),(b_,H,U,F),Cu T hz,PE X b tb,(gA,H,s),(JE,tg),k'::w,mn _ w,_,mW m o,gk @B1 0 G,(JG,hl),λa=>(eE,H a),T.nodup i hi,ah H' d u,ck "undoing" @cz [],AK "list" #[] 0,(pL,(Jr,S b o hb e)),(kg,[e],@he),wu g a b,(JH,"is_row",Fn K),ah H5 @jH @auv,(an,"followed","first","second",CY),ck "told" @ab (ck "row" @m9 []),h.symm,H.nos,q.symm,x.1.up,x.1.no,h1.symm,w'.length,left.length,z.symm,g.reverse,R.length,I.nodup,I.base,items.toList,(nomatch e),s.gens,aG.toList,target,.NotIn,X.A.in1,_,j.locals,o.isSome,hit.typeIs,us.toArray,d.toList,x.word,y.toNat,R.ins,Ix.nd,IA.nd,IB.nd,c.dropLast,_,_,T.waiting,T.cards,S.words,tx.length,g'.length,IP.nd,{0,@Å},λz=>@br,(gf,x),1<=c/\@jl,(a4,es),Pv @Q,λS=>@d,by simpa using hb,λzs a b c=>?_,(jn,x),iI t p @ĉ,rV _ _,cS.of aq,.dict es ep,.type "list",(cL,aH),(gc,"dict",.dict #[]),(o.filter λy=>@at6).length,oQ r,.ref r,(gl,aR),.own x,_,i<@Ï,y.2++[j],if _ then _ else _,aD x.2,bk i,@jo=@u,i+k=n,.frz od u,(g.headD []).map λ_=>[],dU @aZ,.bl _,.dK @cl,(pj,@bq),jA.2 hc,ag hk,_,K.map @ê,λaG rv p hz=>?_,λu hu W=>?_,V.ref p,by simp[bK],fJ _ @e,(jw,@d8),(hz z m).2,(Ë,o,x),(Jh,y),λq'=>hb (by simp[q']),(ķ,a6,aR),λaG rv p' hz=>?_,λH1 s1=>@Ą,(Î,i),(Ĺ,hp),(jw,#[]),(pj,ha),(eB,i),(Ő,no,@jt),@Ü×az,n_ m p,oe m p,λx=>x.spelt.length,[x.1],.num k,(g.headD []).length,.int _,λ_ _ e=>@jq,∀b∈B,@ne,s.heap.push @m6,ns.map qU,λ_ e=>@jq,K w.params,xX xs,by with_unfolding_all rfl,n-@Q,@ó<=52,@ď="number",(Œ,hi),(ĕ,@Ú),cQ G l,S++E,-(2^62),gw _ _ hd,F++[r],(Ó,n,@Ĩ),48<=b/\b<58,λz=>?_,λg hg=>?_,λ_ _ q=>q,λh1 h2 h3=>?_,G.map @d5,λv H' y=>?_,ms.map @é,λH2 s2 h2=>?_,λys hy dQ sS=>?_,(v,x),@Ã+1,@Ţ+1,@bE%2,(X,@hf),(Á,c),c∈m,(ć,t),(ø,q),(em,i+k),(al,u),ks++[k],q _ @df,kL×@À,(pC,x),oS j r,tJ S @jw,@b3=@aY,wj l i,at_ z @ft,y xs q,b9 @rB @rB,(Ž,[],[]),(i/@ej)%@ü,hd σ H p,l.filter (jx,@a6,@dc,@rH),List G5,List @h,iF hi,[@Ý],r.map ic,some m,EF ex,λ_=>@u,ag hc,aj hc,l.map f,l.drop @Q,.sign c,(mS s).sum,eD nF,left.eraseIdx k,dE @e,(K.map @ê).Nodup,.ref I,jD @Ľ,(s.heap.push @jR).objs.size,V.int 1,λhl hb h=>?_,kvs.any @B0,hs.trans h4,LX ?_,LY ?_,ss.take @Q,λ_ _ _ h=>h,λt ht=>?_,λbf _=>?_,Bj hk,λps dG uA=>?_,λH1 p u mo mv v I J tm s1 hp ik hh=>?_,Kw @Ì,by simpa using h2,by simpa using hj,by simpa using z,by simpa using hu,by simpa using hv,n+1,at_+1,@cs+1,@fy=@u,(a2,It),@ó=n,by cases h;rfl,(Á,a),(Á,g),cf n a,(Ĥ,@K),w<=52,x∈l,(eg,a),(a5,hm),fJ _ Nat.two_pos,(jf,k),(ak,@jy),p≠D,(ĕ,@g5),(cW,q),spelt t p e,(a!,H1),(bV,@K),b∈A,(ĭ,h2),ju k l,Kp own H H',PE X o ta,PE X o to,(gu,fs),(Ś,x),.int c u,@rh+1<jl,PA X es t,(kC n @Å t).2,qo H hi,(de,@aL),oR U r,(ċ,a_,ai),S++[z],(i,@o),(pE,q),(jS,e9 x),(gR,aQ),(jX,i),(jY,w),E++@r6,_,_,_,_,(gW,@Î),_,_,@fb+2<jl,@rh+2<jl,(g3,m),uY m p 0 o,Bl D f,(pR,c),(eJ,α,OI,α),(j,u),del H g,(ko,hk),(kw,H),AQ n i,zy n i,rk r q,q p hp,(p?,k),(a+b)%2,ll H d K,(qb,tm),Sd m p o s,Cd H hf,j0 a b,(JN,a),(ã,a,@Ŀ),(ſ,@sh=n),(JO,p),PT X a tA,(JV,@Ï),(JW,t),(JY,gA),(JZ,@auD),(b,o),λx=>left.contains x.1,hd H p,(j-i).toNat,Pv 0 @at2,_M.AN l i,(rest.take @g!).map @é,Ua K @ņ=@o,(A,Op op b),@cs+1+@g!,ij t @Ú 0,ck "row" @m9 [],k="word"\/k="number",lZ H b M,(aB,@aH,(Î,(qa,l))-1),b=32\/b=10,(p_,"read_handling",IG K CR),Bb C H ps xs,ai->ai->qj ai,(ki,"can_come",4,Iq K),λk hk=>h k (by simp[hk]),(iI t p @ĉ).number,(kj,e,n,hx),(Jw,@ef,@Å,(Jn,@B7)),wb old x acc g,(spelt t p @ĉ).map @ċ,(Ù,H6,f,(œ,yf,q3)),this.2,m.want,_,outer.length,v.length,w.length,Wt.par,U.length,rest.length,fs.length,.function,X.env.scope,σ.length,s.drawn,I.cell,I.freeC,pos.line,A.depth,N.length,ws.toArray,X.A.units,I3.hok,a.symm,xs.reverse,d.symm,st.length,m.Nodup,x.2.2.length,x.2.1.length,T.size,T.refusal,T.times,R.und.1,arr.toList.length,R'.length,T.length,T.told,T.cuts,Nat->@aF,@ö+1,λdB=>?_,_,! cU p c,λx_=>x_.spelt,_,ky u F,(pn,@mZ),_,EP X @Æ σ Q,.bl sv,λi z H' Q _ _ q=>@ao,@Ĝ+1,(pk,x),λa b c=>?_,pB ns,λc=>aD @rD,iX _ q,(å,eg n c),he @Æ s σ H _ I h,_,aD (jr,0),l.map c,.int 1,(v,at_),eQ q no,(a!,H'),at_ r @cg,λq h=>?_,gb @Ý,e_ c r,i%@ı,P.map .op,i7 @fv,λz hd xs rel dd=>?_,(jl,pos),(pD,_),aj hk,(m.map @rQ).sum,.builtin id,own.map @Ĥ,λhc Q' q=>?_,λps dG _=>?_,by simpa using hw,jK p2 t c,cd q i,eQ r @aZ,(@rA-1).toNat,b::@Į,@Ř-@hh,_,(@Ĳ,x.place),λx=>@BO,some 2,some (c z),λ_=>#[v,x],rg ns,aF j.symm,_,λz hd vs rel dd=>?_,(rel.val k).isSome_eq,af.refl H2,λH1 W s1 h1=>?_,λzs X iM hz=>?_,ss.take i,@ó%2,(bQ,s'),(Ï,i),(Ų,r),y::l,(er,0,@d),@rG++W,(cW,q)%2==0,(Jy,i),λx=>[x.1,@nc],wr r p,λq' h=>?_,zx H,dk d,λo e c d=>?_,λaG r pl hz=>?_,R.same s1,λaW _=>?_,v.map @é,(v,@Ì),(o,@Q),(cK,a),@ď=";",k<=1000000000000,WF n r,(gl,bI),cK g x,p::r,(jr,x.1),_,.frz o u,(@ö-1).toNat,(pu,xs),⟨#[c]⟩,C++l,(eA,@Ý,t),(Jf,ns),(pQ,@ø),at_ h j,_,λno=>(v,@eh),(p0,e),(p6,k),(JI,1),Gz r q,(s.headD []).map λ_=>[],HT.lexLt ns ms,C6 iM j9,(Ī,@ř,@BW),λx hx=>h x (by simp[hx]),(jK,q,hn,q),uX m p i x,N @Æ s σ H _ I h,ck "refusal" @ſ (ck "several" @rK (ck "size" @aa [])),λe=>@mp,λh=>@e,λ_ h=>@di,Fa @auz,rowOf ns,eD hx,eD j9,.ref T,.own a,A0 @BR,K.lookup b,λσ' H' p'=>@auj,h1.symm.trans e,ak.of a,told @sf,nL o,λcb _=>?_,λcZ _=>?_,(v,h),(v,x.1),(Ï,@ar),cf n z,Q v H,(ì,il),(ą,h),(Ú,aw),(î,i),aY g h,(Ŀ,ze q),(bV,@Á),x≠"__name__",.seq @œ n,b∉ex,@Q*w,aL @ĩ hp,Q v H2,(c_,m),(eE,H' D),(jL,@R),_,(ĺ,b,ys),(dp,f),(eA,@Ý,c),(Jx,@b4),GP C @Ò,CI @d ?_,_,(pZ,@ũ),(JA,@bn+1),EL J hm,λQ' q=>(į,(ĵ,q)),wM ds=@o,(i+n-t)%n,(e5,c≠b),λh=>h @d,us++ds,(eI,"size","several"),(qi,bz,cd),Rd j H p own s,fZ @Û 0,T.one i hi,λi m σ H=>(JD,@fs),oS j (oS i r),j.names.lookup n==some @ť,(j!,c,c),cQ @rS (ey,@rS),vc g d k,(di,z,-z,z),G8 P h vs ds,n_ m p x,oe m p x,(I',(I7,Pv @Q @at3,Pv @Q H3)),.dN (p++[(@r7,V.ref NF)]),(qz K a).stop i H,(qz K a).go i H,hl i σ H hi p,(qz K a).yld i H x H',jc @ĳ,cF dB,.inr h,_,iN h,List β,List @Ñ,cJ @e,iF @hz,bP n,λx=>@mf,λhe=>?_,λz=>@e,HT.lev j,aD @aA,ag hd,ag z1,aj hb,bN h1,r.drop k,r.take k,b7 q',.num x.1,Option Cm,∀w∈ws,@ep,λw hw=>?_,Ps H.len,(left.filter @nK).length,(left.filter @nL).length,left.Pairwise @hp,q'.map mj,λa b _=>?_,(r.filter mj).length,.refl _,og m,eD ew,yZ hk,λx hx bH=>?_,λ_ _ l=>?_,cX @ey,ih e,.ref g,Of @auK,i7 @Ā,.int p,.tup [],λ_ _ q=>@rR,jD bK,λx c e=>?_,λm hn hl=>?_,λh' st' sb=>?_,ajo hu,b.same s,ak.of h1,t.drop p,xW t,ht.get hp,λp3 iL=>?_,Bd b1,s1.seq ip,λH1 s1 h1=>?_,λH3 s3=>@Ą,λW O=>?_,λH5 p5 s5 h5=>?_,s6.trans s7,_,b.headD 0,λH4 s4=>?_,λhe H' R' o'=>?_,nj R',Dg H6,(gC ns).length,by simp[b7,J.len],by induction b<;>decide,by simpa using h1,(v,@ó),@ú+1,@a_+1,@ft<n,aJ n r2,aJ n @as,(T,z.1),@auX-1,@bI-@ë-1,@bh=n,(o,0),(o,k),(X,h.get? d),(bP,@Cn),{_,e},Nat->Nat,(Á,q),(Á,d),(Ķ,@Ù),(Ķ,Ub),cf n b,bZ _ aR _,@aD<=bq,ws≠[],@ő<=52,(Ä,cs),b≠cl,1<=b,(ah,a),(ü,aH),au->Option tH,(ą,b),(Ú,f_),k<@au_,(ai,l),@fb<jl,(ak,@dg),(ak,@auU),(cS,p),(ß,f),(ġ,aq),@Ă<=i,l≠D,(al,@aq),(a_,@Ķ),Mv H p h,(Ŕ,@nD),(cV,@ã),jd n k,(cW,@aO),(cX,@R),(jk,V),bV P w,jK pq t c,(ù,hx),k-1-p,a::@si,(jr,i),cd r i,iE x i,b∉@d6,ju k (b::r),Kp @BL H H',h=@Õ,(ay,@Ô),(ż,jC),(pk,y),(jy,?_),(ey,G),kg n @Å,kg n sv,@ó%2=1,D q m x,(aF,c),absurd h @A,(bo,D),(jI,@Ð),P++W,qo H hk,(bz,ys),(cb,@ng),(gN,@Á),(i,@auZ),@g_=some q,{[],@en},(e2,@ç),(Jb,[]),(Je,br),@ý="blank",(j1,k),(j1,w-k),(Jf,ns.tail),(e8,hi),(g2,@r_),uY m p i o,(j0,r,(ć,?_)),_,(g?,@Cb),tw w h r,(eJ,α,Tok,α),a==b,(i+k)/n,(j+k)/n,(pT,@sl),[(@Ň,[])],ah H4 d @au1,(p!,@R),(kE,h),M @Q @e,done @jQ q,r_ @auQ c,(ņ,@K,aH),(kK,@fI),@ı*fk i,sk H b k,(qc,@hm),k b u q,jc (fc @ŝ),ED H hj,v g hg,Hn n i,Ho n S,(ql,s),l.getD i d,wrong r2 q,Oj i t,Ba @Ŕ S,(E,x,y),(ĺ,p,xs),(ý,x,hx),(dd,@ď,"number"),(qq,(gG,J)),(qt,H),(JR,@fn),sf i j a k,(qA,@ĉ),(P,c,1,@Û,0),(J1,@au!),@ĺ=@aB,¬N D,aY @hd (back y.2),H.lt _ @auS,(J4,@jC),Gp n k,(d::l).length,HG T hi,lM q @bx,(J5,x),Ml K C,a%2=b%2,0<=a/\a<=3,i0/fk i,(J!,@jE),cN N A H l xs,(kL,r,t,cs),yb C k H p x,@Ĩ<=ajN,[a,b],λi=>@ĵ !=@Ý,bj λn aW _=>?_,λ_=>([]:@hm),Fa λhn q0=>?_,Fa λJ hg=>?_,f7 @au? @auR,placeOf D k,show@jF=n from rfl,_,cy λh0 hn q0=>?_,(a::b::r).length,PH q m,ai1 x t,P_ h H,Loc @q! x,(r.take @eb).map @é,⟨c1,c2⟩,ai_ K C=@o,(C,d.n3,d.cards),if@bD then _ else[],V->@db->(jk,@db),0<=p/\p<=22,(eI,"cards","top"),PI X tg iter wi,(g1,"sums_of",LO K),cQ @r4 (ey,@r4),(pY,@CE,@CF),KN H kvs xs,(qr,@nj,?_),Fg m H q x,Bi J n @Ĩ,Ls X.N @q! bz own,(Kf,b,@ĸ),PZ n U F,Qi r ta tb,(iI t p @ĉ).spelt,(g.drop k).getD i @nh,(p,w)::@Cj,(ĩ,"kind_of","byte",LS),(c5,"self","kind","spelt"),@Cl\/X.env.scope.names.lookup x=some @fc,(P,@ý,"blank",[],[@m0]),ah H4 d (.dN [(@auL,.ref t0)]),(an,"cut","size","number",xZ eg),M b o e hx,.Compare a [op] [b] pos,hl i H hi p,((g.take k).reverse.map @ht).getD i @nh,RY r t c k,@ď="number"/\1<=@Ĩ/\@BV,(jP,x,j,st,st,st),∀x,ai8 iter @Ĉ x=pure x,λw hw=>Ie J D r fs w @sd,rC @Ğ X.w X.K a kvs,pV r n m T z.2,ub n m ns c z.2,IR λl N e _=>by subst N;subst e;show{gA,@mW},RI P w K mg aN aB,Except Nat α,RX k ns,⟨b1,b2⟩,ju k r+1,awn K C=@o,awp K C=@o,(ċ,Int,Int),(E,s.mc.want,@i3),PE X @b' tv,(a3,c z,d u),bA xN @K aH,eh @R (q0,R) @d,(û,mo,(œ,c,mv)),(Ë,xs,v),@kn+1+m,(gi,_,(ũ,dr,cC)),ah H9 d @Cs,iP n i @å p,(Ā,@s4,@Û),@mS||@ef==b,(as,@Ó,@Ó),λx=>@Œ==b,(ev,@C4,G.NOTHING_TOLD),∀k,@fU->x≠@ae,(ń,d,od),decide (x>@sS),(bc,d,h),eW H ps M,awN @r?=pure (.type "method_descriptor"),uG _ (uG _ (aaF hb e)),(eG,@Ì,8),(eG,@d9,4),(bl,F,r),(aN,@sJ,@fN),(jQ,@avS,G.NOT_COME_TO),eF y=y,(pG,"sides_of_one_order",Q9),["deck","call","numbers"],(g1,"faces_up",Q3 K),("word",.str J),vc g @e' @gW,(g',@sT,@ho),(pY,ss,W),(p',∃vs,@bQ/\@awn),gk l p r,done (axe @Ì @nU) q,xy K @ck "__setattr__"=some (Km,"object.__setattr__"),(kM,by exact@a3<_;simp),(mZ n M k,b)∈C,ir s' F a,ir s e a,mT r @fZ j,(qo,@Ì,q),cQ r (gP,s,p),cQ r (gP,@Û,0),(k_,s,λH hf x hx O st=>?_),Lj X id r,Bc H l h,by delta nL;rw[bF,bF];rfl,(P,@sz,1,@u,tN @au0 @sq),(g!,"add_move","move",RH C),rb n k cs (q2,cs) @Ĩ,IF C n sv rf,v=Wt.notW\/v=@Ņ,(Kj,@sN,@awf),E'++(gP,S,i),h2 @d _ h,ss++[(eD,@fq)],e=x\/(Ö,e,@m'),l1++[(@er,p)],(ž,H1 a,fs),(cp,@nb,(d,GB,hw)),(gY,"place_of","number",Rb C),∀j,j<i->@s'=@fx,(KG,@Ú,@avP),jQ @kj {ms,@en} l,N7 m @b5 o t l,q0 H3 p3 @fY h3,k4 b o h hb,(KU,(P,@Ĳ,@b7,[],@nX)),(KZ,axo,axp),(K2,"turn",xZ jd),(K_,z,@Ť),RR e1 I @d S _,(aF,1)->@õ,λy hy=>h y (í,hy),∃h,@ų/\@eB=y,o[@Dm]' y,I.1 x.1 x.2 hx,R.1 x.1 x.2 hx,λw hw=>h w (í,hw),hc no a b,(d::l).all Ek,∀f,mq @CV (mA f),aav hn @e @e,KeyKind @ţ w K,∀b xs,(kv,@a4,@a4),ck "moves" @avo @tm,∀vs H Q E,@CA->@bm=@b!,Ew (Qa I hg hm ?_ j),∀v v',bR (qj,@a5,@avh) vs=@aG,(s.heap.push @nF).update @Ò @Ck,((nL l).map @é).take p,((nL l).map @é).drop @ģ,C7 a b n,Ma m ns c,(_M.settle 1 ss W).2.tail,(O.wf w hw).isHand @Ē,abe l c k,@ď="number"/\@BV,sv=@o/\os=[],(M,to)::os,@Dn++[(@fR,p2)],(gj,(at_ z.2 x.1).1,(ď,@av2)),AK "list" #[vb,R] c,(x.1,x.2 !=b),(j3,(b5 q x.1+c+x.2)%2==1),(j4,a,(v,@nP),(v,@bh)),(gY,"settle","word",@awa),(V,@aA,-@ni,@ni),(V,@s1,-@auC,@auC),(pS,PE @BQ qN te),(pS,PG @BQ tg g),(pS,Lu @BQ N tt),(Jw,@a6,@dc,@rH),(Æ,ys,@aD-1,@ab),k c u hc h,(P,k,f,(k,v)::r,(k,x)::@avX),["cases","numbers","card","size"],(an,"moved","row","move",QZ K),(rd,@r!,@ń,@r!),Nat->Hp->aa->(Å,@ć,α),a=i/\k=j,C_ H d S g j,u q i b hb,(oR U z).getD i [],I.ok.cab x c MP hc,J.yld i H x H',(vg lo n).stop i H,(vg lo n).go i H,_,.Pass ⟨0,0,0,0⟩,d.steps.updO d.n2 a @nV @nR,(by cases h with|nil=>rfl|cons _ _ ih=>simp[ih]),(Ù,H3,st,(œ,ys,u)),(Ù,H9,W,(œ,y9,q9)),@ď="("/\@a2<20,Oe uK @s0=some (c,t),(Ka,@sv,g,R2.hM,(di.ofS s1 o2).upd1),_,I.base.keep b o e n hb hx,λx=>(wg n S k).map λh=>@fV,λx=>(AW n U k).map λh=>@cK,TN n F e go l,[z,TI,TO,i1,S],(xS K a n).stop i H,(xS K a n).go i H,⟨hp,g,d,tk,os⟩,(jP,"__init__",q,s,s,s),(pO,"moves",mo,"refusal",@ſ,@avb),(vg lo n).yld i H x H',x="cut"\/x="turn"\/x="deal",(dz,@jP,∀q,@Ø->@av->@C!=@o)\/∃q,@jP=some q/\@Ø/\@av/\(b!,q)/\∀q',@Cm->@Cq->(b!,q')->Vk q q',u_ a b J k y ?_ (aM h2 h3 h4),(xS K a n).yld i H x H',by first|show al @d|show ao @d,h.get? a,(ph,0),λf0 f1 f2 M j G=>?_,oo p st M X,∀H',F H'->(gr,W @Q m' H'),i<=@Ï,X.mg x,(pl,@at5),(c2,H),af H' C,jK r t c,o.any λy=>(gf,y),V.int.inj @Ī,dj p no,absurd h @ø,r.getD i [],(ŏ,a,qi),(Jc,X.env.cells),yi f ds,xY gY,vm A u,(Ő,x.1,x.2),D9 _ _,(Jm,cl,C),some u,xp @A,k.map kV,λzs hz _=>?_,@Ĩ<=n,(bP,k+i),(Ŀ,@BF),(gs,t'),(gw,o,m),(pJ,k),(Jq,i),R'++[@hi],(ec,σ',H',s'),λI H2=>bR I vs=@aG/\ni I H2 @at4,λx_=>x_.2.1,λx=>@aug,aD @Å,λx hx e=>?_,!@Œ,(cR,m),kL×Kt,(jM,@jx),(ĥ,M,os),mh n S,(Jt,b),λ(b:Nat)=>(Đ,b),gL.1 hc,Cf n,r.drop (dP p),r.take (dP p),.ref mv,O.hok.fresh @Â,P.zip vs,qk @aut,X.fn x=@o,aJ n q',(i+k)%n,(gd,0),(Ć,hs),(aj,q'),(Ū,7),(j6,@B2),(c z mz).2,ns.getD 0 0,(es,@ſ,1),(aA,H,b),k b o hc e,(@fH,b),qt @Û @r5,sp vs H Q E,λx=>kV x.1,wb old x,_,(ln n t).1.steps,(ln n t).1.wait,(gb,0<1000),(a3,x,y),(Ŵ,@aI,@d,@Ą),(po,@mV,@mV,I,H2),k=0\/k=1\/k=2,ah H2 t0 (gx,@ſ),ub n m ns c,(jt,"range",#[(eg,lo),.int hi u,.int 1 v]),List Uf,some k,λc=>[c],fk @ü,(e9 x).eraseDups,N8 _,(jG g).reverse,fs.lookup f,λb ob q=>@rR,j.kindOf y,ys.map V.str,λH2 R2 o2=>?_,λz m=>?_,λbu _=>?_,λzs a b e=>?_,(ċ,Nat,@at8),(a',@bu),(cV,x),(bU,N),(gs,G),_,b++[k],_,k'::l,nV q x,@b8++[j],.frz od @nk,h _ @fm,(gx,@rX),(v,@Ï)-1,(gG,m),(pC,z),(jT,@Ì),_,E++@auG,(e',@ŗ),(pP,m),z.1=@jG,(JL,G.1),(@cD,p)::l1,Eh n e f l,(J3,e),λb=>(⟨#[b]⟩:au),start N vs,Ii @Ŕ e,ck "row" @Î @BD,(pO,"told",J,"row",@Î,@BD),back z,λx=>@Œ,λx=>@ava,["calls"],λ_ h=>h,λh1 h2 h3 h4=>?_,λ_=>Go,λk hk e=>?_,bQ @ü,bN @C,(p.map @ê).Nodup,t.all Uy,(p.headD @Bu).2.2,rl @ë,.type T,.int (lo+i),.tup @auJ,mA @Ŗ,λz aG n r e=>?_,λ_ q=>q,xJ @bk,V.int z,V.bl @o,bz.names.lookup y.1,λoi e c dd=>?_,ak.of h,told r[i],abl λc o vs G rel dd=>?_,sF z,λH3 s3 h3=>?_,λH1 s1=>?_,λp4 c=>?_,R2.same s3,z.2.map @ê,λi z H' Q DQ hs q=>?_,_M.pA n,Mh n,λd_ D hS ha hok g=>?_,by rw[e],(Î,40),@ĺ=n,(o,1),0<@Ï,@Ï<=bq,(ĸ,"move"),Nat×je,(Ĺ,@bq),(ed,@À),(ah,b),(Ŧ,z),x::@sD,j%2==0,(Ġ,z),gm S j,gm S @Q,(í,h1),(í,hb),(cR,0),e_ @jV r,(Ū,1),aa×oY,(ø,F),(ê,i),@Ï<=i,lR q' m,(az,@Ā),h k @A,(ŋ,B8),(Ŝ,@Å),(hz z mz).2,α×Nat,(eN,t3),old++l,(dl,@ë),(jY,w'),(j8,g),(es,@rX,1),Bl u f,(Ö,c,o),xs++zs,pP y x,⟨h1,h2⟩,{@jA,aq},(Ó,@Ĩ,1),(ky,@so),aL @ŗ hD,_,p::@Cg,λz=>(ŭ,z),aQ (Ņ,hp),(S+i)%n,(ý,c,hc),ab x hx e,λy=>(Ó,y,@nH),dx≠x,(o,@d_)-1,(J_,cA x),jK r mo c,ms[i]'@e,I.cell x c e,(qz,p.1≠b),(Kc,@ck::us),(Ki,i),min 1 @į,Fa λsK N=>?_,λm l=>m*@Ã,AN l i,key i hi,TQ n t,TX n t,HE (J9,B (aiS.1 z)),λM k=>aY M (iU n k),σ.set i @a5,(hi-lo).toNat,lexLt ns ms,bs.getD i @Å,h.Ns ke mg,_,jf r q,(Ó,1,@ó),(ũ,cC,bI),(ũ,il,fj),(er,1,@d),(bY,@e,@e),@ö/2-@ú/2,((az,@Ā),@br),(kt,"numbers","side"),HT.pK @Ï 0 lo,(c,ue,uu),u σ H Q',ns.all λz=>decide (0<=z/\z<@auk),1<=x/\x<=n,b∈X.ex\/(hg,b),HP n x.1 x.2,ab xs q @Â,λz=>f z.1 z.2,ph @Ca 0 @cy,.Tuple FV kk Ae,(c5,"cards","case","size"),c=p\/c=mo\/c=v,fM xs (xs[i]) q @nt,KA v hi H hf ex,.Call (.Name "reversed" p2) [e] [] q2,(tU K a b).stop i H,(tU K a b).go i H,(tU K a b).yld i H x H',jc h,.inr x,λx=>?_,λz=>@bt,λz=>z==1,dt.1 h,r.map @fi,λk hk=>?_,some x,some 1,some st,gL.1 hx,g z.2,g xs,(l.map g).sum,(l.map f).sum,aj @C,cV @mY,cV @C2,cg @bx,gC l,kN.1 db,λno=>@nI,bN h.1,Ay @cL,fk @Ã,λbK=>?_,λq=>?_,r.take @eb,l.getLastD t0,λno h1 h2=>?_,∀k∈l,k<n,h2 @A,.num @Ĩ,Option Mc,Option HO,Option cq,.inl @ö,.inl @Ű,λ_ z=>@bt,λi hi h=>?_,cR n,λj hj=>?_,ins x,(left.filter λx=>@mS).length,iW.2 hm,S @du,S @ki,m.map h,AD (m.map g),q.map mj,λno db=>?_,λo1 o2 M o4=>?_,(p.filter @avg).length,(gL.1 hx).1,ig @sy,λy l2 z=>?_,og @fS,∀z∈s,z<2,gy.1 e,λq f kY g v=>?_,(jk.1 hx).1,R.head U,yZ @e,iZ (d:=[]),l.flatten.map ic,PX w,ws.map (du n),λno a b=>?_,f.ok.snoc o2,aaw hn,.ref It,.ref @bn,bg fin,.bool b,Er ?_,Array UInt8,.str @s6,.tup @Ķ,.own p,fL hm,λb u e=>?_,A0 (H x),K.In @ĝ,j.names.lookup y.1,env.kindOf x,X.env.kindOf x,Kf s'.gens,λhb=>?_,I.ok.funs.mem hb,λ_ o N _=>?_,I.hok.fresh (J_ _),λy c e=>?_,.lst xs,.byt b,r.inj r',mw i,(s.heap.push @CN).objs.size,V.int @ar,gy.mpr h,uH.mpr h,r.append r2,ns.map ajx,λ_ e=>@mp,λu j W=>?_,gX λM G hz q=>?_,.list ds,.tuple ds,ajl h2,λH' p'=>@auj,kvs.map @CB,λb q=>?_,AJ "__len__",λj SE p2 _=>?_,∀d∈ds,@avY,j.heap.get? b,ak.of h3,ak.of X,hs.trans h3,hs.trans gd,hs.seq B,s2.trans s4,t.map @ċ,t.map @Dq,λh' tk d c' hk hD g=>?_,nL a,nL b,gn @Ð,sF @ũ,λi z H' Q _ _ q=>@avH,fg G.FIRST_DIGIT,(cg q).length,s1.seq pY,Iu hb,r.dropLast.map @aJ,λzs h aW hz=>?_,λzs h _=>?_,λH4 p h4 np ap=>?_,λj z H' Q hz hs aQ q=>?_,λH4 s4 h4=>?_,λzs X _=>?_,Bf z.2,ss.drop @Q,m.Pairwise @hp,_,λzs a b hz=>?_,(zs.map @B5).Nodup,∀p∈cs,@af=m,λz3 h3 _=>?_,λzs z1 z2 _=>?_,gb @Ā,c.same s,λps a c=>?_,s8.trans s9,S_.map @d5,λkvs k1 k2 k3=>?_,λW hW=>?_,T.map @d5,_M.EW e,_M.EX e,yc to,V.ref.inj (cM e0),λhk=>?_,W.reverse.map @B6,(ai2 q).symm,λpp vM wZ=>?_,λzs a _=>?_,λzs za zb zc=>?_,w8.same s9,Bm zs,Bm @awr,λys hy _=>?_,Mq @g_,λr t R O=>?_,.walk ns,UB k,Kv r,λbu D hS ha hok g=>?_,λb o h _=>h,.member ns,.orbit x,.least ns,_,D.F.binds hb,by simp[h],by simp[iq],by simpa using hs,by simp[hx],by simp[hb],by simpa using e,by simp[Ur],(v,p),(v,@å),l.isEmpty=@o,_,xs.all wH=@o,axs (tE c)=@o,(Î,1),@Bz=@u,aJ n G,aJ n s,aJ n D,(a2,V),(a2,@P),@q6-1,(ĵ,@Ŵ),@aY=n,@aB=n,(o,k.1),(o,@ĸ),(o,@avJ),by cases(h);rfl,(bQ,@BY),(Ì,he),Q v H',Nat->aa,Nat->@aN,Nat->@C3,by simp at hl;omega,(Á,mo),(R,q0),(Ï,x),(Ï,y),(Ï,k),(Ï,@ho),i<x.length,i<@q8,cf n c,cf n M,(Ĥ,@Ł),@į<=bq,@bo≠[],@ek≠[],@į/2,(Ä,ks),(Q,xU),1<=@ó,b9 @fh @bw,(å,@Ů),(ü,@R),x∈R,x∈@å,(Ò,i<n),(ñ,@aA),@Ă<bq,(ą,d),(ą,h1),(Í,cP),(Ć,s2),(Ć,s3),(Ú,jC),k<@mi,(Ĕ,e),(Ĕ,@d),(Ġ,x.2),(í,m),gM n @C?,(cP,@Ŀ),cQ r l,(cS,x),(ß,"word"),(ß,"size"),(Ū,9),(ø,pj),eQ @as no,(jj,x),(al,@jy),jq n S (oR U z),(bT,x),(bT,dx),(a',@Á),α->@B',(Ų,c),(a!,H2),c::r,(ā,u),(Ė,ht),(Ė,kK),(bW,t),(ŏ,x,("__classdict__":au)),(c1,@avx),e-p,.seq aG n,gW k OG,⟨ms,m'⟩,(į,@avI),done++[k],(ė,@sQ),(ė,@C1),(Ę,@avC),(Ę,λbH D hS ha hok g=>?_),n<=@ń,z::l,(ż,aw),(Ņ,ha),(Ê,aq,bF),i%@CR,h x @A,(be,@g8),(aD,a),(eB,c),(eB,p),(ś,c),D q m r,eQ r x,(bj,W),(bj,xs),v::vs,(bn,@nv),(bo,p),(eH,@Ù),mZ n M k,(br,c),(br,l),(gB,@hA),b::s',(gC,")"),(gC,"word"),(gC,"number"),r.getD i @mQ,(pt,i),(jL,@Á),(eN,m),aD (!@av3),10^@Ã,(I?,@Ö),(cc,y),(cc,m),(gN,@Ô),(dj,@b!),(eS,s.mc.outer.length),(eS,@ó),d≠48,(pE,y),(pE,r2),(jS,@ek),gW @û A,(jT,@avB),F++[@cr],(ĺ,l,ys),(dn,@er),(dn,@hu),(jX,1),yR n f S,@Ã<f,zP K C,l++[i],(j8,h),(g0,@ĵ),(aA,H',b),oX K @d! A,[e,e2],(dA,@hD),uN @mo ns,@td=some w,S-1-k,q-1-k,Rd H a @aq,k b o (dr,by simp[z]) e,(hf,x),dk @ň::us,(Jx,@B9),mX k s,mX k @cF,GP C dx,(fg,e),(fh,hx),CF CH aH,(fj,mz),{@jA,@jJ},(Ó,x,1),(hm,@Dt),(ku,nF),.dT [(@r3,@c')],_,(JA,@ň),(p!,@ç),k+p,(kD,@eb),@ke∈@np,@Ĳ≠@b7,@cE≠OR,c z m,wH x=@o,wH y=@o,(Å,Nat,cH),ah H T @CH,(kG,@BT),(hu,H1),k b ob q,(kO,h),@sZ∈R,@Ņ::W,eQ q x,iE r k,e z m,e z mz,ms++[M],ms++[@fk],ps++[p],(c+j)%2,i+@mi=n,_,(kW,J),(u,Pj,h),jU kvs k y,(eG,@mO,1),(eG,@avD,1),i0/2^i,(dt,@a9,dY),(dx,P,W),(JQ,@avd),(JQ,@aws),xq n e f d l,xq n e @bJ d l,(qu,r),(JS,@ae),(JS,@et),(qg,_,I),(qg,Q,I),(qB,V),(lb,j),(lc,"__init__"),(ld,k),cN N kR H l xs,cN N (bm,N) H l xs,(jP,x,x,s,s,s),(jP,x,q,s,s,s),(qF,4),@c2<=a,(qK,hx),hx c hc,.card 2 [],both r @n8,bg (eU,cO h),CT c a.1,_,rW (t.take i),(qR,hb),OQ w r,Dh H c,(H,ps,p),(ã,b,zs),(ã,v,ys),(gi,@ew,(ì,dr)),(Ž,S,@sF),(eA,x,t),(Ď,aH,(ay,@Ð)),_,(J',o8.line),S++[.op v],(q4,@fI),(fc,@ä,ks),r x y H Q,λx=>@cv&&(@a6==b),tL H J @Ä,(kr,@Ch,to),wK H a y o,(q8,@rk),(q9,x.1),(Kb,@CQ),tb σ H1 Q,(q_,@ŉ),Mk X.K C f,(q',@Ï),(Ke,@Å),up _ _ q,gE P w H h a o,(ri,@Ŗ),qi<@c2,dw g e,aY o z,rZ @jC n,@d_*@bj,O3 n S,aiy h m,(Kn,i),O8 H hj,uT @C @C,oF d r,zn J W,a&&b,a||b,(g p).1 hp,(Kr,@CU),K6 H j,La n K,h.Ns1 dx mA,uN items2.toList ms,(Kv,@œ),af H3 H4,tW (c.enc a.1),_M.tK f hz,_M.wj l i,@Cz++[0],(H,σ,@a5),(ķ,dr,cC),(û,W,@s9),(Ky,i),(em,m+k),⟨[@ē,@î],[]⟩,PS X st t,(KA,9),(KD,f),vp H p g,(KH,h'),λj=>(i/2^j)%2,fQ w h s,∀xs,@ŉ->@au,nh cells @i! acc,(KI,@cH),P++@Ņ::W,(k1,l,cP,9),E7 @ä x dx C mA,(KL,@Cp),(KO,1),h3 _ _ hm,(KR,(g7,d)),_M.Hs n r @av5,del H g b,(KW,@Du),e++oF @avy @fQ,(K4,H' c),Mj K C n rf,x<1\/@auk<x,(Lc,H' c),(Lg,A),eG->@B',@ĉ=@ģ,@a2<OR,decide (0<@a2),decide (@ë≠0),λh=>h.2 @d,absurd t @avE,("size",@aa),aY z o,@aA !=@sg,d::ds,xs.size==ys.size,λz=>hb (by simp[z]),e++g,@av0++@th,S.foldl @CC acc,(O.good x hx).1,λl m=>@Ã*m,k/10,(cd @eA j).no,g a b,(o2 p).1 hp,∀s,step s @b7=@u,KZ H hn,f @kc (.int j u),oQ r x,(mW m o).getLast?,(l_ c).2 hc,(I.wh w c).1,wv n R,λa b J k y h1=>cy λh2 h3 h4=>?_,bG xs @mr,∃u,(ū,h'.get? e),{cls:=@Ť,data:=.fields ps},.Name y py,J.go i H,J.stop i H,O.fpOk @Â @Ci,gX λaW hi hs hm=>?_,(cells.lookup n).getD 0,λi m H=>(JD,@dj),kvs.map (rj,y),QO c q,A5 @d! H,r.ret.enc (Uq @ja r.f a),.rng i j,((t.drop p).takeWhile q).length,LI @Ŕ S,abp (X:=X) hu,Uu aw4 ?_,DF n @e,b9 @s_ @bw,uP q @bx,LP K C,(r.take 1).map @aJ,(s2.trans s3).trans s4,ajQ @Ì @mM,Dn (rb,hg),(y.2.reverse.map @B6)++[V.str @et],[(AJ "key",@ņ)],(œ,y9,q9),(ó,z.1,z.2),b∈([]:@Ë),by rw[gB,gB];simp_all,.dT [(ks,z)],lZ H p x.1,(by rw[bB]at hj;cases e:ps[j]? with|none=>rw[ba]|some c=>rw[pP]),.Attribute e f pos,g x σ H λI H2=>@CJ,k2 _ _ n W,ab ep @dv c,s b u e,vv H' F l,(V,F,a::st,st),h w' _ @fm D,.inl (ab _ aq @Ę),ah @CL t1 @Cv,(jU kvs k v).length,I2.kIn a o G,(kS,jd r.length 2,@au5),hm b _ q λz=>z,lc n m n 0 @ô l,(λy:sH=>y.1==x)∘λz=>z.2,λb o hb e=>(s1.2 b hb).trans e,λv H2=>v=@ŕ/\Q @dk H2,jw b o @mX e,@jI=some @fc\/@jI=some @ť,[.ref t0,.ref t1,.ref J,.ref t3],(aD (eQ r no)+@Ŭ/w+@Ŭ%w)%2==@rV,yh n rf st I @ae M X,JW.2 h,cF F,λe=>@ES,Nat.add_lt_of_lt_sub h,.inr N,.inr @eI,List aZy,bP @ħ,λx_=>x_.2.2,λy hy bf=>?_,(back h).length,back a,λx=>@sl,λx=>@EZ,λx=>@awB,λx=>@aym,eq_of_beq he,∀g∈S,@EE,[@Ò],λy=>?_,λi=>@kC,λi=>@Fe,hg.isHand @aM,∀z∈r,@Df,dt.1 q,gy.2 e,∀x∈r,@ou,(r.map @ê).Nodup,r.map f,r.map @ê,BY.2 hw.1,λx hx bu=>?_,λg hg=>@awy,v.lev j,v.lev k,some g,some e,some F,some q,some i,some x.2,some @ë,some @r?,BZ h,qY X,bM @Ò,λs1 s2 s3 s4=>?_,(OX ex).1,λ_=>#[],λhg=>?_,λx hx hm=>?_,Ef.1 hr,Ee h,aD @DH,∃c,@ny,λc h1 h2 h3=>?_,λt=>@s8,dU @j!,dU (c.turned b).no,DecidableEq K,DecidableEq κ,iW.1 hx,iW.1 hc,kN.2 @EK,l.map @ċ,λno=>@awC,λno=>@O4,h1.trans ?_,(q.map @axE).sum,∃m,(Ś,r),λx hx aW=>?_,l.drop i,l.drop @ģ,l.drop @cs,λa b aW=>?_,J5 hm,∀x∈b,@ax!,λi j hi hj e=>?_,∀x∈h,@hH,yY @a8,Pl n,.num y.1,l1.map @av9,.word @bo,fu "not",fu "and",λ_ _=>gA,.times m,Option eG,.bracket @u,.inl d,_,_,.inl i,.inl h2,.inl hb,.inl hk,.inl N,.inl yu,.inl ahu,.inl @e,.inl @ë,.inl @di,X.isHand hn,(tM hn).len,zw K,λm' hm z=>?_,zx f,U9 hd,∃o,@jU,λj hj=>@ax4,y.map mj,y.map @ê,o.zipIdx.map @sm,λw' hw hl=>?_,λm' _ hd=>?_,λj=>@awk,range_drop h,p.map @m8,left.contains c,hl.sublist AB,iW.2 k,∃x∈left,@ayx,o.Perm @axD,hs.sublist AB,akM hc,cM this,q.map @aJ,λu hu bu=>?_,λb=>[b],λa _ c=>?_,y.1.headD 0,λq' J h hh=>?_,λi hi eq=>?_,l.eraseIdx k,(gL.1 ew).1,t.all Ek,this n,kP @c0,∀w∈P,b<=gD w,λc' r' z=>@bt,λy r2 hy=>?_,o.map @ċ,VC.2 @EV,p.headD @Bu,gy.1 q,(cM q).symm,_,(cM hv).symm,λc _ bu=>?_,(m.filter g).length,g.map @d5,R.row hi,λi j hi hj=>?_,GI k,aiQ z,s.drop k,aiR k,aah k,alv k,λa ha bu=>?_,e.trans z,start n,λx hx cb=>?_,∀x∈R,@hH,S.map back,l.contains x,λi _=>n<=i,∀x∈K,@Fw,u.Pairwise P5,λa k z hp hk hz=>?_,λa ha b hb e=>?_,_,rest.take @g!,λhn=>?_,.ref p2,λo items n N _ hd hi=>?_,bg ?_,bg (OJ ?_),cO (.inr @ľ),_,hx.inj hy,ze (cF e),Array GenState,Paired.length r,Paired.length D,xs.take k,xs.drop k,.int z,.int m,.int @Ă,.int @ë,.str z,.str i,.str "handling",.tup @eK,.tup @avv,.tup @O3,nestKind @dd,.own @ň,EZ λ_ _ _ _ e=>?_,pH λo _ _ _ e _=>?_,λ_ _ _ e=>e,_,h'.get? @Ò,λb u _ q=>q,aF aQ.symm,λc v _ q=>q,λc q=>@tj,λc q=>@av6,λc xs q=>@tj,λc xs q=>@av6,λb u q=>@rR,jD @kq,xJ @đ,Kf @mq,s.heap.get? q,λb o e=>?_,λm hn _=>?_,∀b∈ch,@Cw,λb o e n hx=>?_,λb xs e=>?_,λb ps e=>?_,λu r l=>?_,id U,id D,λb o _ _ hc e _=>@Cx,λ_ _ _ _ n=>n,λ_ _ e=>e,λj y v' e1 e2 e3=>?_,λF r' q=>?_,{s with heap:=@ayb},.bl @Å,tB t,.lst [],.lst @mH,.lst @j4,.lst @avv,.lst @OC,h.ok @Ŕ,λaG r B _=>?_,λits' r' j _=>?_,(X.wish E).Ok,s.heap.push Eu,(s.heap.push @m6).objs.size,λitv s2 h2=>?_,FR M,V.int a,V.int b,V.int @ö,V.str x,es.toList.any (λx_=>x_.refKey),(awm hg).1,A.under @E4,λmA O r _ _ _=>?_,Ou hD,A.deeper @ue,r.append hd,V.ref @ň,N.take P.length,∀x∈P,@O2,(pd.mp nd).2,show@OE from z,λz N hc n hd=>?_,ns.map aYS,q1 @d,qk f,λaG r ht hz=>?_,xs.any λy=>@EJ,λo N hc n hd=>?_,.dK (wP ks),λz2 j n2 r2 nu e2=>?_,bs.map V.bl,bs.map GO,λh' tk t' hk=>?_,G.map qU,λu2 ny U=>?_,bs.all id,λiB=>?_,λn k c=>@d,λb o e hb=>?_,z.keeps kp,λo e _=>?_,hk h,vs.any @B0,xQ h.1,λq es ep U h2 h3=>@av',λc ys ec=>?_,λ_ _ xs _ dd=>?_,λb v _ q=>q,λd u hd j hw=>?_,LB x,AJ (toString @ë),aYJ (·.setIfInBounds 1 (GR ((i:Int)+1))),{s1 with heap:=h'},λc DE=>?_,bt st,aju @ja,∀a∈A,a∈B,vs.toList.map qB,(QP q).2.symm,sp @nW,gu @hi,λx _ e=>?_,af.refl H1,ak.of hm,ak.of dG,ak.of hzU,ak.of hzL,cS.of U,cS.of @axC,λaW hi p=>?_,ms.map kc,s3.trans h4,s3.trans @hU,s2.trans h4,λ(x:Nat)=>@og,l.take p,λf hd xs rel dd=>?_,λo' es ep U h2 h3=>@av',λa kvs aW ha q=>?_,OJ @aK,hX ns.tail,(hX ns).length,let⟨_,e,_⟩:=p'.isList;@Ľ,λn g=>?_,λv2 H2 FW r2 gw k2=>?_,λe he B=>?_,B.mp @d,λ(k:a_)=>match k with|.inl i=>i|.inr _=>0,fs k,xY Ax,lh ae,xZ Gp,λn k bu _=>?_,gn @K,tX wZ,tX Ss,λQ' q=>@a',ml.2 @Fm,λxs hx qa=>?_,λH1 D s1 hD r=>?_,match σ with|[_,_,_,_,some (.int y)]=>y.toNat|_=>0,shaped_ints _,anQ K,fg G.FIRST_LETTER,(_M.kN.1 (H.nos.mem_iff.1 @EU)).1,(cg v).length,s1.seq h,s2.seq ha,λH2 s2=>?_,s1.trans hs,λi z H' Q _ _ k=>@eC,λi z H' Q _ hs k=>?_,anS K,anT K,anU K,_M.akc hn,cs.map @ċ,o'.trans o4,ua.push R4,anY C,R.same s',R.same hs,an0 K,W.map @ċ,an1 K,(ns.map @é).length,an2 K,λH1 W s1 m1=>?_,λH6 U s6 m6=>?_,λH7 p7 s7 m7=>?_,λH8 p8 s8 m8=>?_,an3 K,_M.AU t,an4 K,an7 K,an8 C,∀x∈o,@Fu,λi z H' Q hz hs q=>?_,aoc K,λT hT=>?_,λN S=>?_,aod K,aoe K,λH6 U s6 h6=>?_,zs.map @B5,∀z∈zs,@OD,aof hl,λzs h bu hz=>?_,_,l2.map d,zs.take k,λzs e _=>?_,aoi K,aoj K,hs.free hp,aok K,aol K,aoo K,g.headD [],ysg.drop k,_M.xH R,aor K,aos K,aom xj,aot K,aov K,λM hM=>?_,λb o h=>?_,C8 K,aoy K,aoz K,λH H' p x k _ h=>h.same (ac9 k),adm K,aoE K,m.take @Q,aoH K,λt0 FH=>?_,r2.trans @axe,ez.map @B5,aoI K,vC.trans s4,λH5 s5=>?_,aoJ K,λkvs t g1 g2 g3=>?_,λi z H' Q _ hs q=>?_,aoK K,aoL K,λhc7=>?_,(agI c).len,λi v H7 hv wX s7=>?_,λz mz e=>?_,gb @hi,Mb zs,λH p(x:az×List Nat)=>@OH,ss.map @mR,λdM=>?_,(C.map @ê).Nodup,(rX @j1).length,(xs.map @nM).sum,(gL.1 hx).2,λws X _ d=>?_,ao2 C,(di.refl H).upd1,ao3 C,ik.same s1,λhw=>?_,λo0=>?_,ao6 C,λH3 j s3 m3=>?_,ao7 C,λb sq g B SO=>?_,λhk H' R' o'=>?_,AL hl,G.word hk,Kp.refl H4,k1.upd @axu,W.contains @Ņ,λhd=>?_,λH1 d k1=>?_,λhk hn H' R' o'=>?_,Bk zs,(Bk zs).length,g.Perm G,(arr.map @Ĥ).toList,arr.toList.map @Ĥ,apF C,m3.same s4,R4.same s5,m4.same s5,λyw Ge _=>?_,nj R,aHR λs1 ds e1 e2 e3 e4 e5=>?_,_M.start n,S.take i,f.same s,_M.aj9 ns,Hf k,λcB _=>?_,.can ns,.way ns,.rank ns,aeS C,{S with words:=ws},λp j m rL aQ=>?_,.orbit @Cu,λD' xf=>?_,λp9 NR=>?_,ap7 C,λQ' kk=>?_,tE cc,IR λl N e J=>?_,ae3 K,cs'.map tE,Tb DV,Q.at D.a,by simp[H.len],by simpa using hm,by split<;>omega,by induction a<;>induction b<;>rfl,by simp[b7],by simp[ins],by simp[qt],by simp at hw,by simp[AS],by induction b<;>simp[vW],by simp[vW],by simp[e,qf],by simp only[gB]<;>omega,by simp[dv,rT,e],by simp[hd],(by cases(h)),by simp[hX],by simpa using r,by simp[gu,aD],(by cases h.2.1),(v,@aY),(v,@d_),(v,(f q).1),r.length+1,m'+1,@Ú+1,f2+1,k.length+1,@ó+1,@kh+1,@awL+1,nestDraws ks+1,r.wellSaid=@o,@cv=@o,@j'=@o,@kV=@o,@DG=@o,tW d=@o,ys.all wH=@o,@a0<n,(Î,@ı),(Î,@ba),@tx=@u,@awA=@u,aJ n @a?,aJ n @gf,(T,f),(a2,@db),@mh-1,(A,@DI),(A,@avT),(ú,Nat),(ĵ,k),(ĵ,@í),(ĵ,@hT),(ĵ,@oB),@a0<=n,@ħ=n,@d'=n,(o,z.1),(o,w-k),(o,@E6),(X,@jo),(X,@awX),(X,(r9,h)),(X,s'.heap.get? b),(X,H3 b),(bP,@dq),by rw[ŧ];rfl,(Ì,fin),(Ð,@Cb),Nat->@È,Nat->@Ü,by simp at hf⊢;omega,by delta sf at h;omega,by let:=r.dp;omega,by let:=r.un;omega,(R,r),i<@Ã,i<@Ă,(ţ,@eO),(ţ,@Ea),(Ķ,@ea),(Ĥ,@Á),(Ĥ,@Ć),(Ĥ,@kQ),bZ _ bI _,aG.size<=bq,@ń<=52,(Ä,ns),(Ä,@å),(Đ,y),(À,I2.kIn),(Q,hs),(Q,e1),(Ĺ,X),j<@ħ,(gd,p+j),(å,@axO),(å,@ayM),(ah,iter),(ah,@FF),(Ŧ,b),(Ŧ,@dn),af H1 H4,(a4,[e,f]),(a4,[e2]),(Ħ,b),(Ħ,@cK),(cL,@K),(Ò,j<n),(Ò,@f?),x::o,(Ý,dG),(Ý,@bq),dj p @de,(ñ,(f q).2),@Ï<bq,eg n u,eg n i,(a5,yG),(ą,z),d.params.defaults=[],(Í,ex),(Í,B),(Í,@axS),RelV @cG u,(Ć,s5),(Ú,lK),(Ú,lX),(kc a:a_),(xx a:a_),(cM,(ke,n)),k<@Ã,k<m'.outer.length,(Ĕ,@ì),p∈AD (m.map gO),@ë+@ú,(@œ)[i],(@d7)[i],@eh%2==0,k<=@Ã,i<=@Ă,gm S @a_,(í,h),gM n @eL,("wrong":au),(cP,@j4),iX _ @cu,(î,k),(î,@û),aY @Õ h,i/aZC r.length,cQ r @kS,cQ r @axH,(cS,v),(cS,mo),(ß,"cards"),(ß,"refusal"),(ß,"wanted"),(ū,@Bz),(ū,@ayl),(ê,@ĉ),(em,@gd),(em,@op+1),(ő,@a?),iU n j,(Œ,W),(Œ,@Â),(ġ,u),(ġ,hd),(ġ,z1),(al,@dg),(al,(Ð,@BD)),Mv H D h,(eo,nL m),(ĕ,@q_),(ĕ,@sH),(ĕ,@ayH),cK a x,cK h x,(cU,@K),(cV,@Ş),(cV,c @eM),(cW,@as),(cW,@n4),(ĥ,@Ň,[]),Gl X "range",Gl X "reversed",(Ų,q),(bU,@ad),z::r,l::r,(jl,vD),by simp at hf;simp[*],by simp at hl⊢;simp[*],(ŕ,m<=TM),(bV,@Ô),(bV,@Ł),(bV,@tZ),(bV,@avO),b∈@d6,x≠"every",x≠"back",x≠"not",(ā,a1),(ā,d4),(ā,agN),xs++[y],(Ė,q),(Ė,e1),(bX,@R),(bX,@ç),(ĭ,hl),(ĭ,h1),@jZ-p,(Į,oP),(Į,R.len),cs++[c],cs++[@t?],(į,?_),(jq,@hA),aY a c,iE y i,b∉X.ex,(ė,@tD),(ė,@tE),(Ę,@D6),(Ę,@axf),l1++l,Q @o s,(Ă,B5 @cI),@Ļ+2,@j!::l,(ay,@K),(ay,@R),(ay,@Á),(Ź,@aE),arr.toList[k],fZ q p,fZ @Ŭ p,(bb,q),(ż,H.len),(ż,hS),(ż,hsz),a<@c2,a<@Ļ,h i @A,Q @ĥ H2,(ķ,a6,aP),(be,ys),(ē,r,(Ý,@Eb)),(Ě,h3),(Ě,t3),lz hk hn,max k (h-k),(eD,@nN),oh n @or,(Ű,p,xs),(Ÿ,H d),(jB,@ay),a++x::b,uG _ pw,(jD,"abcdefghijklmnopqrstuvwxyz"),(hz z @tt).2,(bj,h),(c?,aj fV),(gx,@awS),(eF,@dr),(db,@tO),aY mv @kU,S++@r6,Q @ĥ H1,Q (! c) H1,(dc,@rD),(bn,@j0),(b9,@K),(b9,@R),(b9,@Á),(jJ,@K),(b',x.1),λx=>!@Œ,_,(gC,"("),(gC,";"),bG ys aG,_,(aJ,λH1 p u st M X I J s1 hp fB hos gc=>?_),(aK,@C),(v,@Ã)-1,(de,@Ej),(jM,@tC),{ss,@b5,W},_,(gG,k),az×@c9,aD (!@Œ),oR U @cr,(cb,.dT a),(aP,W),(ŏ,d,qi),(gL,@bu),uV n k' r,p<=@Ú,Au _ m,(jS,@af),(dk,@bu),@tr=some q,{[],@fP},ab o e ex,ab o e ex.2.1,(pI,@ck),(jX,0),j6->@Ù,@Ez->@Ù,(gW,@ck),by rw[ù,<-pE],(e8,hj),(j8,@aw),(dv,@km),_,(j9,@aya),(g2,@rT),(g3,i),(dw,h2),(dw,t5),(g7,aYW (QP q).1),cd @dt m,uN aG ns,(pN,@bq),W.getLast?=some w,(ct,j.len),(dB,@bH),(dB,@kr),.ins C l @avd,(kh,ahy),rF C H' d c S,Rd H a u,Rd H a @dg,(dL,c),(b_,H',U,F),(Jt,mv),at_ h @dq,dU (gO,i),λno=>(v,@jt),mX k g,Cu @i5 hz,(pT,@Œ),(pT,dk @Œ),tJ S @axh,del H' g,{@C,@fL},{@C,@DZ},(fl,"range"),(fl,"reversed"),ah H a ob,ah H a (.dK @ax'),[(@Õ,[])],(fm,ns.sum),(fn,@K),(pZ,@DV),(hm,@E0),(hp,w_not),(JE,@ms),ai->qj ai,m<=1000000000000,(kD,dP p),@d9<=4,(fp,@aww),z∈@å,M∈@np,@axL∈@np,@ŉ/\@au,@ŉ/\@t1,@ŉ/\@Es,@cE≠tu,@cE≠20,(fq,E @md),xG J h0,AQ n @Q,zy n @Q,EL h hm,rk @uj q,q p e2,.dK (fN es),(fs,Ik h2),NW n S=some z,(hs,eM),(hs,D.len),(Å,dc,cH),(Å,@ñ,cH),(C,@OW,q),ah H T ob,ah H T @C5,(z+n-t)%n,(fx,@aq),(fz,b),(ap,p,@hS),(hv,@tf),(hv,@Fd),(fD,@Ý),(ņ,@Á,aH),(ab,q,@od),@ı*fk @Q,(qc,@ű),(hB,(ah,@r9)),p<@ĺ,@ml<=2*n,jc (fc b_),p::ps,@d2::W,l≠@Ò,Hn n n,M _ h2,(hG,@awx),(kQ,@uo),wrong @fQ q,N1 e l,step s x.1,(hK,c),G7 (q::G) k,{u,@ayw},(hO,B.len),(hP,e1),l++[z],ps++[q],(u,jQ,h),(@į+1)/2,(ń,l,@fO),(dd,@ď,"("),(k4,@Ū),(h0,@tq),(dt,@K,dY),(dx,P,[]),(qu,@eP),(h4,hf),(JR,@jm),sf i @Ö a k,ht _ _ u,ht _ _ @Ā,(qB,Int),(P,@eD,1,@Û,0),(J1,@avT),@ö-@ar,@Ò<=a,(qG,@i8),(qG,I.sz),_,cK @cy @Ý,ql (by simpa[hb.len]using hi),(qH,D1),(qH,D3),l++l2,(li,@s?),(qM,@aR),AO tm @axv,wm @e hi,(qO,@ô),GD _ @C,.card 2 @nN,ky 2 @Å,ky 0 @Å,tN g @sq,both r (r?,j),_,(lk,x.2),rW (t.take @Q),q0 H' hs,(lq,@Fo),OQ w q,(ls,@awY),by simp;simp+arith[*],hs++[h],(u,hp.length_eq,iR),(qV,@CH),(qV,@C5),(ð,vJ,@č),(lB,@R),(lC,@Ŝ),(ľ,.tup @Ŀ),(gi,@kW,(ì,dr)),(cZ,(À,@aI)),(lG,[e]),(J',@rd),(o,@Fc)-(o,0),(x,c)∈acc,(lL,t0),(fc,@ä,x),(fo,R,[]),(fo,R,W),(lS,@nj),g _ _ X,(l0,0),(Kb,@aJ),j b o e,_,Mk K C f,(ra,@Ŗ),(ra,aXL),gE P w H h a u,oX K @d! A b,Int->Int,(rl,@aD),(rm,r.args.length),(s,@u),@Ā !=c,(rp,hw),aiv ?_ e,aiv ?_ hn,(Kp,@dt),oG @n4 no,l i g,e_ k x,wm @h3 @n2,zw (k:=k) H,@q7∉W,(Ct T).1 s,.str x t,RelV v r,(Kt,@ayR),Qm @d @axl,OP r i,(Kw,j),(Kw,@Ö),some a=some b,(v,x.2)+1,(d,hc,hd),(d,hc,hs),(o,@bE)%2,d++[no],H' p=@u,(Ö,t,@c_),(rE,@a_<n),(H,x.cps.toList,c),(K,l,@avu),(rH,hi),(Ê,u,b6),(ð,J,@avO),(û,v,@mH),V->V->@Ù,eX H l S,(bk,p,@K),(rN,HT.len),by delta lM;rw[aw,J.len],(cq,n,h),_,(cq,ha,h),(dH,ig @tc),(rR,@dB),(KE,@OY),(rT,hm),(rV,hk),Ka a @ä h',t @aw0 σ H,_M.zB C U @e,(Æ,xs,@Û-i,x),(k5,@aI,?_),(k5,@aI,@t6),(dT,i,j,N),mV n e m1 l q,t q J kY hh,HY X.K C m g,HY X.K C m f,Up P h v d,ab H1 O q1,nQ f old l,nQ @bJ old l,(r7,@av?),I.kIn a o hk,(KQ,i),(KQ,@Q),(KS,j),(KS,@Ö),Mu m rL keep,(Ç,AI,h1,hj),(Ç,AI,g.1,hj),kvs++[(k,y)],kvs++[(k,v)],(sb,hp),(K3,@Ŭ),Hl n i S r,(K8,@Eg),(K8,j%2==1),(sm,t),Kd d c H H',@ß->(ed,α),@į=@g0,@Ă=@bm,cA x="number",@ax1<@ĺ,1-aD @kl,@ó<=4000,decide (z<n),absurd hx @ø,at_ g @bU,cK z @fx,hb.lt _ hi,@a!∈nX r m,@cx/\@ŋ,λx=>(ś,@mf),λx=>@me !=@ayN,mm ha.len hb,y.1≠@b7,λz=>.inr (s1.free z),acc++aG,P++@sF,(Li,r),c y (ù,my),r.map λc=>g @aA,r8 @FE @DA,∀x∈@a8,cA x=k,∃c,(ek,env.cells.lookup y.1),r.getD 0 @mQ,lP (Į,J.len),(Lo,@om),d c hc,λu=>z.2++[u],b _ i,both z F,P4 (Œ,hm),s.TypeIs @Î "dict",(Lq,@awR),bG ys its',mq @fy @awp,awe mA @awW,awf @ņ @kE,N _ vF,(Lr,@Cx),D.nx σ' H',mP pos @mU,(@ö-@ë).toNat,(Lv,@axU++[]),(i+n).toNat,aw0 y qV,Ic (c1,e1),OF @ja a,(LA,sF),acg d ht,LR ns @Ì,hz z mz,(rg ns).drop i,af.sqt hs U,(LC,@ax3),(qG c).2 (Ė,lp),{@awP,@fP},(d,z,hb),ab _ @DU @A,xs++[v],(H,es,W),(E,z,@d2),(E,s.want,@d3),ah H dx @m',(LG,n),(p+n-k)%n,(ō,@R,@Á),Gen n @aL @cy,(Ó,a,c),Mv H mv M,by delta spelt;rw[f_,jC];omega,(ľ,gu @ĵ),(Ĉ,D,@aq),(Ø,e,e2),(ó,W,T),(LH,fV),iY r y.1 @ayd,(ap,X,@OA),R q m' x,(b1,G4,cJ b),(ń,p,@fO),(bd,G,@ap),lz (jc @Ev) hn,(eF,(Ð,@O5)),PT X c tc,(Ō,x,f),(jH,m,@ek),(Ż,m,l1,m'),(Ż,@en,l1,@fP),jQ @c1 s' l,(LO,@ayG),eF x=eF y,(dr,by rw[eZ,cG,cG];omega),(l+@ř)%n,(cu,S,g),(hd,aaU,@K),((az,x),@DR),km H l xs,by let:=@Ī;rw[aw]at this;omega,(Ĉ,d,(j6,R')),eX H' W @b4,fZ @sU p++(K3,@sU),aM h1 h2 h3,(hW,@Ð,@Á),(lj,s,x.2),Qe X es t,(LW,@d),eX H mo hs,cS X.K H a xs,(x,c)∈(l2,@c2),(LY,@Fs),(co,zb,z,mz),ak X.K H a xs,(L0,@Ei),(L3,@C'),(ru,@CN,tk),Keeps N H H',vv H l u,(L6,@cH),@rh+64<jl,(L_,@ew),(L!,(qS,no)),(Ma,aH),k2 c o hc h,(rY,(r6,@um)),(Md,@ol),T.img i x hi hx,(sg,b≠e,@fn),(sh,@b',@awo),(Mk,t+@ĸ),(Mm,M),ab o1 e1 c1,aiK n e l,fQ h' w' @un,(Mr,@Cx),T6 e @Ĉ tE,u _ _ hd,Slot T @Ŗ id,(Mt,@ŉ),e _ _ h,(Mw,i),abj p f hz,(MA,i),(Æ,u,a,y),(vF,to),(vG,hp),fM σ H I h,wy n d K u,k b u (hb b n) q,(vQ,@auW),(vS,d),KQ J h2 w H hw,(vU,@DX),(vX,b),T.gen i x hi hx,(v5,i),CMk r c k l,Df K x s f fd,(v!,@ą),(wg,@tc),@P->@P,@ű->@ű,od.data=@m3,hk▸pw,@Ţ<@bP,f2-@km,@ú-(v,t),@fD-97,@axV\/@ayj,@ro<=1+256*@rp,@kJ<=gD w,λh=>hb (by simp[h]),(@jG,@cy),aY @axx (gM n l),@Č×@Ĕ,c.ctorIdx !=(aZG []).ctorIdx,@fW !=@h5,(cK h x).1,λi hi=>(Ŀ,Pd hi),y::ys,dk @ň::@uc,bK x h,λx_=>x_+2,@tI/\@Eh,back (back @cr),λx=>R.contains x,λx=>(gf,x.1),∀g∈S,g∈T,mm C.len D,a _ hm,[.ref d0],[⟨1,a⟩],["row","other"],[@bM,(qI,@jp)],[@ayg,@axs],bj λk bH _=>?_,@ü*@ej,@oi≠@bP,power n h,λz=>z.2.map ka,x.2++y.2,hl p hp,λx hx=>h x (í,hx),(O.good x hx).2,λg hg=>ajY hg,M k hk,ajU @C hg,hh.fixes v @e,∀i∈l,@eG<=@j5,Fa λr q=>?_,Fa λy1 y2=>?_,Fa λhp q0=>?_,Fa λu c=>?_,Fa λr2 e2=>?_,Fa λf8 k8=>?_,(c a).1 ha,@q5^n,aiA h3 hb,NY @E5 @ů,-(v,2)^63,cg (pR,z.2),λ_ _ _ _ h1 h2=>aWN h1 h2,λ(i:Nat)=>((dl,@ú),@j5),(l.filter λy=>(Ó,y,x)).length,((l.drop @Q).filter @EW).length,cQ @En @ug,h2 _ h,λq=>(g7,h1.symm.trans q),λq=>absurd (B.mpr q) jP,akk ht N,(C++l).length,b7 (wo o s),λno h1 h2=>(sf,h),hb x hx,UL hk hn,aks @A @awI,O.2 q U,I2.2 q U,(nJ t).map @av9,R.2 q U,cy λes o M7=>?_,cy λhm dJ nE=>?_,cy λm g u=>?_,cy λm1 W e1=>?_,λj hj=>hl j (í,hj),(zW m).1 hd,cands n q,(bP n).find? p,(bP r.length).find? (vY,@OV),(b::r).length,@ax0&&@Fi,@EM||@n9,((EM J).filter _).length_eq,∃q,@avr=some q,(iB k).2 hk,(g8 i m).reverse,f x y,f x.1 x.2,(qt @Û @r5).length,(d::l).isEmpty,.claim 2 [x.1,y.1],jF λhz C S l b_=>?_,jF λ_ _ _ e _=>?_,jF λhl hh hn j q0=>?_,(p.map @m8).all (qM,@h9),(fU _ h1).1,(l.set j v).sum,b p G,((hl p).1 hp).1,((m.filter g).map @rQ).sum,∀r∈g,r.length=w,R.wid x hx,A.wid _ (xo h1),g.getD i [],(s.take k).reverse.map @ht,HF C @awd,aaf C @awd,aW9 _ avV,((aiT _).flatten).map _,ET w r,U.foldl @E8 1,mono _ q,ws.map λw=>back @fk,jH @mD @auc,(B.best x q).2,s.TypeIs v T,dF λv3 v4 kvs cZ hs hm=>@E7,cO (by simpa[qf]using h),Er (ab H1 O q),.frz @nv (.lst @j9),.frz @j0 (.tup @j9),∃D,@hf=some {o with slots:=D},s.heap.Ns @aC m,s.heap.IsCell c v,λb ps e=>{#[],@axB},bY @r_ λc s1=>@av_,pure (ajm r),qz K a,Le K a,show(Lu,a)from p,O.fpOk h_ (O.hok.fresh h_),gQ λa b r q n cb _=>?_,hn b hb,(f2 b hb).2,(f2 b hb).1,jt λn k bH h0 hn hk q0=>?_,aXG h1 h2,(s.heap.push Eu).push @t5,zJ @aw5 @aw6,zK te t,λb z=>absurd z (G b),X.xe e s',V.ref (fs i),∀y∈j.names,y.2≠@an,lexLt xs ys,aXW _ _,(vs++ws).toArray,aXY @DJ "__getitem__",{s3 with heap:=G6 (s3.heap.push @m6) @b?},i8 λp xs i z F n=>cy λU he q=>?_,x_.setIfInBounds j u,rA x u,Qt r f.1,gX λSU S j d=>?_,gX λfO h0 hn q0=>?_,gX λhw hh o0 hg=>?_,aYe h1 h2,Oz d e,ok.uniq _ h1,(G b hb).2,ajn ?_ (by size_fits),s2.heap.push (jw,([]:@X).toArray),FR I5 n5,r.repl k B,(qW xs k).isSome,I.fpOk @Â @df,aa9 λhs zs h1 h2 h3=>?_,am4 (I.frzK hd) (λhs xa hx Ac Ad vs=>@ayV),am5 (I.frzT hd) (λhs xa hx Ac Ad n=>@ayL),CS K a,∀ys,u≠@fK,λd hd=>dw (abf hd) z2,∀(w:dc)(h:cH),m w h->(qn,h),(t.drop p).takeWhile q,y1 xs q1,y2 ys q2,(dd _ @OU).mapOf,(xs.map @Dw).map @d5,revObj a @Dd,M.keep gw BC,b9 (λj=>?_) (λj=>?_),Fo λfz v jM=>?_,Fo λqP v qQ=>?_,anW K C,(r.drop 1).map @aJ,anX K C,anZ K C,(d k v).len,(d u yu).len,an9 K C,(l.map f).eraseIdx i,(l.eraseIdx i).map f,∀z∈zs,cf n z.2,z.2.getD i [],_M.xH (_M.zB @axc U @e),(u @d).2 z,u.same v s3,Cs.claim k cs,(fN zs).map @CB,(mW @af o).length,S.same Db s5,adx h1 h2,_M.VD g G,(F7 p hp).1.names,agF u h,∀x∈C,(rn,2985984),((xs.take j).map @nM).sum,((di.refl H).of s1).upd1,ao4 C m,ao5 C m,O H' o',∀b v,u≠.frz b v,b.same Fw s,apl K C,ad8 K C,apq K C,apr K C,aps K C,∀q∈G,(Ö,q,gu (f q)),(zc x mx).2,Dg H q,λb xs h e=>(JX,hp),_M.Vr _ @ą,ajO q @bx,_M.K2 n x,axj q x,fB.same Fw s2,inr c ((lp c).1 hc),zZ _ _,.alike x y,.alike @Cu @avR,apU hb @ą,aZD @au0 f,_M.K9 @İ I,ap2 hk e,(tJ S @jw).1,H1 d=some @Da,@DS=some y.2,{@Ó,@Ó},{@Ek,h2},by ext z;rcases z with z|z|z<;>omega,by cases(h);simp at e,(d,l,@avu),(d,I.ok.glob,I.mod.glob.keeps I.bk),(d,gB,h1),(d,ajs,abd r),(Å,α,β),(Å,Int,Int),(Å,@Ë,@ŷ),done++[@m0],@sR++[(ś,(xs.2.map @é).length)],(Ö,D,u),(Ö,dx,@tv),(o+t)%n=0,by rw[hj];simpa using ew,by rw[aXD];split<;>omega,(ĵ,b9 (λC=>?_) (λC=>?_)),(H,kvs,(k,v)),(H,@ô,@Q),(GQ es @Ĉ).length=n,(E,@a2,20),(E,@ga,@Ň),PE X k tk,PE X v e,PE X l tl,PE X @r9 (E1 i),(u,e1,hz),(u,a1,gh),(u,B,k),.ins C DZ @EG,(C,Jy,n7),(K,U.1,U.2.1),(Ķ,ai×@X),bZ _ a6 dr,ah H x o',ah H d0 @ev,(jd,@P,VK),[(@Ý,@Õ)],_,(ķ,fj,dr),(ķ,nG,il),(ã,sp,x.spelt.map @Cc),(À,G9 Kq _),(ð,e,@bu),(Û,z.1,z.2.map @é),(å,(same n).take k),(ü,(ð,vJ,@ç)),x∈(gm,j),_,(Ë,ys,z),(Ó,x,y),(ŏ,a.1,x.1),(ŏ,a.ctorIdx,b.ctorIdx),Mv H G h',by rw[e1]at hl;simp at hl;omega,1<=@ó/\@n0,_,(qL,c)%2==0,iz X.K C f,(gj,j,.ref q.1),(î,m/2+m/2),(Ő,z.1,z.2),(ý,g,hg),_,(Ø,H,hf),_,(jj,l[k]),ah NE d @ut,_,_,x%2=@ü%2,(o,a)%2=@fD%2,(no,@Å,@o),(ap,v,@ax_),(bY,@tP,@oo),ab o hm hc.1,aY a (aY b c),Nat->tq->tq,(Ž,@axJ,ky u @o++W),mZ n M i,(aE,y.2.1,@Ā),(ŝ,"refusal",rf),(gw,e,m),Hp->(Å,Nat,V),(bl,xs,v),(bp,op,r),a=0\/a=1,eR @nZ @e @d bK p',λx=>!(qS,x.1),(ps,@Û,@axP),xz X.K @ņ=@o,(V,l.isEmpty,[],_),(df,@axA,hk),(pw,@t9,@bn),ph @Ca 0 h,(cd,xs.set j v),@bI-(o,@û),@oh*fk @Ã,s.getD 0 0≠48,(eZ,o,i),(dq,l,signs),(dq,aN,Iz),(dq,aB,adb),(dq,aO,RZ),by exact@a3<@ho;omega,(bE,Gd,hd),(e9,@Ð,(rL,@tQ)),aU (.int @aD) H @fm {@rM,@au8} q,wL K H vs ds,(j!,1,1),(j!,k,k),("wanted",.str I),(cs,@tN,j-i),(g9,a,@jy),(g',@kk,d*2),(dI,v,d),(kl,λvs H1 O r q=>(À,O.kIn)),wu g x.1 x.2,(kr,@î,o.2),(p_,"read_condition",aeg K j),PG X tg g,(ft,ab _ O q),cN N A H p x,(hz,tCB r t),bn M A t Q' E s,Hw H hn hk,decide @ayI||decide (y.1∉N),B b o e,Ka d h h',u σ H1 Q,bw X body tb,(hL,hb,λj jL dB n2 qL=>?_),.dN [(ks,z)],(qo,@g',q0),(d,lP hj,e),(Æ,u,a,x),(bZ,@jY,@cx,@hf),[@Ý,(i,@o)],(hZ,.bl a,@avM),(dK,H,l,hs),(dK,H,cg q0,(jT,@g')),(h6,(vP,F)),Fg C H p x,(le,@as,@as),(le,@aO,@aO),(ļ,@Ŀ)->@axY,l++(Ī,i,@ET),Paired (λp k=>@ayh) ps ks,.Attribute o f vD,m H2 i v,(Ä,@Cz)++[@ſ],(gh,.seq its'.toArray z),(ó,D,(b.take i).map (cK a)),by delta g8;rw[uF,bF];rfl,g x @aG H λI H2=>@us,(lK,x.1,x.2),(b5 q @ayo+c+i)%2==1,∀Q':@cC,Q' a H->@avM,(co,iM,z,m),(g!,"rest_of","move",aen C),KL n q m l,KO n q m old,KO n q @ü @EB,v=Wt.andW\/v=.orW,300*(@fX-@e?)+@ayy,300*(@fX-@rp)+@ro,(l4,@sy,st),OU X @e @ayE,(rs,i,@å),fU i y hy,fU i _ @bH,h.imp Ks (λh=>h.imp Ks Ks),I.base.tups b xs e,I.base.tups b ys h,(Kt,λoi e=>k it @A oi e),(o,w-k)>@ë,.tuple [.int @ú,@ſ],.tuple [.int @tG,@axK],Ry m i @e,Ry m @ń @Â,.fold x y ns,.fold @tF @cQ ns,@ayu++[V.int 32],(h,x,j,st),(ĝ,lV,@a9,@ç),_,(g,@fO)::@Æ,(rK,z,z<2^64),(Þ,@Ř,@nZ+1),(Þ,@kb,@kh+1),V->V->(jd,V,@ec),@re+3*k,(rO,v,r),(KE,λy=>y.2.1==@Ā),(rW,@Ć,@Ł),(rX,(Ő,a,b)),(kY,@BZ,[])=(do
  let z<-de o X.env
  Kg apos.atName
  let(f,first)<-zg [z] (Kj z m pl)
  Ov pos f first (mP pos (eN [] X.env)) (GY pos (GZ [] X.env))),(kY,@BZ,@cd)=(do
  let z<-de o X.env
  Kg apos.atName
  let(f,first)<-zg [z] (Kj z m pl)
  Ov pos f first (mP pos (eN (e::es) X.env)) (GY pos (GZ [] X.env))),kg n sv ⟨ms,m⟩ t,kg n sv {ms,{M,@b5,os}} @Ĳ,(l1,q,0::@jx),I.base.frzs b o u h,(K5,@bR,hm),(K',(ab,q.2.1,p.1.map kV)),g∈gm S 0↔@gc,(Lh,@Ã,@cJ+i),aM hl hb h,bN (u,a,b),(Ll,(hE,(Kp,r))),∀a,N a->d a,e_ (j%n) @ov,j0 @hP (gZ q'),bD N ps bz,HT.pK @i' 0 lo,(Ly,(ź,hb,B)),(Lz,F.ex,λa7 ct vE n G kn=>?_),lZ H' b M,by delta xP;rw[ÿ,@C,@C];simp,af H (ah H' p o),(Ù,H5,g,@sR),(š,@EC,hv,?_),(u,cJ ha,l),(á,H2 q,@awG),(Ą,(a5,aq),(K5,.bl l,aq)),(Ç,N.length_eq,iR,W),(ĩ,"number_of","spelt",acw K),@oy*@kb+@E9,(es,.int c[i],@E1),(ex,@tl,g9 λx H1 O G ty q1=>?_),(Ż,m,l,m'),(c8,"undone","move",abO),CU i @ž (Ċ,@ç),tZ a c ns ms,(lr,Mv H z.1 z.2,@axn),(LZ,@mZ,@oF),(L5,@ŗ,ik),(L7,k,hk),(Mb,v,@axr),q0 H' D hs hD ?_,(P,g,f,@BR,mA g),(vJ,@kX,@awV),(vZ,@awj,w),(v0,@awj,w),(v3,λx H1 O J a dx=>tR λfs ex N l q=>?_),(xT d od @cl).stop i H,(xT d od @cl).go i H,aaM O N c hm l ?_,(wq,od,@cl),(wu,v8,G),aW7 g=@cF,told @awF=-@ũ,@ë-1-@ar,@ö-@ú-@Fn,(LT,hi)-@Fq,λx=>(rZ v n).map @au4,λy hy=>h y (by simp[hy]),Kz @bO @bO (lw n _),∃x,@nx/\(A,@cv),yQ.1 e G r,(@dA-1)/8,∀l:@À,(rG,l,l),λa b=>¬Cv b a,show@Ö=n from Tx hj y,hn x r @d,O.1 x.1 x.2 hx,I2.1 y.1 y.2 hy,R x y H2,((aiG l).eraseDups).filter λx=>!(Mo,x),akw x a b,N j hj @e,λk=>(å,@au5)==q,∀u∈y,u∈g u.1,akV _ _ _,(wo o s).map mj,(o.zipIdx.map @sm).getD p 0,wq {ss,@d3,W} @bo,λv hv=>(pd.mp nd).1 (awu hv).1,(lS m p o).sum,Em f l l2,(T0 w r).Pairwise @hp,dE (ſ,¬n<@Ĩ),_,(jQ @c1 s @ax).1,Paired.mapP v λ_ _ t=>ht _ _ t,∀b o u,(kv,@s3,@s3),∀b ps,(ŧ,.tbl ps)->∃more,(Ĉ,b,.tbl (ps++more)),Mod X.K X.mg @b9,(I.ok.bs b o e).1,(I.ok.bs b o e).2,I.ok.noex b o e,all r x hx,I.cne x c e,z.sameBut hs (B y c e),_L.PE0 X e t,∀a s,Q a s->Q' a s,.Constant @j8 k p,bY (pD,Q) λc s1 e=>?_,W b o h,W m σ H,ai7 tg @cI u,gQ λa b r q n cB=>jg λha hb R S hn q0=>?_,∀i x σ H,@au->@fs->@OK,∀name,ai9 @Ŗ od=some @DM,ck "refusal" @ſ @avb,.ins e j [],zi h (gc,"cell",.cell @u),awL s z t,oW xs lo hi,∀H,(Ű,T,Mx),∀b ys,(kv,@fK,@fK),∀w' s',@sA->RelV v w'->Q w' s',∀o' F,X.H_0 d≠some @ayQ,aYF N hd ?_,xT d o kvs,am3 d o kvs,tU K a b,abk p f g1,this.keeps λc ys ec=>(C,(r_,hp),ec),s.heap.IsRevIter I l @axM,∀i x H1,(K6,@ō,Q x H1),((bQ n).map @s?).map @é,(tI n @a3).map @é,q0 H1 d k1,_M.UW _ _ O.len,(iI t p @ĉ).word,Ro H l xs,Fu λs5 ns left cs l v6=>jt λv7 v8 qq n5 t5 c5=>lW λvB yC SV lp ar_ F7=>cy λagE F8 jL=>?_,Rx hd h @ave,∀(i:Nat)(z:@Ep)(H':Hp)(Q:VK),(LU,f z.2,(ky,@axm)),((nL @å).map @é).eraseIdx k,asf i v hv,Kp @BL H4 H',q3 H4 R4 (o2.tr (di.ofS s3 o4)),apo K C m,aZB (Ku q) 0 G,axl a b n,.fold @Cu @avR (ns.drop 2),aqe K mg T,(@Dy:@â).zip us,tq->tq->tq,by simp at hw;subst hw;decide,(kQ,z==1)++[b],(GQ es @Ĉ).findIdx? @ê=@u,(Æ,N,p.2,p.1),(show(A,t.isEmpty)by cases t with|nil=>simp at h0|cons a b=>rfl),(Ù,H4,W,@EA),(Ù,H8,F,[]),(ec,@Fb,H,s'),(Ð,ck f y fs),Nat->Hp->aa->(Å,@ć,α),(Ê,ag (show¬(ei,UA)from h),hx),(Ğ,p3,@tA,@D0),(È,"have_room",@FB,1,ado K),(Í,k2 b o h hb),bU ih.1 ih.2.1 (λz hz=>ih.2.2.1 z (key.2.2.1 z hz)) ?_,(ĩ,"named_cards","steps",adj K),(ĩ,"first_changed","move",ael),(ĩ,"in_decimal","number",aex),Sg n (oR U z) i h,(bV,cI (ixS (K:=K)) @Ð @Á @ļ),(Ă,(qP,"sum",@j3)),walk h (lH,a) b,(c8,"count_of_rows","size",ab3),(c8,"is_decimal","spelt",acz K),(ň,@hR,@an,(fK,@CX,@CX)),∀c,c∈@å↔c∈@ô/\c∉ns,(ä,@Ķ++@ob,H,hp),(gK,m,x.1,m1),IsNestKey knd @ä y b,(@ez,@aA !=@sg),(gY,"bring_up","place",ab8 C),if m=0 then@Û else m-1,by rw[hc,hk];decide+kernel,(an,"with_sides","numbers","sides",acL K),(g!,"exchange","place",aca C),(ki,"odd_differences",3,abZ K),(kj,h1,h2,h3),.dN (kvs++[(k,v)]),(Æ,g,@dn-1,@f4+aD @kl),ak X.K H1 a xs,Hr H hm b1 b2,di p mo v H1 H2,(jo (Lq.flatMap @sI)).length=2*Lq.length,EO S g k cs,oj @kD zG @oC t,(qT,C,(N.best x hx).1,N.nodup),(b5 r (ka,p)+p+s)%2,(an,"move_between","row","other",ac8 K),(lc n m f i @å l).1,k2 b o (Mi m G B h) @fT,(lU,aXq @Ĉ x u),(lV,@uu,@uv,@ux),(Kj,@DT,ab oi e (pV,dd)),@À×@Ec×@ot,@ĕ×@È×@È,gk (kR,p) p r,CU r @ž (Ď,@K,js),(lc n m f i @å l).2,(K',sk H q.2.1 p.1),v++((v,(tJ S @jw).2.length)::(tJ S @jw).2),bU h1 h2 @Dz (λ_ h=>@ù),(Lj,gens.foldl @CC acc,[]),M.part j g' @e u,∀x:au,@tR->S x=Ke x,(Lw,U,@av4,O),(Ĭ,I,(L',tt,@d)),eR _ hm b_ @Cp ?_,1<=@ó/\@n0/\@rP=@o,{?_,?_,?_,?_,?_},(Mc,i,c,h1),n0 a b m' @e d,{h1,h2,h3,λx hx=>(h5 x hx).resolve_left @A},(hQ,ar6,@R,@Ô,(rJ,@Ń),@Á),I.proc a k z (hp.back e) hk hz,CE @đ P w H s Q u s',∀x,q x=(E,cA x,k),jc (x.above y c (uL h)),λz=>(B _ z).2.1 @d,M @Q @e _ st,bC (eF x) @sL @ax6 ((KJ h0 H @sL @ays).1 hd),t q' h rJ S,∀(j x:Nat)(b:Bool),(Mi,b,@ef,b),(d::l).getD 0 0,ak8 (C.1 x.1 x.2 hx) (λc1 c2 p' hr=>?_),alb n @Ř i @C,(mX k s).getD p [],∃u,us=[u]/\@h2,λb o e=>(e0.bs b o e).1,aXA @ei X.A @Ĉ X.xe,aXC h1 h2 h3 h4,(ck f v fs).map @ê,∀(pins:@Ç)(s:aK)(σ:St)(H:Hp)(x:V)(xs:@P)(v:ai)(us:@X)(Q:VK),@V->@eN->@Ų->r x xs H Q->(cg,call @r? (v::us)),λr s'=>r=w/\(k4,r),∀m:@h,@rn->(qO,@ek)->@ń<=4,∀h' tk t',(∀b o,@cx->@ok)->Q (.int ns.sum t') @kg,awU xs k b u,∃k v,y=@cG/\@axZ/\@tW,λt' k=>aU @awT H (I.tok k) (ć,t') h,(CS K a).stop i H,(CS K a).go i H,tx σ H2 λz H3=>∃k,y=@cG/\Q ((dv kvs k).getD z) H3,aZk "min" ["key","default"] 0 {[],@OB},asj c o h hc,k9 c o hc h,(Ku q).filter λno=>ajP r2 no !=ajP q no,∀S,Hi S (tE c)=@ow,(l,U,axt,[]),(by induction h generalizing i with|nil=>simp at hp|cons a _ ih=>cases i with|zero=>cases hp;show(R,a)|succ i=>show ih hp),(kC n @o t).1.moves++[(Ke,@o)],(È,x,ps,k,sp),(È,"sides_by_one",@Fp,3,acN K),g8 i @ü=g8 i m++[@oD],by rw[zD,zD n it,f.prod,O],he @Æ s1 σ H1 _ O q1,(gD,{s with heap:=h',gens:=g',drawn:=d',toks:=t'}),rl p=@o->c=[@EQ]/\t=@Cf,.inl (aU @cl (Ŧ,@Ā) (as,od,(ĭ,aq)) @d (Ê,L_,aoD o mz)),[@Ě,@cA,@jK,@ū,v4],h @Æ s σ _ _ O (hw od),(È,"holds_of",["steps","lies"],2,adg K),PC X op a b t,yh n rf st I J M X,(fI,"Reading",@ud,2,RG C),GV e f @Ĉ @he=@he,fZ @jZ p++gk (kR,@ģ) @ģ (kq,@jZ),(k3,g x σ H1 D.nx),(Ka,s3,m3,@D4,(o2.of s3).upd1),ns.isEmpty=@o\/(A,@Ft)\/(@Ì=1/\1<@ó),QQ B c ds _ fU p h2,(sr,(r0,[],s1,aq,{@Â,@axa})),rh n S (TT++[h]) x.1 @Œ @b4,by rw[ŏ,@ui];ext i m σ H;calc cy @aw3;subst j;let q:=@uw;rw[Ō,<-er,@FD,@ty,hs i x σ _ @oA p,<-Ő,@Fx,@oE],ht i z H' _ hz hs λH3 h3=>?_,(wp,(g9,b,@DL),@dr,@OG),(wt,@FG,@FH,@FI,@B4),∀j x,@nx->x∈m->@a6=((i+j)%2==0),[V.ref t0,V.ref t1,V.ref J,V.ref t3],Q i y a hy ha,h4 q a1 X M I,mr bK xs (xs[@avL]) q @A,Inv @awZ @Æ σ H s,∀b∈ch,@Fv/\@j?/\@ua/\@E3,aU xs ys q1 q2 (.inl @Â),PIE X @Æ σ tg R,(Ex j bz @Ò f cd).kindOf,λi v=>∃W,(H,es,W)/\W.key=v,QA wi g tt te @sa,h.IsStrIter it ty x t i,s.heap.IsKeyIter it d i n ep,aYC (awY (name:=AJ "__next__") @my OC (Kc OC @my aYD ?_ (aYE _))),sn c tb D σ H,Dic P w K mg l,aFU s1 @jJ @u @u @d,JG c o h1 h2 h,De D l d hk uw,oo p st M X c,aqd P w K mg aO,(gu,pf @ď x.place sp @mB @Ĩ),bY (h pos @Æ s σ H _ I U) λus s1=>g9 λxs H1 O r z q=>(À,(K,r.length,z)),(jQ,(bt,I,@cO,@cO,@bu),G.NO_GRID),ah (ah H4 M @ax7) M (.dK (fN (ez++[(t,@Fr)]))),ah (ah @CL t1 @Cv) J @Dc,ah (ah @OS J @Dc) t3 @EF,xV P w K mg @ĝ "Group" e @axp 4 (RO K e),[@bM,@ac,@jK,v3,v4,N],(È,"turned_round",["size","number","turned"],1,aby),(È,"is_grid",["height","width","size"],1,acU),@n6<=i/\i<2^62/\@n6<=j/\j<2^62,(ŉ,d,c,a,S,ns,aM D' ha g),(r8,((s.take k).reverse.map @ht).getD p @te,(s.drop k).getD p @te),W.item i s _ _ hg st λv h' tk hv st' kk=>?_,(Lk,@t3=i/\(r4,t<c,@s8≠i)),λb hb=>bU ((hf b hb).2.2.2.1) ((hf b hb).2.1) ((hf b hb).2.2.2.2.1) ((hf b hb).2.2.2.2.2),o _ _ h h1 h2 h3,(wo,(wv,Q,J,B,q)),λm' hm=>by clear hm;calc lA λo' Ac Ad j r'=>?_;rw[N]at j;cases j;show Ci _ Ac Ad hL r',(qu n m i @å l x).isEmpty,aaD _ @d d od @d @OR,λx xs H Q=>∃a p,∃ys:@â,x=.str a/\xs=[@ã]/\(ak X.K H p @CY\/cS X.K H p @CY)/\(ys.map @awv).sum+@aD*@b3<=16777216/\(lz,Uo a ys),(CS K a).yld i H x H',λy H1 I2 B q1=>bY (rg,s1,H1,I2,q1) λu2 s2=>qA λz H2 I3 g b ks=>gX λn d hp q2=>aY7 ?_,∃l xs m lt,y=@ē/\(dQ,l,xs)/\@D'/\(st,H1)/\∀i x H2,(K6,@f_,Q x H2),DicC P w K mg aN aB,uM @Ŗ j aqP body bz dV kV M pm z a7 ct,Iy (LE,@ď) (.str (L8,@mB,@ď)) @ci @avA @avA ?_,(È,"settled_by_others",["row","sides","place"],3,acP K),(P,b,40,"(",(ax,b,41,")",b,59,";","wrong")),λz=>(B c z).2.2.1 x c e @d,bO la N J G i1 S (bU O U W (λH3 p3 o I=>(į,{{@Ó,@Ó},M H3 p3 o I}))),match t with|(.sign 40,p)::r=>if d=0 then .error p else(Lm,xq n e f (d-1) r,match x.2 with|(.sign 41,_)::s=>(match xq n e f d s with|.error q=>@fj|.ok y=>.ok (g x.1 y.1,y.2))|s=>(Kq,s))|_=>(Kq,t),(lc n m n 0 @ô l).2.map (j5 r m (sp,l)),jR @ð @ayt ([]) @á _ (#[]) (oN 0 @ad (Ł,@d) @d @d Ul),bY (hc @Æ s σ H _ I h) λd s1=>@av_,awT @ei X.A X.xe use Qf @cz @bn,hk c o @nz @nz @nz @nz q,(by cases r with|nil=>show B8|@cons p q ps G h t ih=>clear h;rw[Ü,λh1 _ h2=>?_,<-az,<-pM,q.1=k,@tz,@avW=some q.2,wI e,h2,<-pM,¬q.1=k,@ax?,@avW=qW G k,@j_,ih]),(ń,p.1,p.2)/\(Á,p.1)/\p.1≠@aC/\p.1∉@d6/\(KP,p.2.data),jR z y xs r o es (iu ep h1 h2 h3 h4 @dw h5),hb wh @Æ s1 σ H1 Q O q1,aYZ q b Q m r d [] (λf vs=>aY0 f vs),bo @Ğ X.w X.K X.mg @b9 x ps k sp,(L9,(â,r,mv,q,@jQ,@nl,bU ik (LD,@ą) (_M.qp hh) @axg)),i_ @Ğ X.w X.K X.mg @b9 C m ps k sp,xV @Ğ X.w X.K X.mg @b9 x C ps k sp,⟨ok.mod,ok.kind,ok.glob,ok.blt,ok.above,ok.inj,ok.has,ok.cab,ok.hd,ok.frames,ok.stk,ok.exf,ok.bs,ok.bsz,ok.noex,ok.exfs,ok.funs,ok.frf⟩,λvs H1 O G q1=>hc @Æ s1 σ H1 vs us Q O G q1,λa b=>(_:TS) Dz a b,(Ù,H1,D,[]),(Ù,H4,D,acc++[y]),(I7,F @at3,F H3),(ē,r,(Ý,@bq)),dj p y,.seq @ò n,@Ù×@Ù,show@hc from hs,absurd m uJ,(I9,@ed),(cg r).length,.int 0 0,(ū,@hf),wN h A a,λdx mv hp ik=>?_,(I',@at4),λx=>_L.V.str @jp,λr=>@BI,V.str @jp,gb @r1,(hf b hb).1,(pA,@Ï,p'),dU @Ì,(b7 q).length,λ_ e _=>?_,λvs H1 O G q1=>?_,λz aG n r hl e=>?_,t σ H Q,(Ł,@Ą),absurd m @A,(ũ,bI,a6),λ_=>(#[]:@ŀ),λe s'=>R (.error e) s',(pM,@auh,.ref q5),Og knd,λb o e n hb hx=>?_,λaG r' pl hz=>?_,λbH _=>?_,W 0 m σ H,(gZ,@e),dU (gO,x.1),(Ľ,dx,@m'),OD _ _,g x @aG H' λI H2=>@aud,(P++@rG).map .op,OB @hg A env @auu,h1.trans z,ks.map kV,done.map @auw,i7 @Ň,X.base.get? b,h.1.seq U,told z,λi H' Q hi q=>?_,cs.take j,λe1 I e3=>?_,by simpa[H.len]using hk,(X,H9 c),(Ð,fs),(Q,this),du n x.1,(r[i]).no,(b',@cB),i%2==1,tw w h q,.dT [(@r3,V.ref N)],pV r n m T,(JT,hx),λy=>x::y,eg r.length k,base.Ns ke mg,V.int (1+@ë),(u,gB,b_),(Ő,(ka,p),p),(j4,d,w,h),bU @C @C @e @e,OO 0 r q,Mr hb @Ē @ą,(J2,x.2,x.2,@me),ck "several" @rK (ck "size" @aa []),Ms (jA.2 hb) S q @d _,qD n @o @jN k u I J tm y,λe=>@jq,λa=>@jE,λx=>@b4,some v',.inl oy,λws h=>?_,λp=>@jv,(mS s').sum,N.nodup_iff.2 @Ce,jF λB e2 e3 e4 e5=>?_,.ref mo,AH "list",Paired.length rel,h'.get? a,aG.toArray.any @hn,aG.any @hn,rel.val k,vs.toArray.toList.map qB,λi H' _ h=>@auN,_M.qZ @C,W.take i,QU (K:=K),λhb Q' k=>?_,RQ @g_,λbf D hS ha hok g=>?_,(g'.headD []).length,by simp[eW],@rH=@o,(A,@jv),(É,@ao),(R,@í),b5 r @Q,(bU,jL),@Ï-1-i,t σ H Q',(eF,@c_),(jL,@K),@Co≠48,(eV,hp),ns.getD 1 0,(kh,BR),tj 0 r q,xs++ys,absurd hj @Ä,qW (q::G) k,ck f v r,d.weight<=1048576,aY @Ů @ś,(Ī,k,@Cy),(dg,p,x),aD (cK z.2 x).2,cU z.2 c,.seq @d7 n2,u::l'.take i,(C,(qC,c),q),(Kd,e),@d_+j.toArray.size,λx=>EG x.1,bj λH1 O q1=>?_,cy λh4 _ h5=>?_,Lv @Ŕ e,(qG c).1 hc,RJ K C,[(dk b,u2)],(ķ,bI,a6),(Ò,k<=h),ir i @Ž x,ab o e (pV,d),(by rw[ù];cases e:zs[i]? with|none=>rw[Ť]|some z=>rw[eb]),(no,@sG,@rZ),(by rw[bB]at hj;cases e:zs[j]? with|none=>rw[ba]|some z=>rw[pF]),(mZ n @fF k,b)∈K,[@fx,(j,@o)],(Ç,mQ,bF,Od),(H,zs,z)/\y=@br,h.DictOf @dd a vs,.Subscript o i vD,(qW xs k).map @Ĥ,(Ë,zs,z)/\y=@br,(dg,q3,(@Ì,C3)),yh n @j2 sO I J G v,((nX r m).filter λp=>!@jv).filter (iP n 0 @ô),λh=>jD h,λx_=>x_.length,(hh.isHand v).len,λi=>@sH,(AM.1 hg).1,v.lev _,l.find? λy=>y.1==x,some @c_,g (eQ r no),λno=>@awh,λm hm=>@Ä,c.turned @o,a.map @é,.inl k,λx r hx=>?_,λq h=>@Ŧ,m.map @ċ,(nJ t).length,λa b ha hb=>?_,ws.map @Ĥ,ws.map @mR,wi.map (du n),.ref @Ļ,nestDraws done,.int @ar,.str _,.tup @avU,Es @dd,fs.map @ê,X.s_0.heap.get? b,X.env.scope.names.lookup y,X.wish E,{D with nx:=u D},∀b∈B,@Cw,λI H2=>@aud,λj hi p=>?_,λod J hl=>?_,aaR he,λj h1 h2 h3 h4 h5=>?_,λh' j hs=>?_,λh' j hs=>h _ ?_,af.refl H',ak.of ?_,λ(k:Nat)=>@au7,I2.tok _,λpins s σ H Q I q=>?_,λj _ hj=>@avV,(λz m=>nomatch m),_M.xH C,st.reverse.map V.bl,r3.trans I,λcB D hS ha hok g=>?_,λH2 p2 s2 kX=>?_,.load ns,by simp only[gB]<;>simp_all,by rw[gB]<;>simp_all,Q @ŕ H',{_,@ľ},(Ï,(v,@Ā)),z.2≠[],e9 x≠[],(ĸ,"moves"),(Q,z),(Ý,hy),(ñ,z.2.2.2),(gf,c),(Ĕ,@bN),du n a,(í,hy),iU n x,(v,d)<=1,by simp only[gB];simp[*],(ŕ,@Ŋ),(Ė,e),(ĭ,hp),(jn,z),(au,@B9),(az,@Ì),(bb,hp),(ey,r),cK x.2 x.1,S++@Di,(dc,x.2),mZ n @fF k,(v,@į)-1,(H,zs,z),yW n l,k%2==1,(jR,G.names),(gw,o,@Ŗ),gw _ _ h,(gN,@R),([]:@Ç),(ĺ,p,ys),G i @ä,(c z m).2,uN us ns,(e?,@fy),(E,n,1),(Js,c),(ku,T),pV r n m @avk,absurd hj @CT,4^@ń,xG H h0,.dK (fN ez),aL @ŗ hp,G7 vs k,(œ,c,t),jU kvs k v,x.1<@b3,λz=>e @auI,AO tm @auW,G6 @nT @b?,@hf=some o',(j+i)%2,(H,vs,v),(û,D,[]),(ñ,! z.2.2.1),(ľ,.tup @BT),(Ø,?_,?_),(Ű,p,ys),(bc,p,hk),oX K h A b,decide (x.1%2=0),λc=>(ď,@aZ),(cd y i).no,λq=>(ŭ,q),kO @av! @r8,kO @Ds @st,(xG H h0).symm,(Ku,hb),(Kx,@j1),(c z mz).2.2,(C,b,O),@tk=@o/\@avF,(bl,g,k),ll H' d @s7,AV n 0 p,(rf,z,OA),(KV,@ao),(KX,d),T.fix i x hi hx,@d'=@Ă,@q4<tu,@g5+@ca,y.1∈own.map @ê,λx_=>a::x_,bj λep e c=>?_,Fa λhsz mY=>?_,(same n).drop k,(cd r2 x.2).up,(b7 q).headD 0,cy λex g q2=>?_,.frz o' F,λo e=>k it @A o e,I.list_inj hy U,ame (vals1 r) (λu n t j=>?_),GZ [] @Ĉ,gX λn hsz D hm=>?_,bR σ @sa,λq(D:List a_×V)=>(ab,q,D.1.map kV)]
example:=#[_,_,_,by rw[Y];show Z,F.ok Y (λvs H Q E h=>?_),_,_,bx K Y Z L f fd,_,_,_,_,_,_,(v,(Î,Y)),_,_,_,_,_,by rw[Y,Z],(Y:Int),_,_,_,_,Y=@Å,_,(d,aF Y,Z),_,decide (Y=Z),_,_,(Æ,Y,i,Z),_,_,by rw[<-Y];show Z,_,_,_,_,if Y=Z then L else ύ,by rw[Y];rfl,ab _ @d,_,some (.ref Y),_,if Y=@o then Z else L,_,Y=some o,_,_,_,_,_,_,_,_,_,_,_,_,_,_,_,_,{Y,?_},H Y=@u,(bO,Y,f,Z,L),cj Y Z L @d,(nL Y).map @é,Y->Z->@v,Y[Z]?=some L,by rw[Y,Z];show L,bo P w K mg @ĝ,Vo @d,by rw[Y,Z];rfl,(Æ,Y,j,Z),{@d,Y},s3 _ _,(Y:Nat),some (.int Y),.ins C dx,ab Y @d,show Y by omega,decide (Y<Z),by rw[Y,Z,L],(õ,Y,[Z],L),H Y=some Z,_,aM Y Z ?_,ah Y Z (.lst L),by rw[Y];omega,(á,H' Y,Z),(õ,Y,[Z,L],ύ),.inl (ak.of Y),show Y=Z by omega,iz K C,aA (aV Y),Y=some (.lst Z),bO Y Z L ύ @d,(Ö,Y,.lst Z),(ö,.lst Y,Z,L),done Y r,(Ĝ,3,Y,Z),cY _ @d,(Č,(Ĝ,Y,Z,L),ύ,ώ),c_ Y Z @d,(Ï,(Î,Y)),Y->Z->Q L H',(cJ,ax _ Y),iD _,power n h,(ec,σ,Y,Z),bd Y @ž (Ċ,Z),(v,aD Y),iu Y @d,Mv H',(pf,Y,(eg,Z)),bD Y Z (bt L),aL (o:=Y) (af.refl Z),_,by rw[Y],bX.2 (.inl Y),Y->@v,(Ù,H,Y,Z),eh @Ð Y @d,(a6,Y,Z,@d),ay Y (aA Z),(a8,λi σ H'=>Y,Z),show Y=Z by simp[*],λxs q=>(ji,Y),(jo,Y,Q),mg Y=@u,bC _ @d,s _ _,dA Y hD,{Y,@d},H' Y=some Z,aq (H:=Y) (a:=Z) (o:=.lst L),ac Y ae,List (Y×Z),ay Y (ay Z L),bh _ @d Y Z @d,ac Y (Ċ,Z),.int (Î,Y),V.int (v,Y),(Ť,Y,(à,Z)),dC _ @d _ @d,(Ğ,Y,Z,?_),.inr (.inr Y),Y<=1000,by rw[Y];simp,(I5,Fa Y),(I5,jg Y),(Â,1,[Y],Z),s4 _ _,(a7,@ã,Y,Z,L,ύ,ώ),a9 (i:=Y) Z @d @Bs,bJ Y Z L (bm _),aU Y _ @d,(â,Y,Z,L,_,ύ,ώ),Gen n S,s2 _ _,(Y&&Z)=@o,ag (λz=>Y),(pe,cz (K:=K),Y),{Y,@i3,Z},at_ Y i,ay Y (à,Z),gq _ _ @d @d,(È,Y,[Z],1,L),(bP Y).map λi=>Z,some (V.int Y),(ç,Y,_,_,_,Z),hs _ _,(d,Y,hi),(š,_,@d,Y),lC Y Z=some L,dI @d,(Ŭ,Y,(jg,Z),L),(è,Y,Z,L,(Ĝ,ύ,ώ,Ϗ),ϐ),kl @d,a8 _ @d,(Å,Y,aK),ax (bZ _ Y _),["self",Y],s1 _ _,ak K H,fR _ _,bG Y us,ah H1,(Ö,p,Y),by let:=Y;omega,(Ã,Y,Z,_,@d,L,ύ),(Ũ,@d,Y),(Û,D,Y),m_ (K:=K) (a:=Y) (xs:=Z) L ύ ώ ?_ ?_,s.heap.get? Y=some Z,(K,e,Y),lh (Ď,Y,Z),(R,(É,Y)),Y=some Z/\L,su Y Z L ύ ώ @d,V.int (o,Y),(d,e,Y),qX K ke Y=some (T,Z),cI (eC (K:=K)) Y Z @ļ,fA _ @d Y Z L @d,(A,Y==Z),(b5 r Y+Z)%2,b5 Y no,(d,H.len,Y),Y++[V.ref Z],(Y:Int).toNat,if Y then _ else@u,aL (o:=.lst Y),(ä,[],Y,Z),dS nO,ah Y Z (.lst L),R q m,V.int (Î,Y),(jm,.bl Y),(Y,.int Z),(Â,Y,(ĸ,Z),L),(ť,Y,@R,Z),(pq,Y,some Z),(č,Y,_,Z,L),aX Y C Z _ _ @d L @d? ύ @d,(ċ,aa,Y),cv Y Z cE,bd Y @ž (Ď,Z,L),.inl (v,Y),(Ö,b,Y),aM Y @d,(cJ,(ķ,Y,Z)),(S,[-Y]),Y=some u,jJ _ @d Y @d,hc (bN Y),iG (a5,Y),i_ P w K mg @ĝ C,cS K H,gN Y Z @d,(cg Y).map @é,(cO,_,Y),(gn,@d,Y,Z,L),(gk,[(Y,Z)],L,ύ,(ej,ώ,Ϗ),@hb,ϐ),decide (Y<=Z),Q (.bl Y) H,∀xs,Y≠some @a4,Y<=100000,aM @d,jZ n Y Z=some L,by rw[Y];simp[*],{Y,.claim,Z},Y=some (Ð,Z),show Y by simp[*],by rw[aw,Y];show Z,(Ö,Y,.tup Z),(ğ,Y,_,_,@d,Z),s5 _ _,(Ĝ,2,Y,Z),by exact Y=_;rw[Z],(jD,Y)=fu Z,de Y @Ĉ,(H,Y,x),fK r Y=@o,(Ö,a,Y),(Ö,d,Y),jT Y Z L (bm _),(È,Y,[Z,L],1,ύ),(I6,Y,Z,X.xe),(Ù,H1,Y,Z),dv kvs,(go,_,Y),.inr ⟨Y,Z⟩,_,λx=>aD Y,iq Y i=@o,bA gF,(P,Y,Z,L,(P,ύ,ώ,Ϗ,ϐ)),bA gF Y aH,((Ŧ,Y):a_),on X @Æ,[Y,V.int Z],(bS,gn Y,Z,L,ύ),some (V.ref Y),(Y==Z)=@o,Y<@Ã,(đ,Y,js),sD _ _ @d @d,(bR,p,Y,(et,Z,L)),{@e,Y},{Y,@e},(Â,Y,["deck","numbers"],l4 C Z L),(pp,Y,Q,E),Y=@o↔Z,wB eK,(ð,Y,@K),n<=52/\Y,bA nc,(Y,.ref Z),∀l:@h,Y,(d,Y,_M.qp Z),(ö,.tup Y,Z,L),(Ê,eY,Y),bA nc Y aH,(en,87,Y),(ô,Y,-Z),no Y H @ŗ,(jG,["deck","numbers"],Y),(Å,Y,Hp),.tup [Y,Z],eN Y @Ĉ,eV (ak.of Y),bE.2 (ab Y Z L),vs=[Y,Z]/\L/\ύ/\ώ/\Ϗ,let Pz:@rz:=Y;Z,eP (gr fC jm jn i9 Y (Ċ,Z)),(ã,l,Y),(ee,Y,aH),di p mo v H,(gp,Y,@Ð,Z),li Y _ _ _ @d @d,bX.2 (.inr Y),I.hok Y _,(ť,Y,@ç,Z),(û,l,Y),(a7,@Î,Y,Z,L,ύ,ώ),.inr (fH Y Z L ύ),(am,cW,Y,Z),aA (Ĝ,Y,Z,L),Y++[x],(ť,Y,@Ð,Z),(Y++[Z]).length,cN Y kR,@Bt=some Y,(ã,Y,xs),ki X (px Y),(E,Y,Z)=(E,L,ύ),Y<@Ò,dw @m1,bd Y @ž (ac Z (Ď,L,ύ)),(Â,2,[Y],Z),mF X (.builtin Y),(ç,p,C,dx,_,(jv,aq,Y,Z)),eR Y @d,_,(H,Y,y),(Ü,Y,"row",Z,L),(d,Y,hm),(Æ,Y,0,Z),show Y=Z from rfl,(K,Y,(gL.1 Z).1),(V,Y,_,_),kz (wz Y (xK Z)),by subst h;show Y,(en,46,Y),(cU,(aw,Y,Z)),lE Q a.cl,(gE,Y,Z,?_),(S,0::jo Y),sE Y Z @ci @ci ?_,be P w K mg @ĝ br Y Z fd,(Y,@Å),(ï,H,Y),(É,(ğ,Y,C,dx,Z,L)),fT eK @d Y (jc,Z,L),H1 Y=@u,ab _ Y @d,cI (kQ (K:=K)) Y aH @ļ,PE X e,(ee,Y,dY),{λq=>Y,λq=>Z},∀b o,Y->Z->(X,L),.inl ⟨Y,Z⟩,by rw[<-Y,Z],(Ţ,p,dx,Y,Z,L),(gq,Y,Z,let il:TS:=L;ύ),bA pQ,(ű,Y,_,Z,L,ύ),ah Y p (Ð,Z),bY Y λu s1=>Z,aA (a9,Y,Z),(ð,d,Y),pX C Y p u f ds,Y<r.length,(A,nV Y x),λσ H Q=>t σ H Y,aU Y _ Z @d,ah H d,(ð,Y,@Ð),(û,p,Y),(Â,Y,["row",Z],L),.cons Y @á,(ao,Y,@rJ),Dp K H,gE @Ğ X.w,(bP n).map Y,ag (λe=>Y),ak.of (h.1 _ _ Y),Y=some x,Y=some k,(K,Y,(ý,Z,L)),by exact Y=_;rw[ag Z],k _ _,dS (λz=>Y),aY Y (î,Z),(d,Y,hn),(Æ,Y,k,Z),Q (ď,Y) H,(þ,(Ĝ,Y,Z,L),ύ),by let:=Y;rw[Z]at this;show this,(Ĝ,1,Y,Z),(É,(Ĩ,Y)),vs=[Y,Z,L]/\ύ/\ώ/\Ϗ/\ϐ,(Ò,Y=n),(bS,(jI,Y),Z,L,ύ),(ĉ,Y,Z,[]),lE Q d.cl,∀H',(ë,Y,@r0,@c'),zQ @d @d Y Z L _,(Ju,8,Y),bL Y @g? Z L (Ċ,ύ),(?_:(Y:TS) _ _ _),placeOf r,cD (Ċ,Y),{fw,λz hz=>Y},_,f6 _ @d Y @d,(ĺ,a,Y),(ë,@Í,Y,Z),(cd q Y).no,ah H Y o,onRow S q,bA iy Y aH,(gj,i,Y),placeOf Y no,(ō,Y,aH),.Call Y Z [] pos,(Ğ,_,@d,Y),(jh,dx,Y),(Ê,bB,Y),D.nx σ,(ef,ge,Y,aq),show Y from ml.2 Z,[Y,Z,"place",L],oU (kh Y),(õ,Y,(ĸ,Z),L),(È,Y,[Z],2,L),show Y by decide,(cd r Y).no,qC _ @d Y @d,kz (qw Y (rn Z)),by rw[Y];simp_all,(È,Y,["row",Z],L,ύ),Sg n U i,.int (ñ,Y),!(E,Y,Z),Gen n Y h,by exact Y=_;rw[aj Z],zs++[(Y,Z)],eP (a?,Y,Z),if Y<0 then Z else L,Y=@Ï,cD (Ď,aH,Y),(.inl Y:a_),ki X (zh Y),(Y,p)::r,_,ij t Y p,rC P w K,λz=>hc Y,by rw[Y,Z,L];rfl,(ĝ,wC,Y,Z),vs=@ch/\Y/\Z/\L/\ύ,ij t Y @ĉ,s7 _ _,rh n S Y U F,dw Y @Ó,Y=@u/\Z,R.wid _,(u,Y,e),(R,(b2,hp,Y,Z)),(Â,1,[Y,Z],L),aF (eT e Y),q0 Y D Z ?_,(ŵ,Y,Z,L,gn @Ð,ύ,ώ,Ϗ),(jH,Y,e9 x),Dw K H,(c',Y,@C,@e,Z),qF C Y d r t c,s9 _ _,ye Y h0,Y=some j,(d,aw,Y),(X,s.heap.get? Y),(á,H1 Y,Z),(Ê,uQ,Y),mg Y=some (.ref Z),sg n d K u,V.int (told Y),aq (H:=H2) (a:=Y) (o:=Z),HO.lst.inj (cM Y),(j7 (j7 Y).1).1,{@bA,Y},bx K Y Z L f0 fd,_,(C,Y,hp),ax (sn _ Y) aP,by let:=Y;rwa[Z]at this,(Ī,n,Y),∀k,k<n->Y,(aC,Y,Z,L,aA ύ),(bi,1,Y,Z),σ=Y/\@Í/\Z/\L/\ύ,aL (o:=Y) hs hT,sG K H Y ss,CL a _ @d,Ki hp (bY Y Z),Fc @jn Y Z L @d,(λe=>by rw[Ţ,Y];cases h),GL _ Y _ ?_ ?_ _ _,Inv X @Æ,List (List Y),(ĝ,cW,Y,Z),g.stay D Y (aL Z hz),.int Y t,let cC:TS:=Y;Z,Y<@Ú,λ_ _ _ _ _=>(jc,Y,Z),Y=some c,Pv Y σ H,Y%r.length,jV (top Y),IL K H a,jS I q,fQ h w,iA (j:=Y) @d,(a3,Y,.int Z),bU @d? Y (je,Z) ?_,aX q m b _ _ @d Y TP.cl Z @d,(đ,Y,(cL,fg Z)),l5 ?_<|l5 ?_<|Y,bY Y λv s1=>Z,gk @ŧ 0,jR Y @d _ @d,(walk h Y Z).1,l.getD Y 0,qy Y _ @d Z @d (qx _ _ @d L),.claim k,Y≠@u,ah H p,decide ((v,Y)>Z),Nat->Nat->Y,["self",Y,Z],Y->Z->Option L,(c7,(ĸ,Y),Z,L),eX Y l hs,di p cl g H,[V.ref Y],(a',(cU,Y)),(Ĭ,a,Y),Y/\(∀q,Z=@fj->L),aL (o:=Y) Z L _ _,decide (Y=0),GoodG n,cO (cO Y),I.pin p,_,_,.BoolOp Y Z pos,.Subscript Y Z pos,by cases x;show Y,(ba,Y,ak.of Z,L,ύ),(b4,@m5,Y),eR Y Z ?_ (Ć,L) ?_,xR @jn Y Z @ļ,∀x c,@rN->Y,(d,Y,q),(K,q,Y),(K,H.len,Y),(đ,(bX,Y),Z),λz=>@Ā==Y,dg (cM,(c3,Y)),(gz,(jJ,Y),Z,L,ύ,ώ,Ϗ),Y=some v,x=@Î/\Y/\Z,n0 Y @d _ @d,IsNestKey knd Y Z a,(Jp,⟨ms,Y⟩,Z,AL kZ),A_ (i:=Y) @d Z @d @d @d (own:=L) ύ (gG @d) ώ Ϗ (λ_ _ _ _ _=>ϐ),absurd Y @A,de Y env,_M.tK _,∃zs:(ţ,Y),Z,(c z Y).1,by rw[Y,Z]at h;show L,X.mg Y=@u,Q (.int Y) H,(a9,@ç,Y),xI n i S,xD (Į,Y),ag (λq=>Y),λb o h hb=>(jU,Y),by simpa using Y,(d,hk,Y),(á,(ř,Y,Z,L,ύ),ώ),(Ñ,Y,?_),g.stay D ge,(al,.frz o Y),(ÿ,Y,(Ń,Z,L,Pz,ύ,ώ)),by rw[<-Y];simp,aF (eT hb Y),(jm,(ď,Y)),∀H',(ë,Y,Z,@ŕ),walk h Y t,(ĝ,lV,Y,fg Z),(V,Y,[Z],[]),(jW,Y,Z,L,ύ,let vO:TS:=ώ;Ϗ),oW Y Z (some L)=ύ,xV P w K mg @ĝ Y C,(Jz,λx H1=>Y),Y=some @ť\/Z=some @an,xL P w K tg Y [it] it (λi h=>Z),¬Y=@o,dS some,Gen.comp v,∀l:@ß,Y,lift (m1:=Y) Z ?_,(Y++Z).map @ê,λ_ H Q=>Q Y H,bv λp cl g n r t=>Y,bv (pX,Y),(u,Y,H.len),(ť,ur,Y,Z),(Þ,(o,Y),Z),(er,Y,(c1,Z)),vs=[@ã]/\Y/\Z,(ez,Y,Z,_,L),by exact Y=Z;rw[L],(aG,(c!,Y,Z)),∀H',(ë,Y,@hs,@c'),(pK,(ł,Y)),(g5,(Ä,Y)),∀h,h∈Y↔Z,(p1,(ó,p,Y)),_M.zF ?_ (λh=>Y),by let:=(Ř,Y);simpa using this,(JK,λσ H'=>Y,Z,L),kM Y (hr.isHand hn),_,lQ (gI,Y) @ô,K.lookup f=some {W,od,.func Y,vE},by exact Y;decide,{cls:=.type Y,data:=Z},t.getD Y 0,(ċ,au,Y),! m.contains Y,(gb,Y<=bq),(gc,"list",Y),let dr:TS:=Y;Z,(a3,(ď,Y),Z),jh (own:=Y) @d Z L (gG @d) ύ ώ (λ_ _ _ _ _=>Ϗ),ax (Ļ,Y) aP,U.getD Y [],(é,_,_,Y,Z,L,ύ),jE _ @d _ @d Y @d,kj Y @ž Z (Ċ,L),(gi,Y,let fj:TS:=Z;L),∃m',m'<m/\Y,{s with heap:=h',toks:=Y},(ĥ,Y,@đ),(ľ,(Ð,Y)),∀p,Y->Q @ã Z,.Attribute Y Z apos,(a3,Y,@ſ),(E,D.1,Y),fT eK @d Y (I8,Z,L,ύ,ώ),_L.Inv X @Æ σ,(at_ h Y).2,@ď≠Y,(ï,H',Y),bC Y @d (jg,Z),(Ã,a,Y,@Ì,Z,L,ύ),(jA,Y,@bu),mJ Y v os,(g8 Y n).reverse,bY Y λu s2=>Z,kf n Y Z=some L,(ĝ,lV,Y,aH),(ĝ,lB,Y,aH),(cI,wF,B.abs,zj,Y),(r.getD Y @mQ).no,(fZ Y Z).take k,λz:aa×Y=>Z,(C,Y,a),(ŀ,D,_,Y,Z),te σ H,EP X @Æ σ Q,wA Y (ve Z),@Bz=some Y,(ĝ,lB,Y,Z),(ů,Y,(ĸ,Z),1,L),(as,@e,Y),λx=>x.1==Y,(c8,Y,"row",Z),(ex,Y,(jy,?_)),(ps,Y,@o),if Y then 1 else 0,∀(H':Hp)(q:aa),(cQ,(Û,q,Y),@ĥ),ua C Y p cl g n G t0,absurd Y @Ó,.card k,H2 Y=some Z,iP n Y Z p=@o,show Y=Z by simp+arith[*],(ů,Y,(ĸ,Z),2,L),(Ľ,p,(Ð,Y)),(c4,Y,(bY,@e,@C)),∀m,m<n->Y=Z,(Jo,Y,Z,L,λi σ H' _=>ύ),(jE,Y,B.list,B_,Z),xM (lo:=Y) (n:=Z) Pz L ?_ ?_,Gives C d c H Y Q,X.s_0.heap.objs.size<=Y,λe=>hc Y,∀s',Y->Q Z s',λ_ _ _ _ _=>(I8,Y,Z,L,ύ),∃v:@Ñ,Y,(d,Y,hx),(Ľ,d,(Ð,Y)),∀b o,(X,Y)->Z,λi H'=>@bs/\Y,(a hk Y).1 hx,aU Y H @fm @c? q,∀(H':Hp)(p:aa),(JC,Y),(d,Y,hz),by exact Y;omega,Kp own H,Q (.bool Y) s,(gL,(Ĥ,Y)),oT @Ū _ Y @d,by rw[<-Y,<-Z,aw],PE X (cY,@hl,@cd),bn @ei X.A Y Z X.xe,(I6,Y,Q,E),∃ys,(a_,ys)/\@aD=Y/\Z,show gE @Ğ X.w H @ä Y Z from(bc,L,ύ),Y=r.length,bU @d,((bP n).map Y).sum,∀i∈Y,i<n,.int Y @Ĝ,∃σ' H',@B3/\Y,.bl (! Y),Ib (id Y),aA (cv Y Z L),by rw[x,Y,Z];show L,(d,Y,g),(d,Y,e2),bd Y @ž (ac Z (ac L (Ď,ύ,ώ))),(u,aw,Y),(á,Y,(Ų,Z)),(ð,Y,@Á),(Â,2,[Y,Z],L),by rw[Y,Z];simp,(bV,(e4,Y,Z)),ab o N,(pv,(b6,Y,Z,b)),∀Q':VK,Q' Y H->Z,(Jg,bv λI J cs ss W x=>Y),(g6,H',Y),aA (dh,y,Y),(JF,old,Y),mR.1 Y i @C,(İ,xs,Y,v),∀i x,i<n->@fG->Y,λH4 h4=>(e3,_,h4 _ _ Y,Z),(ž,ah Y d (Ð,Z) d,L),hb @Æ s1 σ H1 Y O q1,@Ú<=Y,Y<=@Ã,Y<=@Ï,absurd Y @fJ,(bP m).map Y,some (HO.lst Y),zA (l:=[]),_,Ol @ä,_,tF Y Z λ_ _ x=>x,Ug .Lt,ak.of (ad,Y),((Y:Int)).toNat,bv λp u f l ds U=>Y,aq (H:=H1) (a:=Y) (o:=Z),i.trans ((yg Y).2 e),_,_M.settle @hv,oO n Y Z=some L,by ext pins s σ H Q I h;show Y,(d,Y,jP),(d,Y,fc Z),(Č,Y,Z,(à,L)),(Č,Y,Z,(ħ,L,ύ)),af H (Ù,Y,Z,L),(Ĝ,4,Y,Z),(u,aq,Y),(h,"__init__",Y,Z),(Ť,Y,(b8,Z,L)),(đ,(eO,Y),Z),(Þ,Y,(o,Z)),(a9,@R,Y),iq h Y=@o,(en,81,Y),(Ā,(Ŕ,Y),Z),(jF,Y,Z,L,@auF),vs=[@ã,Y]/\Z/\L,(bu,"row",Y),jQ @c1 s,(ce,Y,"other",Z),{mv,.amount Y,@đ},vo C H' p cl g n,by exact@a3<Y;simp[*],(j0,r,(Ũ,Y,Z)),bn @hg A Y Z @auH,if Y=0 then Z else(P,L,1,ύ,ώ),k Y @A _,@Ï<=bq/\Y,[@Ě,@ū,Y,Z],{λh=>Y,λh=>Z},(kp,@fB,Y),aU Y Z @d (ak.of L) ?_,¬Y->@jM,(ÿ,Y,(he,0,Z,L)),(eR,.lst Y,@ĩ,Z,L),(e!,@Ð,Y,Z,L,ύ,aA ώ),(JP,"reading",Y),(JU,Y,@e),_M.iS n @B? (fu Y),(cI,Lp @d,B.sum,ON,Y),(J0,Y,(Ý,Z)),∀(o:@h)(s:@Ō),Y,λσ H R=>ta σ H λvs H1=>Y,T8 (zI I hg hm Y (GS (kl,@aun) Z L)),(kn,gB,hl,Y),(qd,vp H' q Y),yes Y ?_ H' M _ _ _ R' Z L ύ @ì o',∃c,c<2/\Y,(É,(ğ,p,C,l,Y,(et,Z,L))),Un fs ex H Y h,ba (K:=K) Y @d,b8 (i:=Y) Z @d @Bs @Bs,Y->Hp->(ú,Z),(gb,Y<1000),restOf U 0,{_,ak.of Y},(Ŏ,p,Y,_,Z),(by rw[Y]at q;cases q),λy=>y !=Y,Y->(Å,Hp,VK),.Name x,∀H',@Í->Q Y H',left.filter (jj,Y),bn (bV @ţ w) A Y Z E s,aX p CR u _ _ @d hp l.cl Y @d,(at_ h Y).1,(r.getD Y @mQ).up,λhc=>absurd Y Z,(gc,Y,.fields Z),(Ţ,d,dx,Y,@jj,Z),im @d Y @d? Z (je,L) ?_,(gh,.seq Y),λp=>(@mS||Y==Z)&&L,cw λx H1 O G q1=>Y,(bR σ vs).set slot,(ť,Y,@K,Z),eW Y ps h,(ef,Y,s1,(Ê,aq,e)),(Y:au).cps.toList,pJ Y @g? Z L (Ċ,ύ),(pm,Y,j H,Z,@Bx/\∀x H',L->ύ),(Ü,Y,"deck","numbers",Z),∀c,c∈Y↔c∈Z,tQ @d B.range (Ċ,Y),tT @d B.enumerate (Ċ,Y),(C,eT Y Z,L),(ō,@Ð,Y),IL K H b,Hp->(Å,aa,Y),(gc,"tuple",.seq Y),uM Y Z (vk L) (tV ύ) (bt ώ) @Ť kV M pm z a7 ct,(ev,(c6,Y),Z),(b1,Y,aw),∀c∈Y,@mT,S.words.map (du Y),(C,hb,Y),by let:=Y;simp_all,(b3,Y,Z,L,let nG:TS:=ύ;ώ),uI r y.1,uU n r q,pR C k H,.inl (ğ,[],_,Y,@d,Z),decide (i<Y),@q7∈Y,λx=>(⟨x.1,Y⟩:dX),if Y<=1 then Z else L,V.int (Y%2),.dT (nj Y),{sI,λz hz=>Y},Sg n U 0,(gt,aY mv Y),tS (tY (K:=K)) Y (ng Z),rB Y Z @cq L @e hD ύ @ę @rL ώ λH1 s1 u=>?_,r.drop Y++r.take Z,(mh n S).drop Y,o.getD Y 0,ItemsNest knd,CN (I.lstM Y),vs=@ch/\Y/\Z,(ef,Y,s1,aq),(Ü,Y,"deck","text",Z),(a4,Y)=[(@Å,Z)],(bd,Y,@K),(da,Y,"other",Z,L),I.base.free b o,∀C,@BC->Q Y C,bY (Jj,s,H,I) λus s1=>cw Y,λz m=>⟨Y,Z⟩,by rw[Y,<-Z];show L,by rw[Y];decide+kernel,(Õ,Y,"self",Z),cQ r (fZ Y p),(es,Y,yc Z),_,(c5,"row",Y,Z),(er,0,(c1,Y)),(ŧ,Y)->(Ĉ,b,Z),TabAt Y d l,(bg,Y,@mV,Z,λx H' y=>?_),te (jz,Y) H' Q,(bf,@î,@cp,Y,Z,L),(ĉ,Y,z,@bv),∃z,(H,Y,z)/\Z=L,show gE P w H h a Y from Z,Y<=r.length,λh=>(ŭ,Y),(d,_M.iF Y,Z),(ŧ,.tup Y),(pg,(ĵ,Y)),(gK,⟨S,Y,W⟩,Z,L),(eP,rm @d @d Y Z L @d ύ),qu n m i @å l,vo C H p cl g n,(js,bN Y,hc),(py,s,H,I,h,Y),absurd @d,aY (back Y),l.map λz=>Y,(b7 q).drop Y,done Y (å,Z),λ_ _ _ _ _=>Ig Y,mV.cons R,(sb.2 _ Y).trans Z,by rw[<-Y];rfl,show Y=Z by simp,(ah,(cY,Y,Z)),(Ŏ,Y,_,_,Z),(es,Y,(ñ,Z)),(ç,p,C,Y,_,(jv,Z,@jh,L)),(ź,Y,@fE),(gT,λx H1=>Y),(gU,Y,s'),(b5,_,@d,Y,Z),@V->@aup->(ao,Y,Z),.inl (aU kvs Y (.inl Z) @d L),(j',Y,Z,L,ha,λi z H' Q _ _ q=>ύ),(p9,b.refusal,Y),EV ((tO T hi).1 Y),(hs.2 b (pU,Y)).trans Z,_M.place_lt Y b1 b2,_M.zm _ O,(a d Y).2 e,Ow K a7 Y=@o,xy K @ck Y=some (T,f),wx n i S x Y R W,∀no∈m,@BG=eQ Y no/\cU p no=((cW,Z)%2==0),.inr (Ì,Y),λx=>(ď,Y),some (Y::st),(bQ n).map Y,(o.zip Y).map (j3,Z),(h.map (au,Y)).sum,_,∃ps:@Ë,Y,rI Y λi j=>.int Z,(Y::Z).map @é,Ld Y (Lc Z L Ll),zs.map λz=>Y,∀z∈zs,Y/\Z,Y=some @fc,(d,Y,hc),by rw[Y];decide,show Y by simp_all,(H,Y,z.2),PE X Y (λσ H Q=>Z),(É,(e1,Y,Z,L,ύ)),Q (.str Y) H,(ee,Y,fg Z),(ō,@ç,Y),(Ą,@bA,Y),by exact Y=_;rw[Z,L],(Ĕ,(Ĕ,Y)),bU @d Y Z ?_,PA X Y ta,walk h x,(c4,Y,(bY,@Ä,@C)),(gA,H1,Y),(b5 r Y+c+Z)%2==1,cuts n Y l,wL K H xs,(gv,@a7,(eF,Y)),{λe=>Y,λe=>Z},(ä,@bv,Y,hz),(V,Y,0,1),(Ĉ,p,(Ð,Y)),aU Y H I @d q,(ha,(bq,(v,Y),Z,L,ύ)),bn M A Y Q E s,(jF,Y,Z,L,mw slot x @aG H' @B4),(@å)[Y]'@e,PS X (.Assign [Y] Z pos),(hb,(cd Y m).no,@B_),_,10*Y+(d-48),({S with row:=some Y},Z),oJ Y @i! acc,λvs H Q _=>∃(a b:aa)(r q:eG)(n:Nat),(kz,@B!,Y,Z),j4 S g Y []=some Z,E4 (s:=@fr) e c Y @Ó (qf,Z,L,ύ,ώ),Y+@Ã,@Ã<=Y,.inr (.inl Y),.inr (À,Y),(at_ Y x.1).2,(bP Y).flatMap λi=>Z,(bP i).map Y,if Y then Z else i,bE.2 (bU,Y),l.find? (g0,Y),∀(l:@h),Y,ag (λh=>Y),(walk h Y Z).2,(cd r Y).up,EH (Pp h),(gZ Y).headD 0,∀k i,@nf->∀h,Y,(rk Y q).length,.cons r,bg (tF Y Z λ_ _ h'=>h'),ah Y Z (.tup L),.tup (Ä,Y),∀b,@ŋ->Y,{s with heap:=s.heap.push Y},Ql λ_ _ _ _ _ _ _ q=>Y,ajg Y @Å,(tI k Y).flatten,aL hs,ak.of (Í,Y),_,bv λrf I J tm ms M=>Y,aq (H:=H3) (a:=Y) (o:=Z),∀j∈Y,j<n,CB (Ly @jn Y Z),(jo Y).map @é,tj Y r q=@o,(d,dt.1 Y,Z),(d,J.len,Y),(d,Y,@ĳ),ab _ Y (λv q=>nomatch q),fs.lookup Y=@u,(ï,Y,{s with heap:=Z}),_,_,(ï,Y,@BY),by rw[aw,Y];omega,(V,Y,Z,"wrong"),(jd,St,Y),(ť,Y,@Á,Z),bA E5 Y aH,(Â,3,[Y],Z),Kp @Bw H,Kp @BL H,(Y,Z)∈@i!,(jh,BI,Y),Sg n U Y h,(en,112,Y),(ep,dS not Y),(ī,(Î,Y)),(a',(Ĥ,Y)),{Y,@d3,W},(c0,(ez,hp,p,Y,dZ Z L ύ ώ Ϗ ϐ ϑ)),lE Q t.cl,(ev,(c!,Y,Z),L),¬Y="number",∀k,@Ŋ->Y,mF X @m4,(aw,Y,(b9,Z)),walk h @Ý,(P,Y,1,-Z,L),ak K Y a xs,(b8,@R,Y),_,(Ŵ,tX Y,@d,Z),(bv,"len",Y),jQ @c1 j,(V,Y,1,0),(dm,.Add,Y),(Jg,gQ Y),(gX,Y,@č),wQ Y _ @d Z L _ (Ŵ,cS.of ύ,@d,ώ),(kb,@ä,Y,Z),by clear m;rw[E,Y];show Z,(gv,@a7,(cd,Y)),(hh,(N c).2 Y),(hn,@auM,Y),{M,.amount Y,os},∀i,i<n->Y,_,PE X @r9 (tC Y),(ö,Y,H',hT),(kI,.claim,Y,Z),G3 Y @jX Z L ύ (À,e),ID Y @ž @Ð,AZ k Y=@o,(qp,aD Y),(bZ,b≠Y,@cx,Z),fM Y _ @d (b0,ak.of Z,L),{λi H=>Y,(J6,Z),λi H=>L},E9 Y Z _ _ @d @d L ύ ?_,∃m,m<n/\Y,KR G hm,∀us:@X,@gY=Y->p us,(á,(b6,Y,Z,L),[]),Y/\@i6=@fu/\Z,pG n m Y=some m',(tO T hi).2 (HI Y Z L ύ ώ ?_),Inv X Y σ H s,let Pz:Y->@aF:=Z;Md Pz (λx=>L) ύ ώ ?_,mn {ss,.claim,W},(r[Y]'@C).up,bY Y λus s2=>cw Z,(GQ Y @Ĉ).map @Ĥ,Qh @d B.range,_M.walk h @Ý,λQ' q=>(kH,(e6,Y)),(λa h m _ q=>by clear m;rw[E,@sc];rw[q,Y]at dG;cases dG),(t+Y+@b5)%2=0,(eK,"word","word",Y),(eK,"piece","piece",Y),(dk,(qv,kh Y)),{Y,aq,@d,λz mz=>by cases dt.1 mz;show⟨Z,L⟩},dv Y Z=(J8,L,@mR),di p cl g H1,(qx,_,@d,Y),B7 @hg A Y R,(Uj _ _ (tD hb)).trans Y,(by calc h1 _ Y;cases a with|true=>show dg Z|false=>show dH L),{λσ' H'=>Y,?_,?_},(P,c,41,Y,@u),e4 i @Ž Y @Å,∀(kV M pm:ai)(z:@aP)(a7 ct:ai)(us:@X),(Kk,Y),QJ @d B.zip (Ď,Y,Z),(jE,Qu,B.tuple,ajJ,Y),(qs,zR zs Y b (λz mz=>{Z,@Ct})),by funext z;exact(E,Y,Z)=_;rw[Ô];rw[cG,gy];show L,PE X (cY,@BZ,Y) (Qo C m sp Z L ta ύ),{Y,by exact(b7 Z).Perm _;rw[L];show ύ},(u,yo _ Y,yo _ Z),aU Y _ Z gA (λod=>?_),(@Ý,@Õ)∈Y,(bR,p,O,bU @d? Y @CG ?_),{Y,Z,@mm,L,I.sorted},(ŀ,Y,_,Z,(À,(qZ,lX))),H'=H/\(hk,σ=[Y,(ê,Z),v]),(ck,h3 Y @C (la,Z)),(hi,@sA,.bool Y),gE P w H (h.push @m6) @c2,iA @d (ds,bB,Fi,Y),PE X (.Constant Y j pos) (tC Z),(è,3,Y,Z,L,(à,@Á)),{⟨dx,Y⟩,?_,?_,Z},(bt,Y,@Ð,@R,@Á),(qk,@aF,@auA,Y,Z,@aF,L),(qk,@aN,@auA,Y,Z,@aN,L),[kc (qU,Y),kc (qX,Z)],by subst z;rw[Y]at j;show j,(E,Y,Z)=(i==j),(qe,G,EJ l2/\∃l1,(qw,Y,Z),G,L,ύ),(Â,7,["text","size"],Y),(bA,["row","other",Y,Z],"other",L),{I.ok,I.os,@b_,Y,@i9,@rb,Z,L,ύ,ώ,I.len},u_ Y (H _) Z L ([]) ύ (KJ,@A),⟨Y,o,n,hv,Z,hc,L⟩,(Le,@jF,Y,λH' hs hm=>Z),if@bD then Y++(dv,Z)else[],∀c,oh n c->gM n c=Y->Z,λq=>hd _ (e7,Y),λq=>hD _ (e7,Y),(g Y).flatMap λx=>(AD (m.map g)).map @au4,∀l,(Á,l)->Q @ē Y,λrest r s'=>r.1=@u/\s'=s/\Y,rw (ĝ,E6,@K,fg G.RIGHT),aa_ @d B.reversed (Ċ,Y),abx @d B.list B.reversed,λc o hc hh=>(jK,hh,hW,Y),be P w K mg @ĝ CX Y Z fd ps sp,aU Y H1 O @d q1,Y/\(∀q,Z=@fj->(oj L ύ ώ t).2=@jO),ha @Æ s1 σ H1 Y O,(ca,@ŕ,(rh,Y,@A,Z),q),(lc n m n 0 @ô Y).2,(fe,4,Y,[(Z,3)],L,(ej,3,ύ),@hb,ώ),(if(ei,UA)then@Cr else axg S x f)=Y,(a8,λj σ H'=>Y,(Ń,Z,@Ķ,Pz,fH L @u @d ύ,λj σ H' _ h=>ώ)),[@Ě,@el,(T,g),(Ï,Y),Z,L,ύ,ώ,v8],eR Y @A @ð @jA aq,Vw (n:=n) (e:=e) (S:=S) (k:=Y) (cs:=Z) (W:=W),T.obj _ _ Y b hb,F.len _ _ _ _,λH' p s st e=>C5 Y (u,e,Z) (ø,L) @C0,(@jr/\Y=-7)\/(@hC/\(Z\/∃q,L=@fj/\ύ=@jO)),(Ã,p2,_,_,aq,@au',(aJ,Y)),{fM dx mv Y Z,L,ύ,R.ne,@cc,ώ,Ϗ,R.h0,R.hn,ϐ},(uZ S g s st).bind (j4 S g Y),(KK,Y,(@nO,p')::a,(Ld,Z,yX k::qV w')),∀q,@Ø->@av->@ŧ=o->@a!=p->Y,λi m H=>m=Y/\i<=Z/\af H1 H/\(ã,D,L),dZ p cl g n _ _,(qE,l1,M,(é,_,os,@sP,m1,Y,@CZ)),(K7,∃N:Y,(Jl,Z)/\(po,N,N,σ,H1),(c2,H1)),Mid C H l d c g,U2 hn (B:=f) (a:=Y) (λk w=>@d) i (λk hk=>Z) r @e,["enumerate","zip","dict_itemiterator","dict_reverseitemiterator","odict_iterator","itertools.zip_longest","itertools.pairwise"].contains Y,awx @C6 @avK awy awz awA awB (awC _ _),[@ac,@sB,@el,@jK,Y,N,v6,v7],[@Ě,@cA,@ac,@bF,(T,N),(T,T),v6,Y,Z,@u],ng aH @Æ s σ H Q I (Ñ,Y,q),Vf (n:=n) hm n 0 @ô l (iR n) @e (KS n),t q f g v i y b hy hb (iW.1 Y),(cI,Y,B.len,cx,Z),∃t,mg Y=some Z,(Ą,@d,Y),(Y,@Å,@Å),(cd Y m).up,ak.of (Ĺ,Y),(ek,X.env.cells.lookup Y),(ju,hd,Y),∃W:Nat->@fl,(∃m,W 0 m @at2)/\∀i m H,W i m H->(Y/\Z)\/(L/\∃F:@ec,ύ),iP n @Q Y p,tb {D with nx:=Y,ct:=Z,bk:=D.nx},bn (bV @Ğ X.w) A Y Z L s,if Y then Z else@u,I.turned (t':=@Ĝ) Y f0 f1 M j G,(cd r Y).turned Z,(cK,(cR,Y)),ak K H1 a,(bZ,@co,@bz,Y),xA bz Y Z @Ĉ,(@Å,@he)::Y,bY (hi @Æ Y σ Z _ L ύ),(È,Y,["text",Z],L,ύ),eR (Y-@Q) @e @d bK,(Ô,g_,aw,Y),GoodR n i S,ha @Æ s σ H Y I h,(cd Y i).up,(A,(mP Y Z).any @ê),(ĩ,Y,"size",Z),j5 r m Y p,xz K Y=@o,λD=>(gy,Y),∀H',@bs->Y->j H',λh' S=>(Ì,Y),.dT (jU kvs Y Z),ak.of (ġ,Y),ck Y (.ref Z) (ck L ύ ώ),aF (eT h Y),(js,@Ī,Y),j5 r m ns,∀(s:aK)(H:Hp)(C:aa)(cl:@Ś)(B:@Ë),Y,xs.map λx=>Y,jD (qe @Ľ Y),λv z=>(Ji,Y),{cls:=@m4,dict:=Y,data:=Z,slots:=L},λp mo v n sv rf=>bv λI J tm ms M os=>Y,(_M.settle 1 Y Z).1,(cV,.int Y),(sb.2 b hb).trans Y,∀(H':Hp)(p:aa),(cQ,Y,@ã),_,_,_,_,(Â,Y,ps,sp),_,_,aX p j u _ _ @d hp b.cl Y @d,(pz,Y,"size",7,Z),@Ă<=bq/\@BJ/\Y,CM fC Ca Cb CQ,(dv kvs Y).isSome,((nL Y).map @é).length,{mv,.bracket Y,@đ},(gQ,Y,@br),∀(H':Hp)(q:aa),(cQ,Y,@ĥ),(eQ,(Jv,Y,Z),L,qr n e @q4 ύ ώ q),c_ Y H O Z L ύ (λb hb=>@aui),h @Æ s σ H Y Z hw,(ç,r,a,q,@bx,(ò,@Ì,Y,(d,e3,Z),L,ύ,ώ)),Ex j Y @Ò f,((bR σ vs).set s1 Y).set s2,∃W:(eH,Y),(∃m,Z)/\∀i m σ H,W i m σ H->(L/\@BB)\/(ύ/\∃N:ώ,(Jl,(gr,W @Q m' σ' H'))/\∀x H',Ϗ->g x σ H' λI H2=>(po,N,N,I,H2)),placeOf Y 1,cs.getD Y [],(K w.params).In Y,FA Y Z @mM,(S,[0,dU Y]),(jQ,Y,G.NO_ROW),aU Y H I @d,by clear m;rw[Ë,@mY];show Y,vx Y u ds U,Ej @fA q m,rw Y aH aH,Y=@eq/\(Ż,Z,l1,(j9,@fk)),Ip Y _ @d Z _ @d,place_lt Y b1 b2,∀p∈X.pn++@Æ,Y,(iI t p Y).kind,Int->Int->Y,j Y _ q (λ_ _ z=>nomatch z),(gS,Y,jI Z L st' _ _ _ (Ą,?_,M)),dZ p mo v Y n sv (dZ rf I J tm ms Z L),@Ļ+Y,dw I.ok.bsz,λa=>a≠Y,some (.str Y),hg.mono λg hg=>Y,Ee (Ef.1 Y),placeOf q,λd=>(E,d,Y),∀p,p∈Y↔Z,∀c∈m,c∈Y,call (.builtin Y),A7 λi j=>.bl Y,(s1.trans s2).seq Y,(p.map @ê).contains Y,yt Y (λx hx=>Z),(v,((@hj)[Y]).1),ah H @Ò,bC Y @d @d,(ñ,((@hj)[Y]).2),by clear h;rw[Ë,Y];show Z,(aa,Y,@ĳ),(bk,Y,@R),(aH,@auB,Y),{ss,(g8,Y),W},_,qu n m i @å cs,R (.ok (.ret (.bool Y))),@Í->(ë,Y,Z,@ĥ),(I.hok b Y e).stay Z,(gv,(bT,p),(ap,p,Y)),ir i @Ž,∀i σ H,@By->@fs->Y,∀H,Pv Y H->j H,λH' h=>hd H' h.1 Y,λvs H Q _=>∃(a:aa)(t:@h),Y,T_ K C Y=@o,(λe=>by rw[e,Y]at this;cases this),(b7,@rT,qA Y),(Ŷ,Y,@hh)&&(Ŷ,Z-L,@sj),wO _ _ @d @d Y _,Y==Z&&j.kind==@q',hv @Æ Y σ Z _,I.lset (its':=Y) M e Z L ?_,GV o Y @Ĉ (ah,o)=(ah,o),λD=>(P,D.1,k,(D.1,Y),D),LA (tk:=s1.toks) O _ Y Z q,@Ï=Y,Y=@b!,@gX<=Y,λe=>(ŭ,Y),λz=>absurd z Y,∀no,@bL->@bK->Y,left.find? (λx=>! Y),∀p∈l,@Ď/\(g_,Y,Z),cw λy H2 I2 r2 q2=>Y,{s with heap:=s.heap.push Y,toks:=Z},λys hy=>(hl,Y),O.kept (t':=s1.toks),{nx:=Y,rt:=Q},∀y∈bz.names,y.2=@an->Y,ak.of (K:=X.K),((cg Y).map @é).length,bv λp mo v q n sv=>Y,_,λq xs h e=>(JX,Y),show Y by omega(config:={}),_,(A,HT.lexLt Y Z),(K,G.len,Y),_,(ō,@Ć,Y),-(2^64)<Y/\Z,(bh,Y,aH),(pr,λb ob hb e=>Y),by delta done;rw[aw,Y],aU Y H I Z h,cN N A H' p,(ı,@d,Y,@d,Z),(hq,.int Y),∀p,@a7->Y,q0 H' D hs,_,Hw H h2,(j_,@Ð,Y,ng Z),(Y+(@au9+s)%2)%2,if@Ċ then[]else Y,(J7,@gY=Y->Kk s fd @jz Z),(Ã,@u,@u,Y,Z,L,ύ),q0 _ p Y ?_,some {@gV,Y,@c0},by ext pins s σ H Q I h;calc Y;subst ex;rw[Ĝ];show Z,∀t,1<=t->Y->Z,∃c,x=.bl c/\Y,(b7 q).filter (Kh,Y),λc hc=>yI c Y,Em (λx_ J=>x_++J),(A5 Y H).get? b,EY ec Y (λz=>nomatch z),∀base:cH,Y->@au6->Z,∀(q:aa)(xs:@P),Y->q≠Z,(F++[r]).take Y,eP (gr fC ajK ajL Y Z (Ċ,L)),(λq=>by rw[q,Y]at h;cases h),(Ŷ,0,z)&&Y,(pW,@u,Y,#[]),PE X (eZ,e,.Slice Y Z L p2),Hr H Y h1 h2,∀b u,Y->(ū,Z)->@aua,Oq Y (some Z) @rd @Ĉ=pure @Å,HA u F a,λvs H Q _=>∃(a:aa)(r:eG)(n:Nat),(du,@cp,@T,Y,Z),_,λvs H Q _=>∃n:Nat,vs=[@aa]/\0<n/\Y,rf cl n Y g,(cI,Qw @d,B.all,ajG,Y),j4 i @Ž Y Z=some (L::st),(lc n m n 0 @ô Y).1,x=@ē/\vs=[Y]/\@ex/\Z/\L,(J?,a,@sC,Y,s5.seq ha),_,QV X sp Y xs m lt,bZ tt t u Y σ H,(py,s1,H1,O,q1,λF s2=>Y),Y=@q',Y=ms.length,qe (fL Y),λe=>e▸Y,λh=>hm Y,λh=>h3 Y,Gen.mul hg,if u=0 then Y else Z,∃x,(cm,Y),∀(k i:Nat),@nf->∀h,Y,Gen.mem v,λhg=>(qJ,Y),(UP Y aD).sum_nat,l.getD Y [],(Y++ds).length,(done @ś Y).length,qr.ahead (l1:=Y) Z (EI (l:=[]) L),λm=>aD Y,∀(o:@h)(i:Nat),Y,∀p:Profile,Y,(vd Y).Perm (vd g),(U.getD Y []).find? Z,Gen.back v,ws.map (du Y),ItemsNest h,P (.done (.ret (.bool Y))),∃(aG:@X)(n:Nat),Y,s.heap.FunFrames @b9,{s with heap:=s.heap.update Y Z,toks:=L},λσ H Q=>to σ H Y,Kh Y @Ĉ,λσ' H'=>(Ĉ,d,@ng)/\Y,_,I.pins_of λp hp=>Y,A7 λi j=>.int Y,Qk λi j _ _ _ _ _ hc q=>Y,λxs H Q=>∃p ys,Y,∀fs:@Ŷ,Y,qk (λx_=>Y),(bR σ Y).length,∀kvs:@ah,Y,λv q=>(ji,Y),_,∀ns:@À,Y,ak.of (ą,Y),(s1.trans Y).trans s4,bv λst M X I J cs=>Y,Ux ((r.dropLast.take Y).map mj),∃dx,(gu,Y),aq (H:=H) (a:=Y) (o:=Z),aaB Y (ve Z),∀(H':Hp)(q:aa),(q6,Y,Z),(Bf z.2).take Y,(_M.settle Y Z W).1.length,((s.heap.push Y).push Z).get? L=some ύ,{Y,λq z=>?_},(hX Y).length+1,(d,iO,Y),(d,f.len,Y),(d,fB,Y),(d,Y,hj),(Č,Y,@dm,Z),by exact Y;simp[*],(gZ Y).length=n,PE X (.Tuple Y j Z),(u,hl,Y),(u,H.len,Y),(É,(q1,Y)),(C,g _ _ Y,Z),(C,Y,mf _ _ Z),by rw[Y,Z];omega,by rw[Y,cG,cG]at hc;omega,(V,Y==@avp,Z,L),(Ť,(eO,Y),Z),(Ť,Y,(þ,Z,L)),(Ñ,Y,.inr Z),(ð,Y,@R),g.stay D @d,(ħ,Y,@R),(Ũ,tX Y,Z),mg x=some Y,ax (bZ _ aR Y) aP,bU Y Z ?_ ?_,fK a Y=@o,(Ø,Y,@e),(a!,(Ľ,Y,o)),mF X (.type Y),(ex,@rT,Y),(ź,Y,@es),(ę,"size",Y),(Ň,(Ĩ,Y)),(aI,(C,Y,aq),Z,L),(dd,x,Y),(jM,nL Y),by let:=Y;rw[Z,L]at this;show this,(b?,λvs H1=>Y),_,(aO,(hw,Y),Z),(eV,uG _ Y),(a d Y).1 hx,PI X tg (cY,.Name Y p,Z),te (qj,Y,Z) H' Q,bU Y @e @e,_,R (.ok (.ret Y)),(gV,(bh,Y,dY),Z),(pK,cN N A H' D Y),(.inl Y,.str Z),bA iy Y @ç,bA xN Y @R,(by rw[Y]at h;cases h.2.2.1),by rw[<-Y];simp[Bk],(ho,cN N A H' D Y),cN @eu Y H l,∀a h,Mv Y a h->@em->Z,(hr,(Ų,Y)),(kF,Y,cJ _),(ew,(ew,l5 ?_<|Y)),ck f v ((k,x)::Y),(hC,@Ï,Y),decide Y&&@rP,settle b S,ax (Ļ,Y) aR,oO n Y x.1=@u,(k0,(dc,! Y),Z),(ŝ,.inr Y,1),(aL,5,Y,uc),by cases x;cases r;show{_,Y},by cases x;rw[Ĳ];show{_,Y},PW X (eY,.And,Y),PW X (eY,.Or,Y),λe=>by rw[Ţ,Y];show Z,∀x∈(gm,Y),x.1≠Z,{@n5,@d3,Y},(Ô,g,Y,tp),(gh,.seq #[] Y),(aC,@Ð,2,Y,Z),_,fH Y _ @d ?_,by cases h;cases r;show{_,Y},(cg,call Y us),bn @hg A Y Q E,cN Y kR H l xs,x=@Î/\y=@î/\Y/\sk Z b k/\L,(ax,w,fu Y,Z,w,fu L,ύ,@u),KC H Y t,(Ko,j<i->Y),(h Y (by simp[e9])).1,h.IsListIter Y a i,bJ @avz Y Z @nY,zT λa=>zT λb=>Y,qX K ke x=some Y,by rw[<-zb,bB,Y];rfl,ak K H1 b,(Ç,AX,H.len,Y),Kx l=Y++UC (ajR Hi Z L),(Ĳ,l,Y,?_),(bp,Y,(qQ,decide Z)),(b?,λc H1=>(V,c,Y,Z)),by ext wh pins s σ H Q I h;calc Y;rw[pN,Z,L],(kb,h,Y,vs),¬(xx Y:a_)=xx x,ER R h0 Y hi,(e9,@ç,(a?,Y,@K)),@Ŋ->@sX->WF n Y,∀ws,@Do=.ok ws->Y,G1 vY Y m x,G2 vY Y m x,(KT,aaY,Y),(KY,@Ð,Y),(K0,.amount Y),¬(kc Y:a_)=kc @fD,LK @d Y _ _ @d @d,Y=jG (g.map Z),(∃l1 x r m',Y)\/(∃m',Z/\q=L/\ύ),λz=>I.ok.exfs Y z Z,∃z∈old++Y,@Dl,λx:Nat×Nat=>Y,OY (O.of_gen @aM hi Y),∀u∈Y,u.1=a,λb=>j7 (H:=Y) (p:=Z) (o:=L) (b:=b),(ie o s).map Y,match Y with|none=>none|some f=>TZ g f,(U.getD Y []).map @ê,Paired Y n l₂,λo q=>k Y @A o q,I.base.tbls b ps,bY Y λf s1 q=>?_,.UnaryOp Y a pos,∀(i j:Int)(t u:Tok)(s:aK)(Q:@É)(E:@É),Y,λxs H Q=>∃(a:aa)(kvs:Y),xs=@ch/\Z/\L,∀{xs:@P}{us:@X},Y,λvs H Q=>(JM,vs=[@jS]/\Y/\Z),EY Y Z (by ext z;cases z),∃(f:aa)(fd:nY),@tb/\Y/\Z/\L,λH' h=>(pA,Y,h),λH=>af H1 H/\(ã,D,Y),(Km Y Z @u @sn).toList,∃ys,Y/\@aD=Z,_,Fs Y λa h=>h.1,Kp own H1,λb u e h1 h2 h3=>(C,Y,@Dp),adX Y Z @ci (λ_ Q' k=>?_),∀(W:@Ĕ)(S:@Č),Y,by calc dw Y ?_;rw[Z];show JZ L hn,(ç,p,C,Y,_,(ò,_,O,@d?,Z,@d,L)),∀k,(cn,Y)->@sW,(gR,(λq=>by rw[q,Y]at a;cases a)),@Ï+@aE<=bq/\Y,td σ H λx H1=>Y,(p',∃xs,Y/\h.DictOfH Z a xs),(gV,(am,A8,Y,aH),Z),dC _ @d @ũ @d D _,(kN,λF s1=>cw λy H1 O B q1=>(Kl,qA Y)),(q7,u,λc v hc q=>k c v ?_ q,Y,Z),(Ü,["text","size",Y],"text","size",Z),@hd=@Õ\/@hd∈Y,(ĥ,Y,(mv,tm)::@đ),(bx,n,R.h0,R.hn,Y),oG r a++oF Y (cQ r (oG r a)),(Ã,Y,Z,t,@ŭ,fO,aM L ύ (λH2 D j hj k2 g2 r2=>?_)),(k8,@é,ns,λz=>.int Y,(cO,z,@ao)),M _ _ _ _ Y @jB @nw,dZ n rf I J cs ss,∀w,W.head?=some w->gD w<Y,λk=>Gy @fA Y==some m,∃k b,k<n/\Y/\Z=b++[k],∀k b,k<n->Y->Cw Z @C9,λσ H Q=>ty σ H λy H1=>(Kg,Y),λD σ H=>tv σ H Y,awq (pl:=pl) (rc,Y) ht,h.IsKeyIter Y d i Z ep,(((zs.take Y).map @Ĥ).filter g).map f,let DT:TS:=ax _ vO;let NA:TS:=ax _ DT;let NB:TS:=Y;let NC:TS:=Z;L,match Y with|none=>(Ū,2)|some r=>({some r,[]},[0,dU r.length]),gr fC aji aw8 aaZ Y (Ċ,Z),⟨I.base.keep,I.base.slot,Y,I.base.there,Z,L,ύ⟩,{@aux,@aux,Y,λb o e hx=>?_,Z,L,ύ},(b0,Y,hd H hs ?_),(gF,ns,@fw,Y,@nC),(hd,abi @d,pJ abh @g? B.range T9 Y),(kC,Y,ok a _ e),([(aD,l),(ī,m),(aD,b),Y,(ī,Z)]:@fg),[@ac,(Ï,m),(T,g),(T,ld),Y],QB (K:=K) (a:=a) (xs:=@rW) Y Z @avw ?_,awP (λj D=>j++D) Y (tI Z @ò)=L,zp (p:=λx y=>Y) a b @Ó,∀i even,j4 i @Ž Y []=some [@awe],Dw.readsAll hok B ds _,λvs H Q _=>∃(a:aa)(t:@h)(n:Nat),(bf,@aa,@hx,∃o,@hM,@n3,Y),∀C p,@BC->N p->A C p Y->Q @ã C,(k6,Y,TP X @Æ σ Q),dZ sv rf _ _ tm ms,yj aq Y (by rw[kG,b.len];let:=O.hn;omega),∀n,(pz,"refusal_of","reader",6,RF K Y Z L),aaH ha hb I h λv u s2 x y H2 I2 J B q=>Y,λz H2=>∃b ks,y=@î/\Y/\(g9,p,Z)/\Q @ã (ah H2 p L),(xT d Y Z).yld i H x H',@Cf=Y/\0<=Z/\L<=@q9/\ύ/\t=rest.drop ώ,.inr (cj kvs (gb (Ħ,r)) pp (.inl k1) @d wZ Y),(jF,Y,Z,L,HV K 2 (CD (mw s1) (CD (mw s2) Qc)) x @aG H' ύ),[@ac,@cA,(Ï,c),@bF,(Ï,@ó),@u,@ū,(T,D2),Y,Z],N @Æ s2 σ H2 x y v u Y I2,Nat.sub_lt Y Nat.one_pos,Int.lt_of_le_of_lt Y g,Nat.sub_right_comm Y p,∀x∈l,x∈Y,λy=>y.1==Y,(bP @ü).map Y,λz=>(Ji,Y),some (.frz o Y),this.mono λg hg=>Y,((c Y).1 Z).isHand @awz,kN.2 {@C,Y},(bQ r.length).map Y,∀(d:@h)(r:Row),Y,U1 Y (wf.isHand hn),! ns.contains Y,∀(m:Nat){x:Row},@kK->Y->Z,∀(l l':@ß),Y,∀(m:Nat){r:Row},@T->Y->Z,∀p∈l,∃b,Y,λp hp=>(ff,Y),λp hp=>(r1,Y),λc hc=>_M.kN.2 Y,λb hb=>bX.mpr Y,∀(m:@h)(y:Profile),Y,mV.ahead e2,o.map λno=>Y,(g.getD Y []).length,iZ (l:=Y) (d:=[]),va (l:=Y) (d,Z,z),(r.zipIdx.filter @Dx).map Y,(bP @ħ).findIdx Y,I.wh Y ((av9 W).subset Z),Gen.trans Y @n!,(wv Y Z).flatMap @sI,(bP n).filter Y,(I.new x Y).2.1,cw λ_ _ _ s5 _=>Y,dF λo items z N _ hd hi=>Y,Paired λp q=>Y,{cls:=Y,data:=.seq Z},λb u q n _=>(C,Y,n),_,X.s_0.heap.FunFrames @b9,λb o e=>ajk _ _ _ _ Y,I.ok.frf Y hb,∀(pins:@Ç)(s:aK)(σ:St)(H:Hp)(Q:VK),Y,λσ H Q=>(k3,Y),λv s1 h1=>bY h1 Y,λD σ H=>(gT,Y),∀b∈B,∀o,Y->Z,I.list_inj hl,λy H2=>r x Y H2 Q,λx y H Q=>∃i j,Y,al9 λ_ _ _ _ _ _ _ q=>Y,rU λi=>.int Y,V.int (-(told Y)),λxs H Q=>∃i,Y,.call @ņ,λx H1 O J a C=>dF Y,λb z=>(ff,Y),Ue Y λr s' U=>?_,.of_wp λprog w A R s h=>Y,(acc++Y).toArray,ns.map λz=>V.int Y,aXZ (bY Y λn s2=>Z),∀(l:@ß)(i:Nat),Y,λx vs H Q=>∃l xs y,Y,bz.names.all λy=>Y,λv H'=>(Ĉ,d,@ng)/\Y,∃(xs:@P)(x:V),Y,aYx @i?,λ_ _ _ _ _ _=>Fa Y,(OF cs Y).length,ak.of (dw,Y),∀(i:Nat)(z:α)(H':Hp)(Q:VK),(KF,Y,Z),∀(f p:Nat),∀x∈@t2,Y,(nestKind @hB).room Y,λo es ep N kn n=>cy Y,p'.isList.at λo e=>Y,eP (gp,Y,@R,Z),λi σ H' _=>om Y,λQ' q=>(š,a,@kA,Y),bv λp a dx r n t=>Y,bv λp cl g b n G=>Y,bv λp cl g n G t0=>Y,bv λa d S g ss j=>Y,bv λa d m p i n=>Y,bv λd a b r p o=>Y,bv λl b cs m ns c=>Y,bv λp mo v l n sv=>Y,bv λp u f ds U F=>Y,aq (H:=H4) (a:=Y) (o:=Z),(o.zipIdx.map @sm).map Y,λi σ H' _ h=>ak.of Y,λz m=>(ą,Y),Fu λhs p' g' h' w' v2=>rE Y,(hs.trans Y).seq d,km.snoc Y (d.same Z),(M.trans Y).seq ha,(_M.lz Y h0).len,λc o hc h=>(Í,Y),∀{j H p own s},@uf->Y,λmo v I J tm R=>cy Y,ad3 (b:=@Ņ),∃v4 N v6 v7:@Ñ,Y,∀(b:aa)(xs:@P),Y,(x.cps.toList.take Y).map f,wK.k (k:=@axF),λn=>avy n Y,(s.heap.push Y).get? @Ò=some Z,by subst e;show Y,_,by let{t,e}:=Y;show Z,by ext pins s σ H D I h;show Y,by calc E3 Y @DN;show Z,by rw[NU]at g;show Y,by rw[Y];trivial,show Y by simp+arith[*],by rw[<-J9,Y];rfl,(u,Vb H Y hk,Z),(u,Y,B.len),(É,CI @d Y),(h,"end_bracket",Y,Z),(K,G.names,Y),(Q,show Y=Z by simp[fk]),(Ñ,@u,Y),(ü,(kh,Y)),(Ò,Y<=10000000),(Ò,min i Y<=52),∀H',J H'->Y,by rw[AM]at*;show⟨Y,Z⟩,Y=@Ò+1,by rw[aw,Y,Z];simp[*],ab o (I.kIn Y o hk),by
  rw[Ą];.show Y
  .show Z,(Ł,λk e=>Y),(Ă,ai0 Y @Î),∀c,@jT↔Y,(bk,Y,(ş,DJ,Z)),(ex,@rT,(jy,Y)),(ex,@r_,(jy,Y)),(bv,"sorted",Y),(bw,@rr,Y),(aM,Kl @Î Y),by exact Y=_;rw[Z];rfl,(Y+c+(lQ,Z))%2==1,(ŕ,@D8=40/\Y),(eS,(v,(Mq Y).length)),(V,@j',Y,0),oJ @ň @b?,(ı,@d,@d,Y,Z),by clear h;rw[Ë,@mY];show Y,(dL,k8 c o hc Y),(hd,anD @d,Y),@Í/\∃v2:@Ñ,Y,bA iy @K,bA iy Y @K,(dM,_M.kM Y Z),by rw[<-Y];simpa using h1,PE X (eY,Y,@si) tb,(fn,(ņ,@ç,Y)),(aB,@aH,(Î,Y)),(kC,Y,q.ok hok),iA @d (c1,Y),(ht,Y<1073741824),(fw,(s3.trans Y).trans Z,L),(jF,Y,Z,L,mw slot x @aG H' @aw2),Ba @Ŕ (d,b6,Y),(hM,Y,(þ,Z,@dm),L),ns.all λz=>(sc,Y),_M.zB Y h0 @e,oO n Y @hu=@u,(an,Y,"size","rank",Z),(ő,Y)%2=(@eh+1)%2,(Ş,1,"number",Y),fM _ _ @d,(j_,@Ð,Y,xO),(h2,(bd,Y,@a9)),{λi H=>Y,λi H v H'=>Z,λi H=>L},(by clear m';rw[E,@sc];rw[q,Y]at dG;cases dG),iw @Ğ X.w H,(qh,Y,Z,@İ,I,{@ą,L}),λz=>.int (o,Y),(lh,EO i @Ž k Y),Paired @ayX ps,(qP,"list.append",Y),zK (tC @j8),Lo X "list.extend",Lo X "list.pop",dC _ @d 1 @d Y _,(lA,Y,G.DEEPEST),(cO,.inr Y,@Ą),(ů,"end_bracket",@fB,Y,Z),by delta at_;rw[eY,Y];rfl,fH Y ([]) @d ?_,by cases h;rw[Ĳ];show{_,Y},(mO n i Y).map @ê,(dG,"byte",1,Y,1,Z,L),(bR,d,Y,(et,@rx,3)),aM @A (λx hx=>Y),some (HO.frz @nv Y),some (HO.frz @j0 Y),placeOf (cQ G Y) @h4,placeOf (cQ G Y) @Em,(rq,(ő,Y)%2=@jt%2),xC (Ô,oM,Y,Z) @eF,(Ks,λ_ _ z=>aM z.1 Y @b8),∀b o,Y->Z->∃o',@ayc,aA (æ,Rq.nd,Y),(rB,bv λrf I J tm to ms=>Y),(jr @ţ w).is Y Z=@o,(Ö,t,(kr,@Ch,Y)),by exact Y=_;rw[<-J];show Z,by delta bQ;rw[bB,Y];rfl,(ů,Y,(ĸ,"word"),3,Z),(aB,@ns,(o,Y)),by delta mT;rw[B1,Y],(rQ,cS.of Y,Z),CU m @ž (Ď,Y,Z),(dN,xP @Ï Y),(č,a,tx,s2.seq jz,Y),(fC,(h1,Y),@h6),(hx,I.laid Y @Â Z,@os),(lm,(kG,@Ķ)/\Y),(r2,.card Y []),(l3,@T,@Ø/\@ï/\Y),I.base.frzs b o Y e,zR ([]) Y @d @dx,zR ([]) Y @d @axb,(sa,anC (K:=K),Y,Z),Un Y [] H H' @ä,lQ x g ?_ @ayD,T.keep _ _ _ Y λb hb o e=>Z,T.keep _ _ _ Y λb _ o e=>Z,Q (hI,Y) @f2->(hB,Z),(rX Y).length<=10000,λx:dX×Nat=>Y,(λno=>Y)∘ic,fZ (cW,cQ r Y) (p+Z),(ins x Y).map @ayJ,Vs (λz=>by cases z.1),Paired (anm w) Y kvs,∃aG:@X,@hN/\Y/\@D!,∃a xs,(fa,@s5,Y),ajh @d (awO Y),fc (bs,by rw[f_,Y];omega),nL (gZ (pR,(qm,Y))),bA E5 @K,by rw[eA,@d1,Y],by delta nL;rw[<-Y,<-Z],(d,KE h,Y),(d,Hy h,Y),(R,(ju,@fp,Y)),(R,(Ţ,p,Y,iL,Z,L)),(đ,(c6,Y),(aR,fg G.FAULT,Z)),by rw[<-Y];congr 1;omega,(Õ,(kt,Y,"card"),"row",Z),aU Y H (I.kept Z) ?_ q,(ę,"self",adK Y Z),(c4,Y,(bY,@e,@e)),(bh,(cU,Y),(cU,Z)),(Ş,3,"word",Y),dg (cM,(ef,n,Y,aq)),(aM,px @mt Y @Î),(gJ,(h9,_),(rt,Y)),(LN,(ł,Y)),(LQ,(aP,Y)),@Í/\(ł,Y)/\(hk,σ=Z),rm @d @d Y @d _ @d,(dD,"size","rank",Y),(dD,"numbers","size",Y),(cw,4,LQ.nd,Y,Z),PE X (eZ,o,i),(bO,1,f0,@fB,Y),(bO,3,f0,@D?,Y),(Ē,_,_,(Ł,Y)),(fJ,(r5,(V,c,Y,Z))),(hA,f v u,Q,Y),(b3,Y,@hr,@hJ,@tK),Y=(P,@ý,"number",Z,@ý),PC X @mt i o,(lX,@awo,@b',Y),(L1,@Ú<=1000/\Y),B4 uK f Y=some cs,CX @đ H s E e,(Mh,Y,Z,(Ē,L,_,(k2,.inl ύ))),gE P w H' h' a,(sl,(aQ,(cv,Y))),∀y,y∈l↔(@hI/\eF y=y/\Y),bC m' Y X M,wi σ H λJ H1=>Y,(My,@ó<=52/\Y),(Mz,(hT,Y)),Y->(lM,ds)->(dI,@Î,Z),aU (.inr Y) (ď,Z) @d (apj L),(fi,Y,(al,Z)/\@hG=L/\∀z∈zs,ύ),step i z H3 _ hz Y (h7,Z,L),(vO,"reading",Y),SP X @Æ D Y s',(v?,(Ď,aH,(ay,Y))),avM (mh n @h7)=Y,_,(λx=>@cv&&(@a6==Y))=Z,oB (aWJ _ _),(∃kvs,Y)\/∃kvs,Z,Rd H a Y\/∃(o:bS)(aG:@ŀ)(n:Nat),Z,(hH,Y)/\(lY,cQ r Z),bj λz m e=>ab z m Y,bj λz m q=>ab z m Y,if r.length%2=0 then Y else Z,_,if k==@an then Y else Z,if Y then settle b (S++[.op Z]) L else ύ,∀(k i:Nat),@nf->Y=Z,Cd Y (hg.fixes v @Â),∀x∈k::Y,x<n,ag (show¬Y from hm),hs (by delta cA;rw[aj Y]),λc=>(qG c).trans Y,(l.filter λx=>f x&&Y).length,λd=>.bl (E,d,Y),∀(j:Nat)(hj:j<k),Y=[],∀(l:@h){r:Row},@T->@ku->Y,(fZ @Û 0).take Y,(cuts n Y l).length,EH Y (λo t u n e c d=>?_),∀x r,l=@kM->Y,∃y,@hI/\eF y=y/\D q Y y,((c x p).1 Y).1,akL (h:=@awD) m,akU (m:=m) (want:=Y) Z L ύ ώ (λp hp=>Ϗ),(o.zipIdx k).map λx=>Y,j4 i @Ž,∀i even st a,(so,Y,@OP,(si,Z)),dI Y Z L h3 (λq a1 X M I=>(d,ύ,ώ)),[@jS,V.ref p4,Y],((bP n).drop i).filter Y,∀{a b:@h},@ox->Y->Z,(p.filter λx=>h x.1).map Y,(a::l).filter Y,iZ (l:=Y) (aa,R.len,Z),(l.map Y).getD i [],zB Y h0 @e,lT Y (λNz t g1 g2 g3=>?_),(U.getD @a_ []).flatMap Y,(jQ @c1 s Y).2,(done h r).map Y,si λs6 d6 d l v1 v3=>rE Y,si λs6 d6 v2 v4 v8 G=>aaz Y,si λJk JF l u3 u7 u8=>tR Y,si λuo JG N3 w3 w8 w9=>gX Y,si λs8 c R' T u5 u6=>rE Y,RelV (kV p.1),λo q=>(kV,Y,q),∀c xs,(Ö,c,@a4)->Y,λb ps q=>{#[],(hV,Y,q)},∀x y c,Y->Z->x=y,(bX.mp hp).elim (λz=>Y),hj (aaA S e1 Y),tF Y Z λ_ _ z=>oI z,λσ H Q=>(vI,(KC,Y)),λσ' H'=>σ'=Y/\Z/\L,T.obj _ _,∀h',Y->Ka Z @ä h'->Q L ύ,zJ Y (λy1 r Nq _ _ l=>?_),zM Y (λys I oy M _ BK=>?_),pP (Ŋ,Y) (Đ,G.1),λ(n,k)=>if(Y&&@uk)then Z else(n,k),(ah Y x (Ð,[])) Z,∃i H',(Me,(Mg,@ayW),Y),(Es @hB).is @ä,λs4 I4=>fM σ Y I4 q3,∀(cs:List OE)(a:aju cs),Y,∃(a:aa)(vs:@X),v=@Î/\Y/\@up,∀(ds:@aS)(vs:@X),Y,∀(j:Nat)(v:ai),(Ë,Y,v)->Z,∀(i:Nat)(z:α)(H':Hp)(Q:@cC),(KF,p Y,Z),((c.zip ms).take Y).map @Fy,(nestKind @dd).is h,λvs H Q _=>∃(p cl g:aa)(n:Nat)(r:eG)(t:Nat)(cs:@h)(i:Nat),Y,λvs H Q _=>∃(a:aa)(t:@h)(p:Nat),Y,((bP n).map λ(k:Nat)=>@cJ+k).map Y,.lst (xs:=Y) @aw_ (anh _),(jf r q).map Y,bv λv1 v4 N v6 v7 v8=>Fa Y,bv λp st M X q n=>bv λrf I k cs ss W=>Y,_M.Ch Y @e @e,h.mono λa x _ p=>{λq=>Y,Z},Fu λhs st v3 v4 N v6=>cy Y,Fu λhs l v2 v3 v4 N=>bj Y,∃(v3 v4:@Ñ)(kvs:@ÿ),Y,Gk.2 (aM Y @A (λx hx y hy e=>Z)),(hz z m).2.updL Y,anH Y @ž B.min,∃(p:aa)(c:j6),v=@ã/\(H,cs,c)/\Y,(c z Y).1.same s,(hz z m).2.updN Y,let agJ:TS:=ax _ NC;Y,(R.re s Y Z).same s2,axq @Oy @Ì,∀D':Ends,Y->(su,D'),(by rw[z,Y]at e;cases e),by delta sf at h⊢;show h.imp id (λq=>⟨q.1,Y⟩),_,by rw[awH h0 Y]at h1;show cM h1,by let{t,h}:=h;show CA (v:=Y) hg h @on hd,PE X (.Call @axR Y [] o8),PE X @OJ (ami Y ta f),by let:¬Y<Z:=@ER;omega,(Ť,(bX,(jb,@Ô)),Y),m'.want=@i3->Y,Y/\Z=@ĥ/\(ab,q,@BT),(λe=>by rw[e,Y]at hp;cases hp),(λe=>by rw[<-e,Y]at hy;cases hy),(λe=>by rw[e,Y]at e1;cases e1),acc++[(Y,@cy)],Y++[(@oz,@Dv)],(Ĩ,(re,@aI,(Ì,Y))),(Ã,@u,@u,_,Y,Z,L),aX p Y u _ _ @d (ġ,hp) Z L @d,fQ h @ba (g.map Y),(Ű,Y,[(dc,! Z),(dc,L)]),(gq,Y,_,(ũ,fj,dr)),by rw[g_,aw,Y];simp[*],(Ģ,t.all (λ(z:Int)=>Y),(Ŷ,@Ú,Z)),(Ŵ,@aI,@bA,Y),(ev,(fE,Y,Z),G.TOO_MANY),(λq=>by rw[q,Y]at X;cases X),(ŀ,g,_,Y,@hY),aU @u @u @d,restOf (U.drop @Q) @Q,PE X (cY,Y,[e]) (tM1 Z to te),fM Y t @d e,(jG,["deck","numbers",Y,Z],L),_,PI X @FA (cY,.Name Y p,Z),_,(bt,Y,@K,@Ô,Z),[(@Å,Y),(@Å,Z)],(eK,"move","move",Y),(aM,ai6 @Î Y r),(bx,@Ì,Y,@ą,Z),∀σ' H',J σ' H'->Y,(c',n,h0,@e,Y),i<n->Y->g @DK Z H λI H2=>L,(g2,hl @Æ s σ Y _ Z L),Y=.ok (w,l2)->@ep/\∃l1,Z,_,(dC,T.nS,(aH,@e,Y)),(kd,@s5,R Y H1),PE X (cY,@hl,[]) (Li C sp Y Z A9),(H,kvs,(k,v))->Y,show(Y||Z)=@o by rw[bw];omega,(fi,Y,(a_,@ŵ)/\@hG=Z/\L),(km,@jB,(vV,Y)),∀c o,Y->@EH->(X,H' c),(Æ,@ò,Y-1,u),(kC,Y,amV ok e),(hz,Li C sp Y Z t),by let:(A,(dv Y Z).isSome):=L;show aZt.1 (lu,this),(hN,I.look,@aw4,Y),(hU,"size","number",Y),(e9,@a9,(a?,Y,@a9)),(k7,.inl (Î,Y),hd,Z),(fe,Y,@c6,[(Z,L)],ύ,(ej,ώ,@c6),@hb,Ϗ),(λz=>by rw[z,Y]at nd;cases nd),@axt||(E,Y,@sz),Y||(E,@t4%2,@oj),(lp,CF CH Y,@ç,Z),@V->Y->t Z σ H Q->(ao,L,λ_ s'=>(hJ,Q σ' H')),(ŀ,Y,ys,hy,(À,Z)),(b3,Y,@hr,_,@Fk),(qY,λzs h1 e2 hz=>?_,C5 zs Y e2 Z),by clear M;calc g9 λf fd F hm hb c=>?_;show Y,by clear N;calc g9 λf fd F M hm hb=>?_;show Y,(by let:=Y;rw[q,Z]at this;cases this),(bA,["row",Y,Z,"place","card",L],ύ,ώ),Ci od es ep Y c,(qe,Y,EJ l2/\∃l1,(qw,l,Z),L,ύ,l),∃o,Y/\(KP,@a1),QS G.BINDS G.BINDS_d Y @ļ,(by cases k with|zero=>show Y|succ k ih=>show Z),dv Y (.inr Z)=some (ď,L),(jr P w).is k Y=@o,xs=[@þ,@kG]/\Y,aU Y H @fm @c? h,(gk,[(Y,2),(Z,3)],L,ύ,(hj,2,ώ,3,Ϗ),(kT,ϐ),ϑ),(bp,.In,Ln Y @Å),(bp,@mt,Ln Y @o),(aL,3,λ_=>Y,@eu),(dm,.FloorDiv,(ln,Y,i/j)),(hi,(ï,ah H a Y,s'),()),(Ã,_,_,g.set Y Z,L,ύ,(À,by simp[J])),(fH,xs,some Y,Z,(xs.drop L).take ύ),Ht hn @C' @ti (λ_=>Y),.inl (gN Y @cR Z @d ?_ @d),(r3,(vM,λx H2 I2 J a z=>@ayP),Y),(re,@aI,anR @d Y _ @d Z @C L),inner r Y Z ug @ļ (λa X=>L),Un @DP ch H H' @ä,(sj,0<n,(aQ,(fB,Y))),(sn,(ŵ,"difference",Y,Z,gn L,ύ,ώ,(bh,Ϗ,ϐ))),(gk Y 0 G).length<=2704,Gj (dw @hO (aWY Y Z)),decide (1<=b/\b<Y),((r.map @aJ).set i Y).set @ds,Vy m p G.names,(Ls,@cC,(wk,Y)),zK (E1 Y) (zK (tC @ſ) A9),(Lx,λ_ _=>aYj,J_ _,Y),(ij t @Ú 0).map Y,IE Y ?_ ?_ ?_,(c z Y).1.updO (hm _ _ Z L) ht,RM (C,Y,h.1) Z @e!,{(a5,Y),CO X _ (.str Z) @d @d L ύ ?_},(É,Lk cl _ _ Y @d @d Z L ?_),Y=ka (if p<k then Z else[])++L,g @tu σ Y λI H2=>@CJ,(Õ,["row","card"],"row",Y),(LR,Nz,Y,g1),Inv Y [] @Dr H s1,by let:∀k:Fin 23,Y:=@ø;show this ⟨k,hk⟩,(Õ,["size",Y,"card"],"size",Z),(gV,(am,E6,@č,fg Y),Z),(cr,[(ī,n),@kP,(ī,@ho)],Y),M @Q @e _ a b,(Ml,n0 @fw @Fl _ @d Y),(Mu,(b7,@tl,cw λx H1 O J q1=>(sv,qA Y))),IE zs Y b (λz mz=>aM ?_ Z @ayv),g H2 q Y U (λb o h hb _=>(ġ,(jU,@tL))),Y->E_ K H xs ds->(ch,@Î,Z),(di,Y,(Z+@ö).toNat,min L n),(vK,@R,(am,lB,@R,Y)),bC P ((s1.2 Y y.symm).trans pI.1) FQ jx,(v1,∃a o,(fa,wK H2 a y o,Y)),(v2,λv H1=>(Kg,ty σ H2 λy H3=>Y)),Lx I @Ew hs ⟨q,U⟩ (Lf,Y,Z,q),(v6,_,(ķ,NB,NA),Y),by rcases h with(h|⟨o,h⟩)|h;rw[Ä,.inl Y,<-Ä,(as,o,Z),<-Ç,h],(wd,Y,Z,(q!,(fk,aw,iQ,h.2))),(we,#[],Y,(tI Z aG).flatten.toArray),(wn,IF C n Y 0,Z,sh),Eh n e (f-1) r=Y,(λx:@hZ=>@Œ==Y)=Z,Y=(Ő,1,b5 q 1),∀x,x<2->∀y,y<2->Y,(∃kvs k,Y)\/∃kvs k b,Z/\y=@î/\L,_,mm (v_ H Y).len (v_ H Z),(old++acc).any (λz=>z.1==Y),(V,Y,[i,0],[])++(V,Z,[i,1],[]),bU @f3 Y @C @fL,∀(i:Nat),@bS->@bc->Y=Z,∀n,Y->@eJ<@kT,Pf (n:=0) (Gj Y) @d,∀a b,a∈F->b∈F->Y,(oO n m x.1).bind Y,∀q,V.ref q∈Y->∃ys,(ã,q,ys),∀w,@E'=.ok w->Y,match(rr,Y)with|none=>([],l)|some x=>_,λp hp=>q _ p @tV Y Z,(kf n m x.1).bind Y,∃p,(ň,(aq,Y),@ã,Z),HD s1 aq @u,one Y Z @d (λ_ _ _=>@d) @ę,∃wi w,ws=wi++[w]/\Y=Z,forIn N @o λc r=>Y,∀{xs:@P}{us:@X}(i:Nat),@Ų->bG Y Z,∀{xs:@P}{us:@X}(n:Nat),@Ų->bG Y Z,λb u e=>(jK,Y,h,@ON),u.there b o e,aXs I.ok.kind hg Y hd,λσ' H'=>H'=H1/\σ'=Y,λσ H R=>tl σ H λx H1=>∃a,(fa,∃xs,Y,R Z H1),λxs H Q=>∃a kvs,xs=(eN,a)/\Y/\(fm,@Ă),(ck f Y fs).lookup g,λs3 I3=>aU Y H2 I3 @d q2,hb s us @i_,_,λx vs H Q=>∃l b xs zs,(sq,@î,Y,(vH,Q @ŕ (be,@EI))),∀(ds:Y)(vs:@P)(us:@X),Z->@f'->∃as,L,aYv (hsz:=hz) Y Z dd @aw8,λv H'=>Dw K H' v Y,h'.IsKeyIter it d @Q,s.heap.DictAt @hB Y vs ep,∃vs:@X,@bm<=bq/\@kI/\Y,.tup Y (.cons @nQ (cf,@nQ)),((s.heap.push @nF).update @Ò @Ck).get? Y,λvs H Q _=>∃(l:aa)(h:az)(n:Nat),vs=@j3/\@bT/\@à/\Y/\Z,λvs H Q _=>∃(a:aa)(ns:@À)(n:Nat),vs=[@Î,@aa]/\(eo,ns)/\Y,λvs H Q _=>∃(n i:Nat),vs=[@aa,@þ]/\Y/\Z,λvs H Q _=>∃(p mo v:aa)(n:Nat)(sv:Bool)(rf:Int)(I J:au)(tm:Int)(ms:@È)(M:az)(os:@ī),Y,λD hD=>q0 _ D Y @jJ,rw (gX,@aU,Y) Z @Á,xM (n:=Y) Pz Z ?_ ?_,∃(g ld:aa)(J:Nat),Y=(wc,(ê,@hL))/\Z/\L/\ύ/\J+@kk*@hL=m,s1.trans (af.made Y nd O),iA (j:=Y-1) (by exact(v,Z)-1=_;omega) (ds,bB,bB,an_ @e),anl Y Z L ύ {@d,@d,@d,@d},h.mono λa x n p=>{w a n,Y},al8 (K:=K) (a:=Y) (xs:=Z) L ύ ώ ?_ ?_,∀(i:Nat)(v:V),(H,@awO,v)->Y,λHb p' Aj By=>U Hb _ Aj Y,aei zs Y b (km,Z,@axX),(R.und.2.2.2 i d hd).same Y,(s1.trans s2) _ _,∀j d,(Ë,ds,d)->TabAt Y d [(@fx,@Ň)],aeu zs Y b (km,Z,(e z m).2),((ij tx @mN 0).map Y).sum,match Y with|none=>@Cr|some i=>(S,0::cg (OP q i)),(aZE @Ì @mM (qL,x.toNat)).contains Y,ah H9 d @Cs Y=some Z,awo K C Y=some @u,by
  let:Y=Z:=by delta done;rw[L]
  rw[ê,akh hl],eI n Y/\Ho n Z/\∀h,(de,L)↔@ų,by rcases zq8 (aWQ hb)with e|e;rw[Đ,Y,<-Đ,Z],by rw[ă,@i9,Y];let{o,es,ep,N,r}:=Z;let{D,hL}:=u.any N @bl L;show ύ,sv=@o/\Y=@i3/\t=@hu/\Z=[],(K?,Y)/\Z=@ħ/\Mv (Ù,@avN,D,L) D ύ,(Æ,xs,@avL,x)->@m?->Y->Z,gr fC Ca Cb amH Y (Ċ,Z),Y->(∀z∈acc,@Df)->(h3,acc)->let r:=Z;L,(Ů,a,(kZ,X,(lF,a,Y))),by let:=Y;rw[(@Oz)];show this,(ň,H1 d,.frz o Y,R Z H1),(Ş,4,"piece",adJ m Y Z),by delta oW;rw[HT.E8,HT.E8,Y,Z],(C,(λe=>by rw[e,Y]at v;cases v),v),(Õ,["spelt","byte"],"spelt",Y),(Õ,["size","place"],"size",Y),(dG,"number",2,Y,2,Z,L),[@Ě,(Ï,p),(qI,k),(ê,Y)],ck "times" @ſ (ck "word" (.str "") Y),(j',@aJ,Y,@ayn,Z,λi z H' Q _ _ q=>@ayC),oN Y @d wf Z @Eq ?_,(fu,Y,g,Z,q5,xs.2.map @é),(fL,Y,(v4,it,@Ă)),mr Y @mA c' ?_ ?_,{G9 ajC _,Uu aZi (d,Uv ajC _,Y)},{⟨dx,Y⟩,Z,L,ύ,R.n1,R.n2,R.n3},zq @u @u @u @d,I.proc a k' x Y o2,∀b o,@dy->@ŋ->Y->@tT->Z,I.laid (t':=tk) (o:=.lst Y) hk @Â,[@ac,@sB,(ê,Y),(ê,aD Z),L],(â,d,ND,Y,@r7,@d,Z),(lD,l.foldl @Fa (aY @Õ (iU n x)),lw,Y),(Ã,_,_,_,?_,Y,?_),(Ň,(ba,g,U,M,Y)),(q!,by rw[aw,<-Y,iQ]at h;show h.2),(Ü,["numbers","size","number"],"numbers","size",Y),by
  by_cases e:@Ċ;.rw[Y];decide
  rw[Â,Z,L],by exact Y=Z;rw[(K9,a),(K9,b)],(fy,@Í/\Y,a,@ŵ,Z,(LB,X)),(dv RZ Y).getD @ſ=(ď,Z),jH (HL (LS,Y=Z+1,L)) (λit l e _=>?_),mr Y @mA c' ?_ (by simpa using hD),(Lt,∃k,y=@cG/\Q Y H2),oT v H2 Y D q2,(Ü,["size","number"],"size","number",Y),Y/\Z/\L/\ύ/\ώ/\Ϗ/\(∀p:j6,j4 (dj p) (cU p) ss []=some [ϐ])/\ϑ,{Y,Z,L,?_,d.n1,d.n2,d.n3},(ca,@kF,I.lnew (t':=@Ĝ) Y Z,q _ I.fresh),ES @d _ w hm U,Rv Y Z _ _ _ @d (aM L ύ (λc=>ώ)),(ĳ,5,@c8,Y,6,@c8,(aw,@Ć,Z),L),(ŉ,@Ļ,[@Ļ],_,_,H1,dI (rw,@kH) Y Z @dp q),by rw[ĵ,hl];ext i h1 h2;let:=h i h1;rwa[Y,Z]at this,(vE,u,T.nA,(Ĭ,cl,Y)),dI ((hs.2 p.1 Y).trans e) n ne G d,(wi,0<n/\@ï/\∀(H':Hp)(p dx mo mv v:aa)(I J:au)(tm:Int),@Í->(lR,qD n Y Z mo mv I J tm v)->(ë,L,ύ,@ã)),B9 Y @u @sn @į=Z,∀x,@E!=.ok x->K2 n x/\@axo/\∃m,Y,∀no,@bL->@bK->@nI=Y,show(ci,_,_,_,Y)from Z,show(ci,_,h',_,.lst Y)from Z,show GO Y≠aXX/\Z from{(λx=>nomatch x),h},∀(k:Nat)(s:@h),@aB=k->s≠[]->(∀x∈s,Y)->Z->L,M s' @hW hs @ti,∀w',@ED->@mh=Y->j0 Z w',akQ H J hn d,VB _ _ Y Z (λi a b ha hb=>?_) (u,U,D q f kY),∀(j:Nat)(c:dX),(Ë,Y,c)->@ez=Z/\@sg=@aA,cO (bh _ @d ("dict_keyiterator") _ Y OC.lookup Z),hs Y (by delta xJ;rw[ai3,hf];show Z),u.free b o e n,∀(pins:@Ç)(s:aK)(σ:St)(H:Hp)(D:Ends),@V->t D σ H->(ao,Y,SP X @Æ D),λv j=>(hA,@Ed,λu z=>Y,j),λx y H Q=>∃p xs i v,x=@ã/\y=@þ/\Y/\(h5,i)/\@tJ,λx y H Q=>al_ x y=@o/\(ŷ,Y),aXH @e (e6,aXI i @e) (.inl Y),∀x dx,Y->Z->@EX->sp (@dk::@h8) L @O0 E,∃kvs,(al,@dg)/\@Ă=@Ã/\Y,∃d u,@oq/\@tw/\∀od,Y,∃(aG:@X)(o:bS)(n:Nat),@hN/\@jU/\@i6=Y/\@a1=@at7,ReadsW R cl Y u Z as,anE (l:=Y) (lo:=e) (λxs us r=>?_) Z he L @aw?,HT.aaO Y Z a t c u,λvs H Q _=>∃(p st M X:aa)(n:Nat)(rf:Int)(I J:au)(cs:@h)(ss:@Č)(W:@Ĕ),Y,λvs H Q _=>∃(p u f l:aa)(ds:@Ë)(U:@ĕ)(F S:@È)(h:az)(n:Nat),Y,bA (anB (K:=K)) (anv ny Y Z @ļ) (lh (Ċ,L)),let Pz:Nat->@fg->@ec:=λi σ H'=>Y;Z,nE k @d Y x hx,∀H' p,@Í->@ge->(Û,p,Y)->(rP,Z),aeh m B y x,apM e1 I @d S,k4 b o h hb,(∀c o,c≠D->(X,H2 c)->(X,Y))/\Z/\∃v4:@Ñ,L,(Ĥ,(gk,[(Y,Z)],L,gn ύ,(ej,ώ,Ϗ),(kT,ϐ),ϑ)),LD H->aYY @ja a=@o->Uq @ja r.asked a=@o->Y->sp Z xs H L @kB,(È,"pieces_of",["text"],5,acJ K Y),(ç,p2,Y,k,Z,(ò,L,h2,ύ,ώ,Ϗ,bU ϐ @e (aon ϑ) @fL)),σ=Y/\(Û,z,(lo,0,jo ((M.take j).flatMap @sI))),PG X (.Tuple es k pos) (HV Y n t),(qe,Y,@ep/\EJ l2/\∃l1,Z,L,ύ,l),(qN,Y,@Ď/\@sJ=@o/\@ayA=@o/\@avG),ES @d h _ h0 hm,∀b o,@j?->Y->@jY->@cx->@ŋ->Z,by
  by_cases h:a=b;.subst h;simp
  .rw[(@hQ),dE (λq=>h Y)],(lx,.Dict [@CP] [v] pos,(rS,tk σ Y λy H1=>e σ H1 Z)),σ=[@Ě,@ac,(Ï,c),(T,Lq),Y,N,v6]/\km Z Lq L,(uZ i @Ž s st).bind (j4 i @Ž Y),(rk,amZ _ x t Y Z,@gg),Il (Ŷ,Y,@fD) (Ó,@fD,Z+L) @t' (λQ' q=>(į,(Ĩ,(ĵ,q)))) ?_,{r.hd,by let:=r.dp;exact Y+5<_;omega,by let:=r.un;exact Z+200<_;omega},(R,(b2,Y,T.nS,(ğ,D,sp,_,@d,rm Z L ?_ ύ _ @d ?_))),(c0,jI hp @d p st M X (vW,Y)),(c0,jI hp @d p mo v n (wl,(ű,M,Y,R,Z,L))),(ŉ,d,Y,Z,L,_,rm @d g1 ύ g2 _ @d {@cM,λt1 D=>?_}),by ext pins s σ H xs us Q I r h;clear h;calc cV Y;subst z;calc@ayT;subst n;subst j;show Z,by rw[Ķ,R,@jC,λx hx=>EE.2 Y];let:=Z;rwa[Hk]at this,(Æ,(wb,(aD,ld),@å),3,Y)/\Z,(λm=>by let{i,hi,e}:=oC m;rw[x,Y,@BU];rw[Z]at hz;cases hz),[@bM,@cA,@Er,(Ï,@tB),(Ï,Y)],(LF,ys,a,M_,p2,Y),(đ,(bG,(ĝ,A8,@Ð,fg Y),(gX,@Ð,(ay,Z))),dY),(ğ,_,_,_,m,aci b l _ @d _ @d (go H D @d Y)),(vD,_M.UV _ _ _ O.len,Y,Z),(se,Y,@u,some (.Constant (.int 2) k3 p3),abw K te Z),(v8,(ŵ,"card",2,Y,gn @ç,2,Z,@axT),L),(v9,λb o h1 h2 h3=>Y,λb ys h=>Z,λb o u h=>L,λb ps h=>ύ),(wf,Y->Z=y,(tf a b 2).symm.trans h),akX H J hn hm d,av4 n e Y u d l,λx y H Q=>∃a b xs ys,x=@Î/\y=@î/\@bV/\(Ű,b,ys)/\Y≠[]/\@Ï+@aD<=bq/\(Z=[]->Q L H)/\(ύ≠[]->(lN,@awU)),Qp (us:=Y) (vs:=Z) F hr hb hd hx,∀{gD:@kL}{m:@ñ},(∀v,(x,v)∉gD)->Y=m x,∀{P:@â}{vs:@X}{i:Nat}{m:@ñ},P.Nodup->(ai,P)->@aye->Y->(e?,Z),aX5 ht.isList Y pl Z L @A ?_ @axj,Kb (name:=Y) (r:=Z) hT (by rw[aZc,aZd];kernel_rfl) ?_,∀h' tk d c',Y->Z=some (sd,.seq d c')->(Mx,@œ,@į,d,@į)->L,_,λvs H Q _=>∃(p st M X:aa)(n:Nat)(rf:Int)(I J:au)(cs:@h)(ss:@Č)(W:@Ĕ)(x:au),(ě,@aT,Y,Z,L,ύ/\ώ/\Ϗ),ank Y Z (λx y=>.int L) ύ ώ hD Ϗ ϐ @ļ (λi x y H' Q _ _ _ k=>ϑ) @DY,keep Y x dx Z _ nx nd,amY (ŵ,"card",3,@jf,abc @K,3,@jf,Y),(LJ,Y)->@CA->∃t,bw Z L t/\t (rx,λ_ H'=>@axk) @Dr H,by let h1:=acE @kx (p:=Y) (e:=Z) @C L;rw[ύ,(Ā,ώ+1,(o,Ϗ)),h1,(Ā,ϐ-ϑ,ϒ),<-yU,<-yV,ϓ],cn Q Tt (ao0 Y Z Tt.F B c j air L ύ),by rw[a?,Y,λu e1 e2=>?_];rw[hv]at e1;cases e1;show e2,(ğ,cs,ss,W,R,dI @e Y Z L @oa),(ŀ,Y,acc,e1,ES ?_ _ _ @d Z ?_),Mf K C x q s f,lc n m @bJ i @å l=(Y,(lc n m f @Q Z L).2),(d==qi)=@Å/\(dP,d)/\o.ExactDict/\Y,by ext pins s σ H Q I U;calc Y;let hf:(bT,@Ļ):=@Ci;calc aU @awQ Z (O.laid (t':=s1.toks) (λb u e=>@cu) @Â ?_) @d (q _ hf);show L,(Ã,r,q,@Ì,@nl,@İ,{@ą,Y}),(gS,k,aFV ?_ (Ć,Y) ?_ @tH _ Z),(qY,λzs h1 e hz=>?_,bC zs (C,aQ,h1) e (km,gA,Y)),by
  rcases h with h|h;.left;rcases h with h|⟨o,h⟩;rw[Ä,Y,<-Ç,⟨o,Z⟩]
  rw[Ç,h],(qE,j,o.1,(é,_,os,@D1,m3,Y,λH4 R4 o4=>?_)),(Ñ,u,(l5,d,x,W,(Ì,(rv,@ayS)),Y)),cj o @ò n h1 h2 h3,0<=a/\0<=b/\@e'<=3/\1<=@gW/\@gW<Y,(A,rl p)->∃m rest,(wr,m::@Į,m,@g!,Y,@g!),by
  rcases g with⟨kvs,k,e,n,l⟩|⟨kvs,k,b,e,n,S,l⟩;.subst n;calc@ayr;calc Y;rw[<-(@su),<-l];show@Db
  .subst n;cases(show u=dk b from B);calc@ayq;calc Z;let q:=@su;rw[Ez]at q;rw[<-q,<-l];show@Db,akR H hn hm d Y N hc,∃b,Ro H5 b Y/\(Z=@o->∃ys,ak K H5 L ys/\(İ,ys,@ú,@î))/\((A,ύ)->b=D0),∀(X:Cx),@Ğ=P->X.w=w->@aj->@ai->∀(i:Nat)(pins:@Ç)(s:aK)(σ:St)(H:Hp)(E:@É),@V->@aw1->@axW->Y->bn (bV P w) X.A (B5 @cI) (λr s1=>Z) E s,xL @Ğ X.w X.K tg J Y Z G,ajc Y (λA R s=>(Mf,(pW,dd,@tS,D),(pW,U,@av4,O),@tf)),dZ Y @u @u @u @u @u (Ì,Z),∀(w:dc)(mg:@ñ)(g:aa)(h:cH),m w h->(qn,h)->@Ff->(dS,d.name,g)->∃fd:nY,(rZ,@b!,@hq)/\(r',(qn,@ĝ),be r.prog w @nW mg @ĝ Y k g fd ps Z),∀(i:Nat)(z:α)(H':Hp)(Q:VK),(H,Y,z)->@bs->@tY->(wj,f z)->@EN,aY5 (keys:=[@CP]) (values:=[v]) @d @d @A @A,λrest _ s'=>(@Į=@awb/\s'=s2)\/(@Į=[]/\Y),∃(ks:@h)(v2 v3 v4:@Ñ),σ=[@Ě,@ū,v2,v3,v4]/\Y/\ks.Nodup/\(jH,ks,Z),ap5 P w K mg @ĝ Y o,(by cases l with|nil=>show .inr (qW,m,Y)|cons x r=>rw[ĸ,(â,[],x,r,m,@d,Z)]),_,{@i5,I.fh,λz hz=>Y,I.found,@awM,Z,I.count},@Í/\cN @avf (bm,@avf) H' D (Ī,i,Y)/\∃v v2:@Ñ,σ=Z,by ext pins s σ H x y v u Q I J B h;clear h;calc jt λd e hd he n j q=>?_;let{as,G}:=Dp.reads I d x v hd J;let{bs,r2}:=Dp.reads I e y u he B;show Y,Iw _ @d (a5,Y) _ @d (a5,Z) (ç,T,_,_,L,(ò,(ď,ύ),@d,ώ,@C,@e,@ayi)),(hx,Lx (ob:=Y) I3 (d,hp,B8) hs ⟨o',U⟩ (Lf,@cM,?_,o'),q2),(tO d hi).2 (HI H hf x ?_ O Y),CJ @Ğ X.w X.K X.mg @b9 Y @bk s H,(Ģ,(mP o8 Y).all (λx=>! x.1)&&(GY o8 @ayU).all (λx=>x.1.isSome),(Ó,Z+([]:@CO).length+(Mn,([]:@CO).isEmpty),30)),(b7,(La,s,H,λx H1=>x=@Î/\(KC,Y),I,(Ì,h)),g9 λd H1 O J ex q1=>Z),λx y H Q=>∃d e,(ch,x,d)/\(ch,y,e)/\Uk d=@o/\Uk e=@o/\(ŷ,Y),QA wi g tt te @sa σ H,_,aYw (bY (rg,s,H,I,h) λr s1=>(Lp,(Kl,cw λx H2 I2 J q2=>(py,s2,H2,I2,q2,λF s3=>qA Y)))) hs,aoC (lg,Y) @e hD aq @ę @D3 @oe,(ar,(ly,T,Y,asb Z @e,(ç,l,N,cs,m,(Ã,ns,(lW,L),n,ύ,ώ,kl lp @e FG @e @Ä hn Ϗ)))),Y=.ok (Z,l2)->PN n u F S W l L l2,by ext X B hw J hc i pins s σ H E I hf st hg;subst B hw J;rw[em];calc@aV;calc Y;rw[eB];show abb @ł st xa n hsz hi (pL,(rM,S b ob hb e)),by ext pins s σ H x y v u Q I J B h;clear h;calc cw λi j z n q=>?_;subst z;subst n;rw[Č,<-a_];show B6 i j t t' s _ _ Y,by let{xs,e}:=hi.allInts.items;let hn:numsOf (intItems xs).toList=ns:=(Ņ,hi.numsOf);rw[aYg]at hn;rw[e]at hl;calc Y;let:=h h' tk t' hk;rw[aYh,Eg @A,hn];show this,(bg,bO xs ys (xs[i]) (ys[i]'@Ä) q1 q2 {@nt,by simp[show i<ys.length by simp_all]},@mV,Y,@oc),(õ,["grid","side","number","strips"],["grid","side","number"],Y),(vL,u_ @d (.inl (gN kvs @jW Y ?_ ?_ @d)) _ _ (jU kvs @jW Z) @d L),aX6 p Y N hc hd (λh' c' kp e=>fin aG r' hz h' c' kp e) @axi,anA (d:=d) (o:=od) (kvs:=@cl) (ho,(ł,Y)) @EL (λi H' _ h=>h.1 _ _ hd) ?_ (λH' h=>N H' h.1 (fk,sK,iQ,h.2)),ao1 p dx n Y @d aq h0 hn (λH1 mo v d x N k1=>@ľ),by
  by_cases hc:Y;.apply zM Z (λyy pp F4 vM _ hL=>?_);calc bC pp ?_ (λ_=>ab yy F4 vM) (λq=>(ji,bN hc));rw[_M.iZ (lt,L)];show hL
  rw[ý,bC D0 ?_ (λq=>absurd (cF q) hc) @ę,_M.va (c?,ύ),hN6],(by
  let{us,h1,h2,h3}:=c a ha;let hu:us=vs:=by
   rcases h3 with q|q;.rw[e]at q;show Y
   .rw[e]at q;show Z
  subst hu;rw[Ì,h2];cases hk:K.lookup a with|none=>rw[ĸ,.inr {_,(u,QN ha hk e,L)}]|some o=>let e2:=B a o hk;rw[e]at e2;obtain rfl:=cM e2;show .inr ύ),by
  ext pins s σ H x y v u Q I J B h;clear h;calc jt λp xs j U D fs q=>?_;subst j;cases B;rcases U with U|U;.rw[é,U,@sO];calc Y;rw[(kX,@avs,@avt),Lm r fs];show q
  .rw[ü,U,@sO];calc Z;rw[(kX,@avs,@avt),Lm r fs];show q,bY (hp Y @Æ s σ H (λvs H1=>Z) I h) λus s1=>cw @aun,{Y,I.os,@b_,@mn,@i9,@rb,@bl,@rc,I.pin,@Ŕ,I.len},(p',∃xs:Y,Paired Z kvs xs/\∃o es ep,@jU/\o.ExactDict/\@a1=@m3/\es.toList=xs.map (awd L)/\(xs.map @ê).Nodup),[@bF,(T,m),@el,v3,(T,S),(T,Y),v6,v7,v8,G],(LL,Ew (zI I hg hm hv ?_ hn j),Y),{I.ok,I.os,@b_,(v_,I.base.free,I.base.tups,I.base.frzs,I.base.tbls),Y,Z,@bl,@rc,@Ŝ,J (ab L ύ ώ) hs,by simpa using I.len},apL p j t _ @Ì @d aq Y @sd v @Ē X (λH2 u f0 ds U F0 y N keep=>@ľ),by delta PC PE at*;ext pins s σ H Q I h;clear hk;calc@DW;calc(kN,λF s1=>Lg λy H1 O B k n q1=>(LM,(La,s1,H1,(Ms,@Î),O,@Ű),?_));subst z D n;obtain rfl:u=@fo:=rv;calc Y;rw[<-(@su)];show oT @nj _ @aw! @d q1,σ=[@bF,(T,m),@el,v3,(T,S),(T,Lq),(T,F),Y,v8,G]/\@ayz/\@OO/\sg n dd C u i Z l,bv λd c a S q ns=>Y,bn (bV @Ğ X.w) X.A Y Z L s,λb H3=>(V,b,te I H3 λy H4=>∃acc,(á,H4 D,acc)/\acc.length<bq/\Y,Z),mH (K:=K) (n:=2) @d (ga (jc,Y,Z) (ga (jc,L,ύ) mB)),(jp,l.refusal,Y),V->Y->(Å,Hp,VK),bR I vs=@aG/\tt I H2 Y,restOf (U.drop i) i,(xs.take Y).map @rE,(s1.trans s2).trans Y,Binds X.K fd ps,nh Y @b? [],(_M.walk h @Ý Y).1,be @Ğ X.w X.K X.mg @b9 Y k f fd ps sp,(hX Y).map @é,bv λp st M X n rf=>Y,(ek,j.cells.lookup Y),(by rw[Y]at z;cases z),ha pos @Æ Y σ Z _ L h,oB Y (c9,100000<bq),∀σ' H',N σ' H'->Y,X.blk s H bz (pw,Y,Z) B,@BE||(t+Y+@m7+@b5)%2==0,zO (K:=K) (a:=Y) (xs:=Z) Pz L ύ ?_ ?_,yes Y ?_ H' _ _ _ R' Z L o',(b7 q).take Y,(pr,λb o hb e=>Y),o.findIdx λx=>x==Y,qD n sv rf mo Y I J tm v,(Â,Y,["deck","text"],l4 C (λns=>Z) oq),∀w l2,Y=.ok (w,l2)->Z,(l.filter (jx,Y,Z,L)).isEmpty,(p.map (au,Y)).sum,(U.getD Y []).length,λσ H Q=>ta σ H Y,oJ Y @b? @BK,I.freeC x c,(cQ,(Û,p,Y),@ã),m=@Ï-i/\@By/\Y,.ListComp qN [⟨Y,iter,N,0⟩] bz pos,((Y++Z).map @ê).Nodup,(Jk,dw @BP Y),(an,Y,"numbers","size",Z),(settle Y @gV @c0).1,(ŭ,show(j5,@ö)=Y by rw[Z]),let Pz:@aF:=Y;Fd Pz (λσ _=>Z) L ?_,o.findIdx λc=>c==Y,∃(a:aa)(ns:@À),Y,(X,K.lookup Y),(be,(œ,ys,Y)),(kf,["deck","text",Y],Z),ah H2 p (.ins C l Y),∀b u,(ū,Y)->@aua,(a3,.str Y,@ab),T.hand i x hi,place_lt Y (no:=1) @C,∀σ H,(el,Y)->@BB,(_M.walk h @Ý Y).2,(by rw[Ţ,Y];cases h),(e0,{[],Y,λa m=>@aur}),ah Y x (Ð,[]),wQ Y _ @d Z _ _ @auq,(g4,@Ċ/\(A,Y)),(Y/w+Z%w+aD L+@rV)%2==0,k b u Y h1 h2 h3,(rZ Y n).length,HR @q!,λi H x H'=>H'=H/\Y,∀(s:aK)(us:@X),Y,(zs.find? (e_,Y)).map Z,by ext z;show Y,(E,Y,"number"),(aE,apos.endLine,Y),∀a h,@jL->@em->Y,(hc,Y,Z,L,om λ_ _ _ _ s5 _=>ύ),q1 hk _ (R2.re (dx:=l) Y Z L),((r.drop (i*w)).take w).map Y,.builtin "type.__call__" ⟨Y,j⟩,I2.unlock Y (I.nofrz hd j),(kC n Y t).1.mc.mv,l.filter (jx,@ef,Y,(Jn,Z)),td σ H1 λx H2=>Y,λno=>eQ Y no !=@rZ,(bP Y).foldl (λm i=>J3 m @ů) 1,λi h st b hb=>by rw[ŉ,it];subst e;clear st;rw[Ë,Y];show Z,@gY=@b!->Ud Y @jz=pure @hq,(gJ,N @Æ s1 σ H1 _ O q1,Y),some (.builtin Y),(l.take Y).map f,∀(j:Nat)(hj:@fM),Y,(cQ Y l).length,.error (N1 e Y),(mX k Y).reverse,Paired.mapP r,λi h h' st k=>st.at Y,uH.mpr (tD (jD Y)),s.heap.IsList l,(cs.take Y).filter @CM,(rX Y).map @Cc,(å,h.take Y),(b2,hp,@rq,Y),(bw,@jh,Y),ty σ H λy H2=>Y,ty σ H1 λy H2=>Y,xy K @ck Y=some @u,(zs.find? Y)=some z,(H,l,z)->@bs->(kk,Y)->Z,(E,Y,1)||decide Z,iw @Ğ X.w H',(_M.settle Y ss W).2,dI @A ?_ Y ?_ ?_,fH Y ((.word J,p)::Z) (Q,a1),(qD,aq,?_,(Ć,(Ć,Y))),(((Y::Z).reverse.map V.bl).dropLast)=L,place_lt Y h1 h2,(settle Y @gV @c0).2,∀v,Y≠.cell v,((l.zipIdx.take Y).filter p).map f,OK (λd=>Y) @bw,((og m).take Y).filter @au2,(cI,Y,B.sorted,ajF,Z),(@Ĳ,x.place)::Y,(cO,@auO,(d,xU,Y)),ah H3 d (Ð,Y),by rw[Y];simp;simp_all,tS (tY (K:=K)) Y xO (ng Z),Y<@Ì\/Z<@d9,some {m.mv,Y,@i2},(R,(eu,U,TP.nN,Y)),(È,Y,["size","number"],2,Z),gk l @ģ (kq,Y),∀c o,@jD->(X,H7 c)->(X,Y),CO D _ Y @d @d Z ?_ ?_,@au->(∀j,j<@Ï->(A,lt j i))->Y->Z,c σ H λb H1=>(V,b,Y,Z),(((bP n).drop i).filter λj=>Y).length,AR Y (λc hc=>h c (by simp[e9,hc])),{s3 with heap:=s3.heap.push (jt,"slice",#[n,Y,Z])},p.1=q.1/\Y/\RelV p.2 q.2.2,(kJ,@fw,@sE,_,Y),(á,(ah H p @c_) D,Y),(CA (v:=@Î) hg hm @d hd).out @Æ Y σ,eq_of_beq (JY (p:=λx:@nJ=>x.1==Y) e),∀c o,@jD->c≠F->@auT->(X,Y),by exact fu Y::Z=_;rw[X,hw];rfl,LF (n:=Y) (λi=>Z) @e hD @ę @auP,jR Y hd _ Z L es (oN ep U h2 h3 h4 h5),CJ P w K mg @ĝ Y @đ s H,(bP Y).map λ(i:Nat)=>Z,∀z∈acc,z∈Y,l.foldl (λacc x=>Y),∃c,1<=c/\@jl/\Y,∀(l:@h)(r:Row),Y,match Y with|.error q=>@fj|.ok x=>Z,_,∀c∈e9 x,Y,cw λv H1 O rv q1=>Y,{s with toks:=@Ĝ+Y},λb o hc e=>⟨o,Y⟩,∀(pins:@Ç)(s:aK)(σ:St)(H:Hp)(Q:Y),Z,λσ H Q=>(KB,Y),s.heap.IsTuple Y @ò,show p∈Y from hp,{cls:=@fu,dict:=Y,data:=Z,slots:=L},I.laid (t':=@Ĝ),Paired.snoc r,am9 Y (λW od kV M pm z=>om Z),(ns.map Y).map @é,λi σ H' _ h=>(cl,Y),(og m).filter Y,(d,hh.len,Y),(E,Y,"word"),(É,li l Y _ _ @d @d Z L (ac,ύ,ώ)),(Ä,g8 i0 Y),by rw[e1,Y];simp,by rw[Y,dE Z];simp,gW k (A.deeper Y),_L.Inv X (Y++@Æ) σ,by ext pins s σ H Q I h;calc Y;show Z,(gJ,Y,g9 λv H2 I2 rv z D=>Z),λi H'=>@Í/\Y,(ŕ,40=40/\Y),_,(e2,(ð,b,Y)),.inl (aU Y Z (.inl L) @d g2.symm),show Y by let:=Z;omega,HT.pK @Ï @Ï,(H,zs,z)->@bs->(kk,Y)->Z,I.laid (t':=@Ĝ) (o:=Y) Z @Â,Iv @d @u,ab z (Au _ Y) he,∀Q':@cC,Q' b H->Y,(lc n m f @Q Y Z).1,(mO n j Y).map @ê,(q?,(kd,@hx,Y)),(bR,d,Y,(et,@jj,3)),aY @avZ (yW n Y),Rm Rn (Rm Rn Y),R.re (dx:=dx) Y Z @cc,(_M.settle Y ss W).1,(u,oM,(M Y Z).len),(P,@ď,"word",Y,Z),(R,(jp,l.move,Y)),(gq,Y,@hr,(ì,fj)),im @d @d Y Z @d ?_,(V,Y,aD @BG,0),ah H3 p (Ð,Y),(j_,@K,Y,xO),wO Y _ @d Z @d _ @ľ,show(qm,Y)=Z by rw[eY,L];rfl,∀c,r c->@jT\/Y,Y/\G i @c3/\@nS/\Z,(ń,l,Y)/\@jm=some Z/\(q5,L,s),Inv @kp [] Y H' s',Iy Y Z (λQ' q=>L) @sb @sb ?_,@nx->(Ë,s,Y)->x∈m->Z=L,_,KW m @b5 o Y p,(K!,(ac,a,Y)),aY o.1 (AO o.2 Y),if Y then 0 else 1,(old++l).contains Y,Vg hm (λc hc=>Y),(lS Y p o).length,λb o _ _ hc e _=>⟨o.slots,Y⟩,λv H2=>v=Y/\H2=H1,∀i H,@By->@dj->Y,aa8 awV.lookup hs,_,((l.take Y).filter p).map f,aw3 (λi v=>(Æ,Y,Z-1-i,v)),λvs H Q _=>(JM,(kd,(eo,ns),Y)),aA (eh @Ô Y @d),(g8 i0 n).reverse.drop Y]
example:=#[_,_,_,_,_,_,_,_,_,_,_,_,_,_,_,_,_,_,by rw[pz,(?_:(_:TS) Dz sz _)],_,_,_,by (try apply let Xz:_L.Cx:=_;(?_:∃t,bw Xz _ t/\_)),by apply aE Y Z,_,_,_,_,_,_,by apply bj Y,_,_,_,_,_,_,_,_,_,_,by rw[pz,(?_:(_:(jd,@fg,@aF)) sz _ @at1)],by apply bg Y,_,_,_,_,_,_,_,_,_,_,_,_,_,_,_,_,_,_,_,_,_,_,_,by rw[x,bE.1 Y,Z],by apply⟨Y,Z⟩,by .rw[Y];show Z,by rw[this],by .show .inl Y,by apply ab _ @d Y,by apply bW Y Z,by .show .inr Y,by let e2:Y=Z:=L,by let e1:Y=Z:=L,by .rw[Y,Z];show L,by apply cV Y,by rw[Á,Y,?_],by .show absurd Y Z,by refine jO,by rw[Å,(É,Y)],by apply(š,Y,Z,L),by rw[ß,(à,Y)],by show absurd Y Z,by rw[Á,@ð,Y],by refine kK.2,by rw[à,Y,_,Z],by .rw[Y,Z,L];show ύ,_,by show@d,by rw[aw,kG],by .rw[Y,Z];rfl,by rw[ß,(è,2,Y,Z,L,ύ)],by apply cy Y,by rw[Å,(Ů,Y,Z)],by rw[Q,?_],by apply ab _ Y ?_,by apply(Ē,Y,Z,L),by rw[Ð,_,@d,Y],by apply ab Y Z ?_,by exact Y=@u,by .rw[Y,Z,L];rfl,by rw[Â,aF Y,Z],by rw[Á,?_,Y],by apply dH Y,by rw[Ð,Y,.inl Z,L],by rw[Æ,I.list Y,Z],by rw[this,Y],by apply cw Y,by apply@í,by rw[š,Y,Z,let bI:TS:=L;ύ],by rw[í,_,Y,Z,(eh,L,ύ)],by clear x;calc Y;show Z,by apply(ar,Y),by show@á,by (.cases h),by rw[Â,aj Y,Z],by rw[aj Y]at h,by rw[î,Y,Z,ax _ bI,L],by rw[Ò,@d,Y],_,by rw[ak,hp,Y,Z],by rw[bB]at hi,by rw[Â,z,Y],by rw[Â,q,Y],by rw[Æ,I.tuple Y,Z],by .apply Y;rw[Z];show L,by rw[Â,dt.1 Y,Z],by rw[aj Y,aj Z],by let{dx,hp}:=@mD,by .let:=Y;omega,by rw[ß,(Č,Y,Z,L)],by rw[x,id Y,Z],by by_cases hn:@Ċ,by rw[Â,ag Y,Z],by rw[<-e],by show(ć,Y),by rw[ß,(ħ,Y,Z)],by rw[Ð,Y,Z,?_],by let:Y=Z:=@e,by rw[ç,?_],by let{t,rfl}:=J,by rw[ß,ay Y Z],by rw[Æ,id Y,Z],by let g:i<n:=Y,by .subst e;show Y,by .rw[aw,Y];show Z,by rw[Â,e,Y],by apply@bB,by rw[<-this],by rw[Å,?_],by let ge:(cT,Y)=Z:=L,by rw[d8,Y,@jj,Z],by ext _;show Y,by let e:Y=Z:=@e,by .rw[Y];rfl,by rw[ag Y]at h,by (obtain rfl:u=@fo:=J),by rw[è,a,ha,Y],by rw[e]at this,by .exact Y;rw[Z];show L,by rw[Ó,@Ę],by rw[Ę,@d],by rw[ß,(è,1,Y,Z,L,(à,@K))],by show .cons Y Z,by (.rw[Y]at q;cases q),by rw[ė,@fp,Y],by let mz:=eD Y,by generalize@ct=tx at*,by rw[Q,@aK],by rw[á,@Ą],by rw[Ă,Y,Z,(à,L)],by (.rw[Y]at h;cases h),by rw[d_,Bo ha],by rw[š,_,@m_,(ì,a6)],by let:i=n:=@Ä,by rw[a',@e],by let{jz,fO}:=Bn (K:=K) ha hok,by rw[a_];show Y,by let{t,rfl}:=r,by exact bn _ @mu (Y>>=_) _ _ _,by rw[e]at h,by refine xn Y,by let kT:Y⊆Z:=L,by generalize(ap,Y,Z)=H2 at*,by show .inl Y,by rw[Å,(Ţ,p,Y,Z,L,ύ)],by exact bn _ _ Y _ _ _,by let aQ:Y≠Z:=L,by apply f7 Y @rO,by rw[(@cw)]at u,by rw[Ă,Y,Z,(ħ,L,ύ)],by (.rw[Ţ,Y];cases h),by rw[d',Y,Z,(je,L)],by rw[bG.ref1 r],by rw[d?,hl],by let h0:0<n:=@e,by rw[Ú,aq,bF],by rw[Ė,Y,Z,Dk h6 n],by rw[a9,_,(ũ,aR,aP)],by apply(c0,Y),by rw[À,hx,Y],by let e:b=Y:=@mX,by let s1:=(ä,Y,H,Z),by rw[ţ,Y>>=_],by by_cases bK:@m?,by let gw:=@bC,by rw[Á,fw,@da],by rw[a!,Y,@Ï],by rw[pA,@Ï,Y,Z],by simp at h,by rw[H.len],by by_cases h0:u=0,by .ext h;show Y,by rw[x,lI.1 Y,Z],by rw[aj h1],by rw[Ë,@mY],by rw[Ò,Y,@Ó],by rw[Ì,hw _],by let:Y=0\/Z=1:=@e,by rw[Ê,e,Y,@fC],by rw[d!,@r2],by apply jH @mD @auc,by rw[ea,hD],by rw[á,(Ũ,@aI,@Ą)],by apply jH R2.ins (λl u cP g=>?_),by rw[a9,Y,let a6:TS:=Z;L],by rw[e,Y]at h,by exact bn _ _ Y _ _ s,by (rw[e]at hi;cases hi),by rw[ag (λh=>Y)],by rw[q]at e,by rw[aw,fO],by rw[ã,(ŕ,Y=40/\Z)],by let ih:=M Y,by let{b1,b2}:=r9 J Y,by let C:=lz Y hn,by let N:=Fh t p,by rw[aj Y]at q0,by generalize(Ľ,Y,Z)=H2 at*,by show(show@fd from r).elim,by rw[x,@i9,Y],by rw[Ð,Y,ak.of Z,L],by rw[aj @d],by rw[À,hc,Y],by rw[Ì,h6],by cases r;rfl,by rw[Ĳ];rfl,by apply b9 Y @bw,by rw[Ď,st',Y],by rw[d_,FC ha],by rw[Ě,bF],by rw[ģ,Y,ih],by (rw[Y]at h;cases h),by rw[qT,rQ],by rw[ø,@jh,@cm],by let s2:=(Ŗ,Y,s1,Z),by generalize(Ù,H2,Y,Z)=H3 at*,by let:Y=[]:=rS.1 Z,by let I:@Ċ:=@BX,by rw[Å,(I9,@bG)],by .rw[e];calc dg (R,@at');show(jC,Di h6),by .rw[e,Dm];calc dg (R,@at');show(jC,Dj h6 n),_,by apply(kc,M,@auo),by let jx:@eo:=by ext e;show(JJ,@aH,(Ò,@ö%2=0)),by apply(gF,tx,jz,@js,bU @e @Ē @ą Y),by rw[Å,(Ţ,p,dx,Y,Z,L)],by cases B;show Y,by rw[Ò,@at9,jP],by rw[Á,Y,λq' z=>?_],by rw[x,Y,λys hy dQ=>?_],by generalize(û,Y,Z)=H1 at*,_,by let jy:@aE=Y:=(jR,Z),by calc aM Y Z L<;>show@BH,_,by .rw[x,Y,Z];show L,by rw[ag @C],_,by rw[ø,T.outer,Y],by rw[ø,@mK,Y],by by_cases e:p.1=k,by rw[hz]at this,by let h1:=h Y @A,by by_cases e:j=i,by rw[e2]at e,by rw[iO]at e,by let n:(cT,Y)=Z:=L,by let{hp,g,d,tk,os}:=s,by let s4:=(Ŗ,Y,s3,Z),by rw[W]at ik hh,by rw[Å,iG (eV Y) Z],by rw[Q,AG Y],by rw[Q,T1 Y Z ?_],by rw[aj (Ì,Y)],by rw[À,Y,@B8],by .rw[Y];omega,by rw[ú,@auE],by rw[ă,Y,@BU],by rw[Ň,(ez,hp,p,Y,dZ Z L ύ ώ Ϗ ϐ ϑ)],by rw[Á,Y,λq' z=>@bt],by rw[č,Y,(Č,Z,L,(à,ύ))],by rw[č,Y,(Č,Z,L,(ħ,ύ,ώ))],by rw[í,@cf,Y,Z,(eh,ax _ bI,L)],by rw[é,U,@nq],by apply{Y,?_,?_},by rw[a?,hx,@nr],by let O:=we @aM hi,by .ext x hi hx;rw[zC hi]at hx;rw[dt.1 hx];show Y,_,by let C:=wt R h0,by (wp_walk using vZ hl,vZ hb),by rw[š,@cf,@Ũ,(ì,a6)],by rw[mi,cT,jB,<-Y],by rw[pB,(E,@ó,@Ì)],by apply f7 (EU T hi H hf hx O) Y,by apply let aP:TS:=_;Y,by rw[a8,let aR:TS:=Y;Z],by let{t',rfl}:=B,by let hi:i<n:=Y,by rw[â,Y,bC Z @A @ð h0],by rw[x,rv.get Y,Z],by (rw[e]at hj;cases hj),by cases J;show Y,by rw[Č];show Y,by rw[Å,(eu,g,TP.nK,Y)],by rw[x,Y,λys oy dQ=>?_],by let O:(bQ,@fr):=Y,by (rw[e]at hx;cases hx),by rw[ew]at hi,by .rw[Y]at h;show Z,by rw[x,vals1 r,Y],by rw[Æ,O.list Y,Z],by rw[d8,Y,@rx,Z],by rw[ï,Cz λ_ _ _ _ o _=>bj @aum,Y],by let s1:=(ö,Y,H,Z),by rw[Ė,Y,(Ū,Z),(df,@nb,L)],by rw[(@nn)]at hx,by rw[(@r')]at hx,by by_cases hk:@hk,by rw[x,r.get Y,Z],by rw[x,K4 ha,Y],by rw[x,Y,λx hx ex=>?_],by rw[bd,@cm],by rw[pk,cG,cG],by let O:=@nE,_,by let k:=@ao,by by_cases h0:Y=0,_,by let{n,u}:=c,by let{h1,h2}:=h,_,_,by let{x,hx}:=aiH Y,by let{g,fV}:=jk.1 hx,by rw[eZ]at fV,by let{p,hp}:=N6 _ Y,by rw[hd]at N,by by_cases h:Y=k,by let{a1,X}:=a,by let X:=@au3,by rw[e]at hr,by by_cases hb:b=Y,by by_cases bK:i<Y,by let e:@ny:=e,by rw[e]at st,by let s3:=(ö,Y,H2,Z),by rw[ew]at hv,by generalize ah H2 Y Z=H3 at*,by generalize ah H2 d Y=H3 at*,_,by let{dM,ec}:=@Cd,by by_cases hp:@bD,by rw[nF]at e0,_,by rw[aw]at dQ,by .cases e;show Y,by rw[x,rv.one,Y],by rw[Á,Y,λq U=>?_],_,by rw[ag @A],by rw[Ë,@sx],by .subst e;simp,_,by (.rw[ô,Y];cases h),by (.rw[ě,Y];cases h),by rw[è,a,@ŭ,Y],by apply kO Y (λwf he l1 e1 e2=>?_),by let:@CK:=@e,by rw[ď,@Ä],by let hl:Y=@b!:=Z,by apply dg ?_,by (rw[Y,e]at h;cases h),by rw[ĝ,@CI],by rw[š,_,@fz,(ì,a6)],by exact Y=some (HO.lst Z),by by_cases e:j=k,by rw[Û,Y,@Ĵ,Z,(à,L)],by rw[ŋ,aiX Y @fu],by rw[ao,R.outer.len (K:=K)],by rw[Á,Y,λq z=>?_],by rw[hc]at ge;show dg (j7,(c3,Y)),by rw[hc]at ge;show dH (j7,(c3,Y)),by rw[Û,Y,Z,(æ,L,ύ),(ħ,ώ,Ϗ)],by let hj:@auY:=@nu,by .next z=>rw[hb]at z;omega,by apply b9 @bw (js,@dh,hc),by let{W,p2}:=(qy,J),by rw[x,H.surj Y,λj hj e=>?_],by rw[H.len,aj hn],by rw[pK,@avc],by let h1:(A,Y||Z):=@nm,by let{x,ex}:=tm hp,by let ug:r.length<f:=Y,by let ny:=RC hr,by cases hk;show(b5,Y,@d,Z,@d),by rw[Â,Ey,j_.2 @ļ],by rw[Q,Oh Y aiY ?_],by let:((λD:Y×V=>Z)∘L)=ύ:=ώ,_,by rw[ef,Y];cases e;rfl,by rw[Ŋ,@bv,hz],by rw[í,@cf,@Ũ,_,@aus],by rw[hs]at hw;rw[Y,dE @ø,dE (λq=>by cases q)],_,by .rw[pJ,Y,Z];calc(fd,L,ύ);rw[(@hy),e];show ώ,by rw[Ñ,(ŵ,Y,1,Z,L,1,ύ,ώ)],by let b_:(t.map @ċ).length=@Ú:=aw _,_,by rw[pH,l,(by rw[bB]at hx;cases e:l[i]? with|none=>rw[bg]|some z=>rw[pI])],by let e:st'=Y::st:=(cM W).symm,by let:(Î,16777216)=bq:=@Ó,_,by rw[š,@cf,_,(ũ,a6,aR)],by rw[ý,@a',gU,k],by
  .ext z m;rcases bX.1 m with m|m;.show⟨Y,Z⟩
   .cases dt.1 m;show⟨L,ύ⟩,by first|apply bg (ajq @my @aK)|apply bg (ajr @my @aK),by rw[ĥ,(qh,@nl,@nG,@İ,I,aM @Ē @ą (λH2 s2=>@Ą))],by (cases y with|non=>rw[al,Y]|bl j=>rw[al,Z]|int j=>rw[ı,L]|str j=>rw[ı,ύ]|_=>rw[am]),by rw[Æ,Mv.push (x:=Y) Z L,λacc e1 e2 e3=>?_],by .ext b o e;rw[(dE,y)];show Y,by rw[ç,(cO,.inr Y,?_)],by .rw[aq,bF];simp,by .rw[Y]at q;injection q with e;omega,by exact bn _ Y Z _ _ s,by apply b9 @rB @rB,by rw[ä,Y,D,one Z h2 h1 L],by exact bn _ _ Y Q E s,by rw[ķ,z,@bv],by apply zJ (aaL @Ŕ e) Y,by rw[ap,z,@bv],by show .inr (Ñ,q,h2 q hr),by rw[í,@cf,@Ũ,@Ħ,(eh,_,Y)],by rw[pD,@awm,@awg],by rw[pD,@awq,@awi],by let{b1,b2}:=d no db,_,by let b_:(lQ (gI,Y) @ô).length=n:=Z,by
  .ext i x hi hx;rcases c i x hx with q|⟨_,q⟩;.show Y
   rw[û,Z],by .rw[Å,(eu,U,TP.nK,@cm)];rw[gU];show k,by let hz:@bm<=bq:=(K,rel.length,z),by rw[Q,Oi T @d ?_],by let k:=q0 H2 @bC,by (rw[F6]at e1;cases e1),by rw[î,_,@nA,@sY,Y],by (.rw[s];calc q2 @ķ;rw[Y,Z]at hc;cases hc),by (let z:p≠Y:=λe=>by rw[<-e,Z]at r;cases r),_,by apply kO (LJ @Ŕ e) @r8,by rw[pO,r,(by rw[pS];cases e:r[i]? with|none=>rw[Ť]|some z=>rw[eb])],by let agZ:0<S.words.length:=BY.2 hw,by rw[Å,g _ ?_ ?_ q dx y ?_],_,by apply EQ @avQ (λe n ne G d=>?_),by apply(eC,T,@m2,(cZ,(À,hw _ _))),by (let b:p≠X:=λe=>by rw[<-e,O]at a;cases a),by let B:=K9 H J,by let i:av8 g=w:=@hE,by let S:=ye @cc R.h0,by let hsz:(dj,@d_):=@au8,by let e0:=dS (λl:@P=>l[0]?) Y,by (obtain⟨ws,z,rfl⟩:∃ws z,Y=ws++[z]:=Z),by rw[py,(?_:(_:(ú,@aF)) @at1)],by rw[Å,(Ţ,q,dx,Y,T.nK,@cm)],by rw[Ñ,(gk,[(Y,2),(Z,3)],L,ύ,(hj,2,ώ,3,Ϗ),@hb,ϐ)],_,by clear h;calc fb λσ' H' I q=>?_;show fM σ' H' I.unwish q,by rw[í,_,@fz,_,@aus],by rw[Y,(@ğ),(@ğ),(@ğ),(@Þ)],by .rw[s];exfalso;let h9:(v,S.words.length)=0:=@Ī;simp_all,by clear q;calc cw λσ' H' I2 e q=>?_;show fM σ' _ @av7 q,by apply(Ŏ,a,r,n,bU ha R hn @sw),by (let M:Y:=λe=>by rw[e,aq]at hD;cases hD),by let v:pT Be (bm,Be):=@dl,by rw[á,fM 1 @rA @d @es],_,by rw[(@Ĺ),(@aQ),(@j6),ag h4,Y],by let s1:@ō:=λb o h=>k1 b o (Ç,@Dk,(pP,rL),h) (eT h m),by let{ws,hw}:=El.1 hg;show wk ws z hw,by apply ajb (h₀:=@b9) I.ok.mod.kin Y Z he fo,by exact ax _ _ _ _ Y,by let C:=jw S _ (by simpa using y) T,by .rw[bo,Y,8,(Q,hw)];rw[hw];show@Dj,by .rw[p,mQ,bF,eE,tp];rw[(@BS)];simp,by rw[bl,hd,wO t ys @d @avi @d _ @ľ],by .rw[aw,bF,eM,xu,tp,(@BS)];simp,_,_,by rw[Ň,(fb,hp,(Kz,(K1,(é,n,@Ĩ,R.h0,R.hn,@d4,λH1 l1 s1 m1=>?_))))],_,by apply Iw _ h @A @av1 ?_ ?_ ?_,by .let m:=Y;show{@jB,st _ _ _ _ (Rk s) @jB @nw},by let W:=ajj (prog:=@Ğ) (w:=X.w) (A:=@mu) hh Y l M5 @ò,by rw[Å,(Ţ,d,dx,Y,Z,L)],_,by .show rG λl e=>by subst e;show{Y,@mW},by rw[Å,(bR,p,Y,aM @d? Z (À,L))],by rw[Á,λw l2 h=>@Ŧ,Y],by let fO:@at!=n:=(pB,Y),by let s1:=(ŗ,H,Y),by rw[e]at hi;show(Ñ,z,(cM hi).symm),_,by rw[e]at hi;show(Ñ,c,(cM hi).symm),by rw[z]at this,by let{t,e}:=show∃t,u=Y from r,by rw[x,mq.some_of (v:=v) (o:=Y) Z,L],by rw[Á,λw l2 h=>?_,Y],_,_,by .next q U=>rw[an,@hw];cases z;show Y,by rw[Q,Kb hT Y ?_],by let{hd,hi}:=hg,by let s4:=(ä,Y,H3,Z),by cases hr;simp,_,_,by .apply(kx,Y,Z);let{e,y}:=y;subst e;show L,_,_,by rw[dE Y,zd]at q,by rw[x,P6 Y,λx g O=>?_],_,_,by .rcases P1 hw q with q|q;rw[Ç,Y,<-û,.inl Z],_,by (cases hg with|one=>show Y|mul hm _ ih=>show Z),by let{rfl,rfl}:=QH jx n,by let{o',e1}:=I.base.there b o e hx,by apply(bs,?_),_,by rwa[aw,Y]at this,by let{k,hk,rfl}:=oC hx,by rwa[aw]at this,by rw[(@ag)]at this,by let O:=I.laid (a:=Y) (o:=Z) (h':=L) (t':=ύ) ώ Ϗ ϐ,by by_cases h1:@hk,_,_,by by_cases h1:@cB=m,by by_cases hi:@hK,by by_cases h2:@n_,by by_cases h3:@n1,by by_cases h5:@sV,by let ep:Y=[]:=rfl,by by_cases d:@hk,_,by let F:Y=@o:=e,by let{t,rfl}:=B,by let{{dx,hp},ja,l,aQ}:=id R,_,_,_,_,_,_,_,_,by generalize ah H3 Y Z=H4 at*,_,_,by generalize(Ù,H3,Y,Z)=H4 at*,by generalize(Ù,H6,Y,Z)=H7 at*,by by_cases h6:@jr,by let hz:Y:=axb h2.2|>.1,by let{dx,hd}:=@mD,by replace g:(hf,(cT,Y)):=g,by .ext x hx;show Y,by .rw[zi]at h2;show Y,by rw[Å,Qj _ @d Y],by rw[Å,λp dx m rL aQ=>?_],by rw[E,λxs U hx=>?_],by rw[Ä,(N c).2 Y],by apply f7 Y (λG r2 r3=>?_),by (rw[bh];cases hi),by (rw[Ĵ];cases h),by rw[Ĥ,qE h1],by rw[Ĥ,wS h3],by rw[ň,λy hy aW=>?_],by rw[ň,λi hi aW=>?_],_,by rw[é,U,@auy],by
  .split;.show Y
   .show Z,by let jy:@aE=Y:=(hy,Z,iM),by rw[ü,U,@auy],by apply Cr Y (λhR fB l1 E P e1=>@avn),by apply(ų,?_),by apply(aI,(C,Y,aq),Z,L),by let g:Y:=by simpa[oM]using hi,by rw[be,R.told.len (K:=K)],by rw[bf,(Jr,@ta)],by apply b9 @fh @bw,by let:=(Ř,e1),_,by let q:=q0 H @ŗ,by let h_:=Im hp,by rw[bj,λu j J=>?_],by rw[ĳ,tryCatch (B5 Y) _],by rw[bm,⟨o,e⟩],by let e:gu Y=HO.tup (aB,Z,L):=ύ,by apply fb λxs x U hx=>?_,by let hn:0<n:=@e,by rw[cT,pd]at dJ,by rw[Â,h,@kd],by rw[é,hs,λaG rv hl _=>?_],by rw[b6,b6]at this,_,by by_cases e:b=g,by by_cases e:p.1=j,by let e4:=pF H2 Y,by by_cases hw:@mM=[],by let s3:=(ŗ,H2,Y),by rw[ag he]at q0,_,by .show key _ e3 Y,by rw[ã,(ŕ,c=41/\Y)],by exact(Y++Z).length<=_,by rw[Û,Y,@De,@ko,(à,Z)],_,_,_,by apply Cr (I.new x hx) Y,by rw[í,@cf,_,@nA,(eh,_,Y)],by apply Fb (hD,Y,.tup Z,L,ύ) ώ,by rw[bk,U,@nB],by rw[bn,@ev,hD],by apply(dJ,n,@Ę),by rw[î,@fz,_,@awc,Y],_,by .rw[aj Y];rw[as,@ķ,@ķ,Z],_,by let tm:=@eW.mem H ps h Y,by rw[a9,@cf,(ì,aR)],by rw[pR,by rw[pE]],_,_,by exact km Y Z (_++[]),by let b:=_M.Lb @İ Y,by let h2:=axa Y @d,_,by let hi:=hl i @A,by let D:=lz (Ò,@ř<=n) hn,by let dJ:o.Nodup:=@avm,_,by let O:x.1=@ĵ:=(Lb,@ĵ),by let{hm,e}:=(KN,H),by let e:=AY (sv:=Y) (ms:=Z) (l2:=[]) L,by let v:eI @Ì @Dg:=Y,by let J:=Hx (r:=r) N c,by let X:=O.few hw,by by_cases hk:k=f,by let I2:aJ n Y:=(k?,Z),by let z2:=(kA,H1),by (obtain rfl:F=dk b:=B),by let z1:=(kA,H),by rw[bB,bB,Y]at e0,_,by .let h1:(Ź,Y):=Z;show(Jk,h1),by (rw[e]at hk;cases hk),_,by .rw[Å,(eu,U,TP.nN,Y)];rw[Z];show k,by let j:∀b u,(ŧ,u)->Y:=λb u e z=>Z,by .clear hm;calc lA λo es ep N r=>?_;show Ci o es ep (k _ o Y N) r,by rw[à,a,b,(Ã,r,q,n,ha,hb,Y)],by let{D,e1}:=I.base.slot b o e n hb hx,by let{k,hk,rfl}:=oC hy,by by_cases hc:@Fz=@Õ,by rw[drop_getD]at this,by let{j,hj,rfl}:=oC hx,by generalize@Ŭ=m at hm e,by generalize@CS=m at hm iB,by generalize@awt=l at g,by generalize@OX=y at o1 o2 M o4,by let{i,hi,rfl}:=oC hy,by let{o1,o2}:=hk.init,_,by let{a,ha,l}:=oC qa,by let{cls,dd,data,D}:=z,_,by let{S,U,ajd,O}:=j,by let{o,n,N,hc,_,hd}:=z,by let{c',F}:=mem_lookup Y,by let{a,vs,rfl,N,fU}:=am_ x,by let{v,vs,rfl,j,D}:=anb x,by rw[k]at G r2 r3⊢,by let{ps,dG,ht}:=bu,by replace ha:=Iu ha,by let{dx,hp}:=d.ins,by let{BI,iL}:=R'.ins,by generalize(L?,Y)=H4 at*,by generalize(g?,Y)=H2 at*,by let{Gc,c}:=R4.ins,by let{l,cP}:=R2.ins,by let{{dx,a},b,c}:=R,_,by let{g,rfl}:=El.1 BQ,by let{DZ,An}:=J.ins,by let hf8:=_M.aar r,_,_,_,_,_,_,_,_,_,_,_,_,_,_,by let{x,hg}:=_M.alG N,_,by let{x,y,l',rfl}:=ap9 r Y,_,_,_,_,_,_,_,_,_,by let{f',MJ}:=M.calls,by rw[x,BK.len (K:=K),Y],by rw[x,Y,λc hc N=>?_],_,by rw[x,Y,λy1 r Nq=>?_],by rw[x,Y,λN ahu Tp=>?_],by rw[Å,exit @n'],by rw[Q,tF Y Z λ_ _ h'=>h'],by rw[E,λi j q=>?_],by rw[aj (e1.trans e2)],by rw[Ë,λa e j q=>?_],_,_,by .cases dt.1 m;rw[aF Y];show Z,by rw[ň,λz mz bH=>?_],by rw[ŉ,@Ļ],by rw[ĺ,if Y then _ else _],_,_,by let h_:@Ļ<=Y:=Z,by apply jH @mD (λdx mv hp _=>?_),by rw[ø,@jh,@ľ],by apply gQ λit B G J H2 e=>Y,by rw[be,d2.len (K:=K)],by rw[bf,I.kept (t':=@Ĝ) Y],_,by let hj:@ds<n:=@nu,_,_,_,_,by rw[Õ,a,(k2,.inl Y)],_,by (rewrite[Y,Z];with_reducible try rfl),by
  .let F:Y:=Z;let b:L:=by simp[G7,rT,F]
   rw[ύ,b];show ώ,by let hn:0<r.length:=@e,by rw[bt,λB S e=>?_],by rw[bu,uA.get NH],by .ext b o e h1 h2 h3;rw[Y,Z];show L,by rw[À,hr,λi _ aW=>?_],by rw[eh,λq h=>@Ŧ],by rw[eh,λq' h=>@Ŧ],by .rw[bv];rw[gU];show k,by (.let:=Y;rw[Z]at this;cases this),by rw[pk,cG,cG]at hc,_,by rw[el,aiW.lookup],_,by rw[el,aiZ.lookup],_,by (rw[Y]at this;cases this),by (rw[e]at hy;cases hy),by rw[Á,@A,λr hr=>?_],_,by rw[Á,(hR,R.len),λr hr=>?_],by rw[ĵ,by simp[hl]],by .next q U=>rw[d!,@sK];cases h;show Y,by rw[ar,@g5,iM],by rw[eg,@ax9,Y,λw' hw D=>?_],by rw[ek,(kU,I.2 q U)],by let g:(Ÿ,H d):=(ā,Y),by let g:(Ÿ,H l):=(ā,Y),by
  .ext y hy;rcases bX.1 hy with q|q;.show Y
   rw[þ,q,Z],by rw[ý,.inl (.inl ?_),aF Y,h],by (cases B;cases x with|non=>rw[bb,Y]|bl b=>rw[bb,Z]|int b=>rw[bc,L]|str b=>rw[bc,ύ]|_=>rw[pL]),by (rw[a_];cases x with|non=>rw[bb,Y]|bl b=>rw[bb,Z]|int b=>rw[bc,L]|str b=>rw[bc,ύ]|_=>rw[pL]),by apply avI λdb=>?_,by let g:@rn:=Dq.imp @awu,by let sN:@D9:=(u,N.length_eq,iR),by (obtain rfl:n=1:=@e),by .rw[QN hb hk e,Y]at q;show Z,by rw[x,ht.get' (i:=0) (x:=Y) Z,L],by rw[pW,(hd.same Y).has z],by rw[Á,@d,λq J hc=>?_],by rw[Ð,U,.inr (cS.of Y),Z],by let:b=Y:=by simpa using hb,by apply kO (aa7 @Ŕ ha) @st,_,_,by rw[ď,by rw[oM,Y]at hi;show hi],_,by rw[Á,plain ?_,λq z=>@bt],_,_,by rw[ť,hk ⟨hn,h⟩],by rw[õ,@Ũ,@kf,@f9],by apply b9 @fh (kM,(lv,@axy)),by clear x;rw[Ü,Y];let{_,e}:=Z;show L,_,by let e:gu Y=HO.tup [V.int Z,@aH]:=L,by rw[Å,(dF,H1,s2)],by rw[î,@m_,@Ħ,_,@Fj],by
  let d:(A,@uq):=by
   delta n_;let:(A,@cv):=by simpa using fV
   rw[Ã];rfl,by exact(ő,@ul)%2=_,by rw[x,KI H J h0 Y,@DC],by let p:@D2=m:=l_ _ (eD v),by let v:(Ë,cs,z.2):=@tg,by .rw[wJ (p:=Y) e,(@j_),ih],by rw[é,(rz,hl),@nB],by rw[d',hp,@rq,@CG],by rw[Ĺ,u,O,@mK,Y],by rw[Ö,d,aw,nI,@ĳ],by rw[õ,@Ũ,Y,(fG,Z,@hr,@hJ,L,ax _ nG,ύ)],by rcases G.kinds with e|e|e|e|e|e|e<;>rw[e]at hx<;>first|show hk e|rw[Ò,hx,@ø],by apply{Y,?_,?_,?_,?_,?_,Z,?_},by induction y<;>show absurd @at9 jP,_,by rw[Gu (by simpa[g8]using hj)]at h,by apply jE _ @d Y @d _ @d Z,by let:=hd.length_le_of_subset hs,by let hn:@DF:=(bB,G.names),by let h1:@a3<j:=hc.1,by let hd:Y:=by simpa using dB,by by_cases hc:(Ģ,@ayB,Y),by let key:∀i,i<n->(at_ Y i).1=Z:=L,by let O:=(eR,Y,@ŗ,hT,hm),_,by let c:=PY T hj hx,by let b:(d+1)%r'.length=d+1:=Y,by let D:=Hm E c.2.1,by rw[N.length_eq,iR]at this,by by_cases h0:x.2.isEmpty=@o,by by_cases h1:@ý="number",by let a:g≠[]:=by ext z;let:=R.len;rw[ee];simp at this;simp_all,by (obtain⟨d,g⟩:∃d,Y:=(aK,Z)),by let{h1,h2}:=UX hx,by rw[(@E_),key j hj]at e,by by_cases hs:s'=[],by let{I,u}:=N6 _ aQ,_,_,by let{G0,F0}:=hl I u,_,_,_,by let{w1,w2}:=VA o s @C Y,by let{o1,o2}:=oh.init (n:=n) Y,by generalize cd q m=b at*,by let T:=tM (n:=n) h2,by let{f,r}:=B.best x g,by (obtain rfl:k=0:=@Ä),by let I4:Y:=I3.kept (t':=s3.toks) @CW,by let{as,hr}:=Dp.readsAll I ds _ aG Y Z,_,by let{od,O}:=I.lock hd j,by let ip:(ĺ,b,Y):=(K,CV,hb),by let{a,vs,rfl,N,fU}:=ana x,by let t':@kO/\Y:=by simpa[eW]using t,_,by (obtain rfl:u=dk f:=rv),by (obtain rfl:u=dk b:=B),by let hh:X.A.in1.handled=@u:=hr.hd,by let hv:Y:=by simpa using B,by let pI:=FW.pin (Y,P) @kR,by rw[bB,_M.qZ @e]at hz,by let{hs,_}:=(k!,I2),_,_,by let{pl,pn}:=(k!,R),by let ht:=(ĭ,Rx (v:=@Da) Y Z @ave),by (obtain rfl:ui=dk p:=ri),by let hb:(Ģ,Hh x,Y):=ha,by show fL (show(bn,_)from x),by .injection e with e1 _;rw[e1],by rw[x,@Ey,λq hp U=>?_],by rw[x,aa4 hk,λk' e r=>?_],by rw[x,x _ (lp _ (eD Y)),Z],by rw[Â,C1,bN (ø,pe)],_,by exact(Y+aD (@fW !=@o))%2=_,by rw[ag (d,hg,@tn)],by rw[Q,Ko hS @d ?_],by rw[Q,Oh (T:=Y) (b:=@o) Z L ?_],by
  let:(cj,λi=>Y)=Z:=by
   conv=>rhs;rw[<-alU H.len]
   rw[b6];rfl,by .ext Ha Hb i v hs;calc cw Y;show Z,by apply f7 (c z Y) (λc1 c2 C=>?_),by .ext j H H' p own s;calc Y;ext hs;show Z,by rw[ø,@g9,@cm],by rw[é,Jo,λaG rv p _=>?_],by apply jH @E2 (λv o N hd=>?_),by .rw[e];exact _=Y;omega,by apply kO (QF @Ŕ Y) @r8,by rw[Ď,hit,λo N hc hd=>?_],by rw[Ď,afX.1,λP afZ FQ jx=>?_],by rw[ü,hb,λj r2 p2 _=>?_],_,by rw[ü,ha,λaG G W _=>?_],by rw[e]at hx;show(Ñ,z,(cM hx).symm),by rw[aF (λq=>by rw[q,Y]at h1;cases h1)],by apply lT (hm.at (K:=K) (ſ,Y)) Z,by apply lT (R.ins r2) (λdx fs S ym nu=>?_),by rw[ą,@Ä,bN @Ä],by .rw[ax,Y];rw[gR,dQ,Z];show k,by exact some _=some _,by rw[ĺ,ajz _ @awb],by rw[jA.2 dB];simp,by .ext hi;rw[zC hi];simp,by apply i8 λla N J G i1 S=>gX λO U W M=>?_,by let:(A,@a6):=by simpa using fV.2,by apply gQ λk y I J tm R2=>cy λo0 jL nu=>?_,by rw[ar,S.length,zb],by apply Fb (wa,Y) (λ_ aG r o h1 h2=>Fe λn h3=>?_),by rw[ç,(À,s3)];rw[m3,Y,hp];simp,by rw[Õ,a,(Ŵ,Y,LH hp,(fv,@ha))],_,by rw[í,@cf,@Ũ,@Ħ,@ka],by .apply(kx,bK,Y);let{e,y}:=y;subst e y;show Z,by let:=fJ (i/fk (@Û-j)) (ſ,0<@Û-j+1),_,by let hz:x.2=[]:=by simpa using h0,by .rw[E,λo N hx=>?_];show(hX,by simpa using hx),_,by rw[bs,h2,λw ew D=>?_],by exact(@f5+_+@b5)%2=0,by rw[Å,(dF,H',hs)],by .right;rw[dt.1 Y];show(bb,aaq.2 Z),by (.let:=Y;rw[z,d]at this;cases this),by let hz:@Ï<=bq:=(K,@avq,z),by rw[Q,Oi N hd ?_],by apply aaV @ayk (λ_ _ _ _ o _=>cV λ_ e ex _=>?_),by apply aaV Y (λz y xs r o es=>UK λep h1 h2 h3 h4 h5=>?_),by rw[en,x.reverse,c],by .rw[(@nm),zd]at q0;show q0,by .let a:@hF=@b7:=Y;rw[Z,a,(@Þ)],by (rw[e,u]at hy;cases hy),by exact@DQ=(Ŋ,z.toNat),_,_,by let e:Wl=[]:=GH.1 BQ,by rw[É,@f6-(o,i),Y,@e],by rw[õ,_,Y,(jW,Z,L,ύ,(gl,il),(ì,nG))],by rw[đ,lX,aZr @C @C],by .next q U=>calc aM @j7 @j7 @sK;cases h;show Y,by let:@ni=(v,@aZ):=rfl,by .rw[Y]at o;rw[<-cM o];show PR Z g,by .rw[Y,(@E?)]at o;rw[<-cM o];show(PU Z U).trans ((PR L _).trans (PU R h0)),by (cases st with|nil=>cases hr|cons b st=>cases st with|nil=>cases hr|cons a st=>rw[eo]),by rw[ek,(kU,C.2 q U)],by .rw[ag e2]at h2;let:=cF h2;rw[av];show@DE,by .rw[ag e2]at h2;let:=cF h2;rw[ag @e];show@ky,by .rw[eC];show{o',(k',Y,e1)},by .rw[gG];show{D,(k',Y,e1)},by .rw[e];calc dg (R,(k9,@ed));show(jC,Di h6),by .rw[e,Dm];calc dg (R,(k9,@ed));show(jC,Dj h6 n),by rw[ey,(ù,q),f],by rw[pT,aj (cF hb),TP.nW],by let d:@bb:=λc hc=>hx c ((iB c).1 hc),by let gc:(Mq,Y)=n:=by delta lS;rw[aw,sN],by let p:gM n (x.2++[k'])=Y:=Z,by let fin:(gU,w,s):=(aU z H I D q),by let s1:=Um s2.heap S (qk @sp),by delta B4 at h;injection h with h;show@mb,by .rw[Y,Z,EW L];exact-1000-dU x.2=_;rw[ύ],_,by rw[Â,Dn (λz=>by rw[z,hg]at q;cases q),q],by rw[Q,ajp jx DD ?_],by rw[Ê,@kv,(ģ,e @auI),Y],by rw[pX,a,λm' hm z=>b m' hm Y],by .rw[aq];delta nL;rw[bF,bF];rfl,by rw[í,_,@Ũ,@kf,@ka],_,by clear hs;calc fb λ_ _ _ q=>?_;show oI q,by clear O;calc fb λj H7 V n7=>?_;show again V n7,by rw[ĳ,tryCatch (zg [v] (call @ņ [v])) _],by let sK:(fN zs).length=@aE:=by delta fN;rw[aw],by rw[x,hl j y v' e1 e2 Y,Z],by let F:b=e\/b=it:=@mX,by rw[pZ,@ax5<=256,kZ],by .subst hb;rw[aq]at e;cases e;show new,by rw[Æ,Vm H J hn h,Y],by show{_,_,@d,N,fU},by rw[gF,bU R S hn @sw],_,by rw[show(A,Y||Z)by rw[AE,oK,oK];omega],_,by rw[show du n @á=@Õ from rfl,xE ik],by rw[(Ct T).1 hg,lw],by apply this _ λl e=>?_,by apply(ca,@Ū,(LV,Y,@CW,?_),Z),by let aQ:@dz:=λz=>hl @axq,by rw[qT,Av,rQ]at hn,by let j:af H @ayf:=@EO,by let iB:(dH,@CS):=λc=>J6,by
  let c:(A,@ur):=by
   delta oe;let:(A,@cv):=by simpa using fV
   rw[Ã];rfl,by let c:w∈W:=aiM hw,by let c:@ayF:=by let:=(Ř,Y);rw[aw,<-(@avq)]at this;simpa using this,by let hk:=h.2.1 k @A,_,by let dJ:left.Nodup:=(d,qT,hs.imp @to),by (cases R with|nil=>simp|cons a R ih=>simp only[cT,jB,eE,ih];rw[Ec];omega),by (obtain⟨m,rfl⟩:∃m,n=@ü:=(aK,@Û)),_,by let h_:@Ŭ<=n:=(K,h,avW),by let hl:oh n l:=λy hy=>jw y @axw,by let nv:x.2<n:=(K,J.len,h1),by let hm:((e9 x).eraseDups).Nodup:=PL _ _ @Â,by let C:=_M.wt R h0,by let t:(aA,H2,S):=⟨J.2.1,h.2⟩,by let k:∀b∈A,b∈a::A:=λb hb=>@El,by let J:(A,aYG "dict_keyiterator"):=@Ó,_,by let u:Y:=by let:¬(Z%2=1):=λq=>L;omega,by let B:@cF≠[]:=by ext z;let:=C.len;rw[ee];simp at this;simp_all,by let hx:=hok.2.2 x @A,by let qa:x∈u:=(B.lvIn x).2 Y,by let P:=HN h2 _ it @d o1,by rw[aw,ht.len,iQ]at hm,by let hsz:@av8<=bq:=@OF,by let he:@f7:=(u @d).1 hc,by (obtain⟨⟨k,v⟩,N⟩:∃p,(H,kvs,p):={kvs[i],@bH}),by let{A,h1,h2}:=QL ds _ fU Y Z,by let b2:(jB,@avN):=b.same @ax8,_,by let fB:@EY=@Dd:=@axz,by let SH:(aA,H2,Y):=⟨pI.2.1,d.2⟩,by let k2:(hY,H1,Y):=(fr,@fT),by let r:(lw,ss):=@tg,by let ia:=(eR,@t8,@aw9,hT,hm),by let es:@eD=0:=by delta t_;rw[ag (λz=>Y)],by let b1:@h1:=(K,ec,(R.no_bounds dM).1),by let pY:(cP,@awK):=(K,CV,ha),by let kZ:=JE m g λc hc=>@av?,by (obtain⟨u,nF⟩:∃u,(bC,zs,u):=Y),by (obtain rfl:uj=dk p':=rj),by let big:(Î,Y)<bq:=@Ó,by let Gd:@g3=n:=(u,Y,Z),by (cases Lq with|nil=>rfl|cons x Lq ih=>rw[Ei,eM,ih];simp;omega),by (let:Y:=e;rw[this]at h;cases h),by let e:(bn,Y):=x;exact@avr=some Z;show k a _ @ì e,by .show(h2 b m).mono k,by .exfalso;refine hn Y Z L ύ d;rw[e1,e2,g],by .rcases zH hv with⟨j,u,rfl,rfl⟩|⟨y,u,rfl,rfl⟩;rw[bi,Y,Z,<-bi,L,ύ],by rw[Á,ab o e ex.1,λa e2=>?_],by exact aiD n c Y (placeOf (cQ Z L) @ayO)=_,by .subst e;rw[hg]at u;cases u;show Y,by .let{rfl,rfl}:=e;rw[hy]at hz;cases hz;show Y,by rw[ag (show¬(aE,@sM,AF)from jP)],by rw[Q,awX jx DD ?_],by .subst z;rw[eq];show KU _,by rw[Ç,{_,_,@D7}],by let:aG=its':=by simpa using dS awi d1,by rw[ê,(g',i+@Ö,@Q+j)],by apply b9 (pQ,@Ä) @fh,by
  .rintro r s'(⟨e1,_⟩|⟨_,h⟩);.cases e1
   .show h,by rw[ţ,(bF,@sM==AF)],by rw[ţ,forIn @œ _ _],_,_,by let hl:@aB=@Ú:=@Ÿ,by apply aM @avj @avj @awJ,by apply{a::A,pw ..,@dp},by let fO:(rA,Y)=n:=by rw[g_,aw,aw,Z],by .exfalso;let:=(hp,apx);rw[pQ,40];omega,by .rw[z];simp;congr 1;omega,by .let e:i=n:=@e;subst e;show(b0,@Â,Y),by let h_:@tU<=h*w:=GD _ hi,by rw[Ê,nr,aj hf,sS],by apply zJ (h3.sub 0 (p:=p3)) (λx a y _ _ j=>?_),by rw[hs]at hw;rw[show I=Y from hw,(@dh),(@dh)],_,by let:=fJ (@eh+@jt) (c9,0<2),by let s3:=(Ŗ,@bv,gw,hz),by apply bC @Ķ hD (by simp[b.len]) Y,by let fo:@a0=@ń:=@axQ,by calc dg Y;rw[gz,Z,(dO,(bs,L))];.rw[aq,ύ,hp,(@Þ)],by .let a:@hF=Y:=Z;rw[L,a,(@kw),<-ih h_,ύ],by let e:@DD=1::Y:=by delta bQ;rw[TF,cT,b6];rfl,by rw[ag jz,ag (LI,QT,hs),Y],_,by rw[ev,B.all it o1 @e],by rw[pT,ag (G_ hb),TP.nK],by let h3:(á,ah H2 d @nk D,Y):=Z,by rw[Ũ,c,Y,<-ť,db (u,ht,h.1)],by .ext h;let{n,e}:=GJ Y;let{k,f}:=GJ Z;subst e f;show L,by rw[Ï,(Ğ,d,(k7,@Ee,k1,@d),@Ą)],by rw[Ĺ,l,cP,@rq,(vR,λH3 j s3 _ m3=>?_)],by .rw[E,λh hg he=>?_];show ab h Y he,by .let h2:¬Y:=(ro,@tM);let q:=q0 H @ĩ;rw[eu,λe=>h2 Z];show q,by rw[Ý,hy,(kZ,Y,Rz @d hy ?_ ?_ Z _ L)],by rw[gC,(dC,@rq,@fE),(lI,(eG,@Ĩ,@ö)=@n9)],by (induction r with|cons G r2=>let{as,q1}:=Y;let{bs,q2}:=Z;show{_,L}),by let g:(r!,(Ö,q,@a4),v):=(rD,a),by let e3:(H,@awN,y.2):=(c1,ew),by rw[(@sr),(@sr),(@sr),aF l.symm]at this,by let c:=aap hf @n2 aQ,by let s1:af H1 Y:=λb o hb=>(Ç,(fA,nx),Z,hb),by let et:cQ r' [d]=iE r' d:=rfl,_,by let hl:@OT<=bq:=(Ŀ,QD kvs k v),by let{h1,h2}:=amC O G ty,_,by let hp:=ac he ae hs,by let N:¬(Ģ,! aG.toArray.isEmpty,Oy @av8):=(Ç,aaW hsz,aX8,jP),by let N:=ak4 n @ô Y (iR n),by let v:Y:=(cx,_M.Hq R (j:=Z) @C,pn),by let hr:ajA Y @hX 2=(bP Z).map λk=>L:=ύ,by let kn:_M.cd r Y=r[Z]'@C:=by delta _M.cd;rw[eY,(@eE)];rfl,_,by let q:tW d=@o/\@t!:=aYV.mp p,by
  let Je:(ry,∃c,(pk,y.1)):=λy hy e=>by
   rcases ok.free y hy e with k|k;.show I.ok.has _ @awH
   .show I.ok.has _ (.inr k),_,_,by let hy:Y=0:=by let:¬@a3<Z:=@ayp;simp_all,by let BF:V.get? @Ò=some (jO,#[Y,Z]):=(kV,Gv L,hT),_,by let d':ajw @d8 _=aYX es ep:=d,by let hD:(K?,@Ķ):=(jK,a,hp,a),by let Ak:(jf r q).length=n:=by delta jf;rw[aw,_M.iR,R.len],by (cases l with|true=>calc dg Y;rw[pU,<-pV]|false=>rw[ç,Z,<-pU,<-pV]),by rw[AE,ajM,cG,oK]at h1,by (obtain⟨pp,NH,rfl⟩:∃pp,(Ë,ps,pp)/\y=V.ref pp:=@OI),by
  .repeat(split at h;rw[Í,h,@ø])
   show@BH,by
  .let:x≠n:=by rintro rfl;show h v pw
   simp[this],by rw[x,b.get' (x:=@ĵ) (kF,hi,@bH),λp e1 e2=>?_],by calc q_ (inner r Y (λ_ _=>Z) [L] @ļ h) @kz;show ύ,by .injection h with h;injection h with h1 h2;subst h1 h2;show fH @á ([]) @d @d,by rw[Æ,d4.snoc @dl @ub nD Y,λys4 k d x=>?_],by rw[Q,aYI N hd @A ?_],by rw[Q,aY8 (hsz:=@ð) (show Y from(ht,Z)) L dd @aw7],by rw[aj (hF,@d,@d,@d)],by rw[Ê,mR.1 hf j Y,qm,mR.1 Z j L],by rw[á,aU 1 @rA @d @au' ?_],by rw[Ï,(e1,q,dG,M,(É,(Ğ,d,(ws,@d),@Ą)))],by let:(kP,a,@aw)=(kP,a,Y):=by rw[e],by let:(if Y then(Z+2-1)/2 else 0).toNat=L:=by split<;>omega,by rw[å,λz=>by rw[z,h]at q;cases q;show j,q],by rw[Ē,{vs,anc (d,QK fU,dw (aYU ds) z2),λu hu=>(h1 u hu).mono k,Y}],by
  .rw[Y]at hc;rcases bX.1 (show c∈e9 x.1++e9 y.1 from hc)with h|h;.show hR c h
   .show D c h,by
  .rw[x,Y,@kt];rcases bX.1 hz with h|h;.show(LX,h)
   .show ab z (uG _ (ih.2.2.1 z h)) he,by apply(gF,ns,@fw,@ą,@nC),by rw[ï,Cz λz y xs r ob es=>@ayK,jR z y xs (Ks,λp q z=>aM z.1 Y @b8) ob es @OM],by .rw[aF Y,aq];delta nL;rw[LV,LV],by .rw[ļ,Y];show aM a (sub _ b) c,by rw[au,Y,λyy F4 vM=>?_,(Ň,(ba,Z,F4,(d,ei,vM),q))],by rw[Q,OL (W.item Y _ _ _ (d,hsz,Z) L λv h' G B afX jw=>?_)],by let aQ:¬((az,@dn)=@jW):=by ext q;let q:=ze q;let U:=R.nodup;rw[qT,Av,rQ]at U;show U j i hj dM @e (Ú,ec),by exact(t+0+_+@b5)%2=0,by rw[(bD,@cJ,@D_),Ir,<-yU],by (let all:∀{l:Y}{m:Z},L->∀x∈m,ύ:=by ext l m q;cases q with|nil=>ext x hx;show nomatch hx|@cons p q ps G U t ih=>ext x hx;rcases eJ.mp hx with e|hx;rw[Đ,ώ];.show ih x hx),by let new:(ci,Y,V,@Ò,Z):=(fH @bA L (.cons ύ (cf,ώ)) (HU _ BF @d _ @d)),by 
  simp only[B9,HT.pK,aX4,show(1:Int)>0 by decide,ku];by_cases h:i<0;.simp only[h,ku]<;>omega
  .simp only[h,nR]<;>omega,by rw[Ļ,@ĵ,@Ý,λz=>db _ @uh (ø,z)],by (let T:(bC,@Fh,@aR):=by cases e:jf r q with|nil=>rw[e]at Ak;simp at Ak;simp_all|cons x l=>rfl),by .apply@a';rw[gU,(c4,(bq,gH z,Y,z,Z),(lO,L,@h0))];show k,by let nr:Y=Z++(fF,L,z.2):=by rw[uQ,v,EB,ajy];congr 1;by_cases h:ύ=@o;rw[Ú,@f0,aiP h,<-Ú,@eH,aiO h],by rw[Â,(f Y).2.2,o4 _ _ (EM J) (t q' J h hh) @t_],by rw[Ķ,o,m,by ext c hc;rw[av0]at ha;let:=ha c hc;show iW.1 (by simpa using this)],by rw[gD,@jY,(by let q:=(hf b z).1;rw[Ŧ];cases e)],by rw[gE,λz=>(hf _ z).2.1 @d],by rw[Pk (d,(kM d HT).len,qp a),Pk (d,d.len,qp HT)],by let:∀c:He,(∀l,c≠.load l)->(match c with|.load l=>(v7,rowOf l)|c=>match S.row with|none=>@Eo|some r=>onRow S r c)=Y:=by ext c hc;rw[h];induction c<;>first|rfl|rw[ö,hc _],by let g:(qN,@awt,@fN/\@avG/\(g_,0,@ô)):=by ext p;rw[jk,jk];simp[and_assoc],by
  let h1:=(qT,C++N3,by
   rcases bX.1 hx with h|h;.show(N.best x h).1
   .show(Al.new x h).1,Al.nodup),by rw[<-img hx ((c _).1 pY),<-img hy ((c _).1 ip),he],by let e3:((cd r m).turned @o).no=@tX:=rfl,by let{c1,c2}:=O H3 g k3 g3,by (obtain⟨s',d,rfl⟩:∃s' d,s=s'++[d]:=(wk s.dropLast (s.getLast aQ) ((aWX aQ).symm))),by let v:@ĉ=@ģ+@gb:=by delta bT;rw[hk,aj hw],by let m:(KM,b,l::st,(l::st).reverse.map V.bl):=@awl,by let u:(Ŝ,Y):=λH' s=>by let:=q0 H' s;delta wr at this;rw[hl,Z]at this;show this,by (cases O with|ret u=>show I.after U|next=>show oI U|brk=>show oI U|cont=>show oI U),by let no:Y=@u->@Ex:=by ext hs H' s';let k:=q0 H' own (λc u _ h=>s' _ _ h) @tp;rw[hs]at k;show k Z,by let M6:(toString "min"++toString ".loop":String)="min.loop":=@Ó,by (obtain⟨c2,dB⟩:∃c2,(s2.heap.update S (qk @sp)).get? S=some (AK "list" #[v,x] c2):={_,aZh J.1 @sp}),by let h4:=j _ p4 s4 v aq,by let Nt:(KM,l,st,@axd):=@awl,_,by (obtain⟨d,hd,rfl⟩:∃d,(H,ds,d)/\y=V.ref d:=by rw[ù];cases e:ds[i]? with|none=>rw[Ť]|some c=>rw[ed]),by (obtain⟨x,y,ns,rfl⟩:∃x y l,ns=@Ef:=by match ns,hok.1 with|x::y::l,_=>show K7 x y l @d),by apply(Ē,n,k,oN Y @d h0 hn hk (λH' p hs hm=>q0 H' p hs (bB,Z))),by rw[Æ,akK G0 hm dJ Y Z F0,λG r d s=>?_],by rw[ã,wq _ w];let:=fB w Y Z L;delta wq;rw[ag (this.1 @C),ag (this.2 @d)],_,by cases r;let{aG,o,n,rv,N,hc,hd}:=Y;let{as,hr}:=(wh,aG,ha,rv);show{_,Z},_,by .rw[ę,i,Y];subst e;calc(v',Z);rw[<-hz,iQ]at hm;show hm,by let h1:cK @hd @axI=x.1:=by rw[<-xD (d,X.len,T.lt i x hi hx),xF X,zk],_,by (rw[Č];cases y with|non=>rw[al,Y]|int j=>rw[ı,Z]|str j=>rw[ı,L]|_=>rw[am]),by .rw[aw,lK,mQ,bF,eE,tp];rw[(@BS)];simp,by (cases J;cases y with|non=>rw[al,Y]|bl j=>rw[al,Z]|str j=>rw[ı,L]|_=>rw[am]),by exact(En g @e' @gW).bind (λu=>TZ u f)=_;rw[hf];rfl,by apply(Ã,x,y,_,hx.1,hx.2,@Ą),by (let:∀m:Nat,((bP m).map λj=>(@awk:@Đ).length).sum=2*m:=by ext m;cases m with|zero=>rfl|succ m ih=>rw[uF,bF,Gm,ih];simp;omega),by let db:∀x∈@c!,x.1≠@ĵ:=by ext x hx z;let:=yQ.1 e x hx;rw[ee];simp at this,by let G:=λm x=>akz h2 h6 J m x,by let h2:=l _ p2 s2 v aq,by
  let hk:@kN:=by
   rw[br];.exfalso;rw[bq];let:=(hp,apy);rw[pQ,41];omega
   .rw[bp];show hx,_,_,by let t:∀q',@Cm->@Cq->(b!,q')->@Et∈l:=λq' J hc hh=>(g _).2 (aM Y (d,(Mp,(iB c).2 hc),hh) (Vj J hm)),by let h0:=hh 0 a b @d @d,by let{o1,o2}:=UR J n 0 Y @e @awE,by
  .rw[Y,dE @e];symm;refine dE;repeat' split
   all_goals decide+kernel,by clear q3;calc fb λz H3 I3 n3=>?_;rw[x,S z H3 n3,λm' hm w3=>?_];show aaD m' hm z H3 I3 w3,by .apply(vN,@DO,@n?);rcases hc with z|z;rw[ú,j b u e];.show j c _ z,by rw[eg,@awp,Y,λw' hw D=>?_,<-x,awQ.mp hw,λp hp cP=>?_];calc aYr Z L dd hp ?_;rw[cP];show@OQ,by .rw[aq];let:M.take @Ö=(bj,M.take j):=(dR,hx);rw[ê,Tz];delta jo;rw[bF,cT,cT,bF];rfl,by rw[ay,amA X _ @d (Ý,R.wait) @d ?_ Y],by rw[Æ,(hm.same M h4).snoc M S np ap,@of],by let O:(lJ,@C7):=I.turned (λb o hb e=>@O1) d.1 d.2.1 d.2.2.2.1 d.2.2.2.2.1 d.2.2.2.2.2,by let et:(cj,@aw')=@f8:=by delta nL bQ;rw[b6,b6];rw[Î];ext k _;exact@au7=(Ŋ,@û);congr 1;simp+arith[*],by let hM:aY (gM n it) (eg n l)=@fF:=(K,aax h2 l o2 it o1,alN H J (Ht hn _ Y (λ_=>h2)) Z),by let I3:=I2.turned (t':=s2.toks) @OZ t.1 t.2.1 t.2.2.2.1 t.2.2.2.2.1 t.2.2.2.2.2,by (obtain⟨z,hz,rfl,rfl⟩:∃z,@axN/\k=@Eu/\v=@br:=by delta fN at hk;rw[bB]at hk;cases e:zs[i]? with|none=>rw[gA]|some z=>rw[e]at hk;cases hk;show(qW,z,@d)),_,_,by .rw[aq,j,aj v,Y,l,ag d,m,aj v,Z];rfl,by .apply Y;calc aba hs xa hx n (rk,Z,bC _ @ad @d ?_);rw[hsz]<;>rfl,_,by calc(lf,O p dM s' hs.2 ?_);rw[pY,Y::s',Z];rw[e]at ht;omega,_,_,by (.let:=apd hn;cases ht:tokOf x with|num k=>rw[Ò,ht,this k]|word _=>rfl|sign _=>rfl|wrong=>rfl),by .rw[Õ,Y,(Ŵ,ak.of (ĭ,Z),@ax2,@ľ)];rw[gR,(lT,z,(Î,L),z,ύ)];show@eC,_,by apply aY6 (b7,hk @Æ _ σ _ _ O (q _ hn),cw Y),by let R:=U3 (e:=Y) hn (aiF Z) tu L @Õ [] (by delta aiF;simp+arith[*]) @A (rY n),by let W:=R2.re (dx:=l) (rf':=Y) (wn':=I) (wd':=J) (tm':=tm) @sv g R2.hM,by
  let I1p:(LK,[Y,(Z,P)],L,@C7):=by
   calc O.pins_of @Ŝ;rcases bX.1 hp with hp|hp
   .rcases eJ.1 hp with rfl|hp;.show dI C h.1 @š @e! (λv z=>@bt)
    rw[þ,hp,dI afZ d.1 d.2.1 d.2.2.1 (pV,jx)]
   .show O.pin p @axG,by rw[à,a,p,(vT,λc=>@FC,@D5,Mg mo v _ _ _ d @d @DB @Â,Mi m G B O)],by apply(Ŏ,p,dx,fs,jR S ym _ @d i p (â,q,D,s2,x,r2,bU (abm v sp @OL (k2 _ _ J p2) p3) (hok x @ts) @e (λH3 g k3 g3 r3=>?_))),by rw[Ň,(fb,hp,(eu,g,Y,dZ p mo v n sv rf (dZ _ _ tm ms M os Z)))],by rw[ō];calc(L2,@n7);rw[s,<-Ŏ];let s3:=(lP,ah H2 d (Ð,@se));let M:(h8,H2,@se,@se):=aq;let p3:(hS,ah H2 d (Ð,@se) p2,Y):=(C,(λe=>by rw[e,(@n7)]at kX;cases kX),kX);rw[ė,(Í,M),(wm,(Í,p3),@hV)];show g.row R O ge b gw kX @cP h4,by let O:(bQ,@kg):=I.turned (λb o hb e=>kk b o @mX e) f0 f1 M j G,by rw[Q,OL (AG (tF (anF (E':=@f1) F hr.in1 @d hb I1p (cf,Y) (M.turn Z _ L ύ ώ (λv2 H2=>Ϗ) λH2 v2 a b=>⟨a,b⟩)) (λx s2 he=>?_) λ_ _ hF=>hF.elim))],by (try apply let Dz:Ends:=_;Y),by rw[py,let sz:@fg:=_;Y],by .rw[ę,i,Y];subst e;show(b0,Z,L),by by_cases hb:(Ģ,Y,@rP),_,by (obtain⟨z,j9,rfl⟩:∃z,Y:=Z),by (cases e:ps[i]? with|none=>rw[Ť]|some c=>rw[ed]),by rw[e]at hj;show(Ñ,z,(cM hj).symm),_,by (obtain⟨z,hz,rfl⟩:(kB,Y,c z,x):=Z),by rw[e]at hx;show(Ñ,z,cM hx),by let e:@bo=fu Y:=(yg Z).1 (i.symm.trans he),by .rw[jA.2 hb];calc dg @ed;show(ke,Y),by rw[Ò,show@hc from D,jP],by
  .let F:Y:=Z;let b:L:=by simp[qW,rT,F]
   rw[ύ,b];show ώ,by (cases c with|true=>show Y|false=>show Z),by (obtain⟨c,hc,rfl⟩:∃c,(H,Y,c)/\y=V.int @ũ:=Z),by rw[e]at hj;show(Ñ,c,(cM hj).symm),by let S:=G.letter hk Y @auV,by (obtain⟨p,hp,rfl⟩:∃p,(H,ps,p)/\y=@ns:=Y),by rw[bB,g_,bB]at hi,by .rw[Y]at k;show(R,(eu,g,Z,k)),by .rw[aw,lK];simp at b_;show@ĳ,by .rw[aq,e,mQ,bF];rfl,by rw[x,Y,λkvs k1 k2=>?_],by .rintro⟨a,b⟩;show⟨Y,Z⟩,by let e:(mS Y).sum=Z+@avl:=rfl,by let ar2:Y:=(dy,aiJ @Ó Z)]
example:=#[∀{H:Hp},0,∀(K:aZ),0,∀(n:Nat),0,∀(I:@V),0,∀{i:Nat},0,∀{k:Nat},0,∀(B:@Ê),0,∀(C:aa),0,∀(H:Hp),0,∀[b][h],0,∀{h:az},0,∀(X:Cx),0,∀(s:@Í),0,∀(B:@ā),0,∀(i:Nat),0,∀{H H':Hp},0,∀(t:@h),0,∀(k:Nat),0,∀{x:au},0,∀{α:@è},0,∀{n:Nat},0,∀(v:@æ),0,∀{xs:@P},0,∀(r:Row),0,∀[Ô][Ű],0,∀{n r}[Î],0,∀(c:Nat),0,∀[H][Î],0,∀{x:@Ü},0,∀(h:az),0,∀(J:@Ø),0,∀(hn:0<n),0,∀(b:Bool),0,∀{r:Row},0,∀{Q:@É},0,∀[k](H:@à),0,∀(h0:0<n),0,_,∀(x:au),0,∀[Ô][dZ],0,∀{H1:Hp}{D:aa},0,∀[a][U],0,∀[Ġ](T:@ě),0,∀(T:@ė),0,∀{s:aK},0,∀(xs:@P),0,∀{p:aa},0,∀[e][Ó],0,∀{a b:Nat},0,∀{a:aa},0,_,_,_,_,_,_,_,_,_,_,_,_,_,_,_,_,∀{o:HO},0,∀{K:aZ},0,∀(h:@aj:=by rfl),0,∀[B][E],0,∀{j:Nat},0,∀(h2:@õ),0,∀(h:cH),0,∀{h:cH},0,∀(he:@am),0,∀(hc:@ai),0,∀{A:fG},0,∀{x:Pc},0,∀{n h}(H:@à),0,∀[ž][ą][S],0,∀(H:@T),0,∀(hk:k<n),0,∀{u:ai},0,∀{kvs:@ÿ},0,∀[X][w],0,∀(hi:i<n),0,∀{m:@h},0,∀{pos:dO},0,∀(T:@b0),0,_,∀(T:@dV),0,∀(P:dz)(w:dc),0,∀[c][ū],0,∀[h][i],0,∀[a]{D:aa},0,∀(x:@Ü),0,∀{i j:Nat},0,∀(m:@h),0,∀(o:@h),0,∀(ok:@Ő),0,∀(t:TA),0,∀(X:_L.Cx),0,∀(B:@al),0,∀{r:eG},0,∀{P:dz}{w:dc},0,∀[v][Ó],0,∀{D:Ends}[a],0,∀[æ][Á],0,∀[B][ð],0,∀{h:Nat}[bU],0,∀[Ù][d4],0,∀(n i:Nat),0,∀(l:@À),0,∀(l:@h),0,∀(hn:@Ċ),0,∀(t:Tok),0,∀(hn:@õ),0,∀(q:Row),0,∀(N:@bd),0,∀(b:Nat),0,∀(m:Cm),0,_,∀(g:eA),0,∀{b:aa},0,∀{o:bS},0,∀(Q:VK),0,∀{Q:VK},0,∀{X:Cx},0,∀{us:@X},0,∀{v:ai},0,∀{ds:@aS},0,∀(ns:@À),0,∀{os:@ī},0,∀{rf:Int},0,∀[dX][Ł],0,∀[ſ][a],0,∀[ß][bo],0,∀[b][i],0,∀[f](hk:@Ŋ),0,∀(hb:@iI)(hd:@iV)(hx:@iZ),0,∀[i](l:aa),0,∀[a][k],0,∀{g:az},0,∀(c:dX),0,∀(a:Nat),0,∀(l:gK),0,∀(j:Nat),0,∀(M:az),0,∀(a:aa),0,∀(i:Int),0,∀{u:HO},0,∀{e:cq},0,∀(te:TE),0,∀{pl:@ig},0,∀{C:aa},0,∀(ha:@dT),0,∀(s:bi),0,∀(hD:@be),0,∀(vJ:@iY),0,∀(s:@ō),0,∀(S:kL),0,∀(Q:@gT),0,∀[g](G:@ġ),0,∀[b][ņ],0,∀[g](T:@ě),0,∀(h1:@bL)(h2:@bK),0,∀[Å](h6:@dR),0,∀[Ż](hb:@lU),0,∀[E][K],0,∀[p][U],0,∀[Ä][bm],0,∀{prog:dz}{w:dc},0,∀[H][bS],0,∀{l:@ß}[e],0,∀[Ľ][d],0,∀[D][Ý],0,∀[R][V],0,∀{a:Nat},0,∀(n k:Nat),0,∀{m:Nat},0,∀(t:Nat),0,∀(m:Nat),0,∀(G:@Ď),0,∀(W:@Ĕ),0,∀(cs:@h),0,∀(U:0<w),0,∀{a b:Int},0,∀(U:@ĕ),0,∀{ks:@h},0,∀{vs:@X},0,∀(H H':Hp),0,∀{t':Nat},0,∀(s':aK),0,∀{E:@É},0,∀(hg:@ŏ),0,∀(hd:@ĭ:=by decide),0,∀{bz:lN},0,∀(hh:@gA),0,∀{od:bS},0,∀{H H1:Hp},0,∀(mg:@ñ),0,∀(hr:@gM),0,∀{p:Nat},0,∀(ur:@l?),0,∀(G:@il),0,∀{zs:@ip},0,∀(m:@gL),0,∀{p:@lk},0,∀[a]{ps:@Ë},0,∀[Ĵ][dZ],0,∀[Î][K],0,∀[Ű][Ô],0,∀(Pv:@fl)(h0:@qE),0,∀{R W:@Đ}[C],0,∀[Ę][p],0,∀[bK][f],0,∀{xs:@ŷ}(h:@gS),0,∀[n](T:@iQ),0,∀(c:@iz)[ű],0,∀[v][R],0,∀(f:aa)(fd:nY),0,∀[I][d],0,∀[e][s],0,∀[w]{g:TG},0,∀[B](hn:@eo),0,∀[bW][bl],0,∀[b][Ē],0,∀[a]{g:aa},0,∀[ù][ú],0,∀[å][Î],0,∀{h:Nat}[as],0,∀[f][B],0,∀[N][d5](hp:@fN),0,∀[Ģ](l:@lE)(m:@qQ),0,∀[ž][S][ą],0,∀(hi:@gC),0,∀{a b:az},0,∀(S:@È),0,∀(f:@ly),0,∀{x:@lK},0,∀{i k:Nat},0,∀(hn:@ï),0,∀{p:Profile},0,∀(l:@ß),0,∀{h k:Nat},0,∀(a b:Int),0,∀(w:Nat),0,∀(ks:@h),0,∀(x:@Ő),0,∀(us:@X),0,∀{op:Oo},0,∀(ha:@qv),0,∀(ta:TE),0,∀(ha:@dY),0,∀(N:@pJ),0,∀{te:TE},0,∀{pins:@Ç},0,∀{σ:St},0,∀(it:aa),0,∀{Q:@iq},0,∀(hd:@qw),0,∀{CX:vh},0,∀{xs:@ß},0,∀{aG:@X},0,∀{kvs:@ź},0,∀(hp:@a7),0,∀(hr:@gI),0,∀(hw:@gQ),0,∀(hu:@p_),0,∀(I:@lV),0,∀(d:@i0),0,∀(N:@ć),0,∀{c:Nat},0,∀(hD:@e4),0,∀(t:@qN),0,∀(O:@e6),0,∀{g:eA}(R:@Ģ),0,_,∀[d2][e?],0,∀[l](pins:@Ç),0,∀[c](sv:Bool),0,∀[Ű][Ĵ],0,∀[U][dV],0,∀{mg:@ñ}{base:cH},0,∀[Ŏ][k],0,∀(hok:@Ő)(B:@dE),0,∀[í][ū],0,∀{FV:@Ġ}{kk:Nat},0,∀[W](h:b<a),0,∀[ł]{own:@is},0,∀{y:V}[Ð],0,∀(F:@iJ)[ai],0,∀(J:@l')(BR:@qT),0,∀[ô](hc:@p!),0,∀(N:@iD)(hi:@dZ),0,∀[ķ](hk:@f?),0,∀(U:@lL)[aj],0,∀(m:@jL)(aQ:@em),0,∀[c](rf:Int),0,∀(prog:dz)(w:dc),0,∀[q](p e:Nat),0,∀{fd:nY}[bK],0,∀[e](hi:@bS),0,∀[Ä](hj:@fM),0,∀(B:@dE)(c:@eV),0,∀[g](T:@xX),0,∀{ch:@Ë}[d],0,∀[e](h:i<n),0,∀[þ]{vs:@P},0,∀{vY:@v'}[s],0,∀{K:je}(c:@qm),0,∀[Ų][bU],0,∀[k][e],0,∀{p:j6}(h:@gP),0,∀[H]{x:AC},0,∀[aw](rf:Int),0,∀[dU](hi:@gG)(hx:@yh),0,∀[i][Ē],0,∀[i](d:aa),0,∀[a][X],0,∀{P:EA}[Ç],0,∀[av](σ:St),0,∀[aA](t:@cY),0,∀[e][ç],0,∀{v:V}[Ð],0,∀[eg](k:κ),0,∀[ć][Ē],0,∀[d9][S],0,∀[a]{D p:aa}[k],0,∀{M:Om}[b2],0,∀[ú]{es:@cU}{ep:Nat},0,∀(hg:@ų),0,∀(hf:@bc),0,∀(hn:@lC),0,∀(a b:Bool),0,∀(hi:@dL),0,∀(hj:j<n),0,∀(hc:@om),0,∀(p:Profile),0,∀(e u:Bool),0,∀(i even:@Ė),0,∀(F:Bool),0,∀(hi:i<h),0,∀(hz:@vK),0,∀(n d:Nat),0,∀{ks:@az},0,∀{x y:@az},0,∀(hu:@dS),0,_,∀(hu:@wc),0,∀(kvs:@ÿ),0,∀(hf:@yH:=by first|show .inl rfl|show .inr rfl|assumption),0,∀(ta tb:TE),0,∀{env:lu},0,∀(outer:@aW),0,∀(he:@pI),0,∀(j:@ĭ:=by decide),0,∀(ns ms:@À),0,∀(hD:@wQ),0,∀(hu:@pN),0,∀{ps:@â},0,∀(hs:@l9:=by rfl),0,∀{fs:@Ŷ},0,∀(hp:@pK),0,∀(aQ:@wj),0,∀{hs:@È},0,∀{own:@ć},0,∀(I J:au),0,∀(hl:@Š),0,∀{CR CP:aa},0,∀[as](h0:0<h),0,∀[Ê][Ŀ],0,∀[H][e],0,∀(hl:@lD)[ě],0,∀[f][Ê],0,∀{qN tg iter:cq}{N:@Ġ},0,∀[É][dU],0,∀[ŏ][fk],0,∀[bV][S],0,∀(dd U:@aP)(D O:@gs),0,∀[é]{tg:cq},0,∀{n e:Nat}[F],0,∀{sv:Bool}{ms:@È},0,∀{ta:TA}{p pos:dO},0,∀{x:@hZ}(hx:x∈p),0,∀(DJ:@yK)(Nh:@Aa),0,∀[bR](tm:Int),0,∀(Pv:@I1)(h0:@lt),0,∀(Pv:@rz)(h0:@lt),0,∀(ha:@pp)(hb:@v1),0,∀(hg:@AP)(ht:@AQ),0,∀[ŀ](hm:@IJ),0,∀(hi:@yq)(ok:@yy),0,∀[ò][Ï],0,∀(ht:@e4)(hm:@x1),0,∀(l:1<=k)(hk:@wa),0,∀[p][w],0,∀{g:TG}{tt:TT}[Ž],0,∀[t](xs:@ß),0,∀[Ĵ](aQ:@gD),0,∀[Ö](TP:@lP),0,∀[ã](e:Et),0,∀(g:b<=j)(e:@lO),0,∀(hi:@dZ)(N:@iD),0,∀(j:@GZ)(he:@z1),0,∀[r][ā],0,∀(kvs:@ah)(k:κ),0,∀[p]{l:aa},0,∀{ds:@Ë}{U:@ĕ},0,∀[u][F],0,∀{s1 s2:Nat}[O],0,∀{x j:au}{st:bi},0,∀[ae](h:@x2),0,∀{xs:@ű}(h:@L'),0,∀[g](G:@yY),0,∀[n][am],0,∀[h](k H:Hp),0,∀(X:@la)(I:@Nu),0,∀(e:@px)(S:@xp),0,∀(e:@we)(c:@lF),0,∀[Æ](hb:@MQ),0,∀(hu:@p9)[d],0,∀[r][Ķ],0,∀[r](l:@ű),0,∀[r][x],0,∀[c][Ĺ],0,∀[c][ŵ],0,∀[c][ó],0,∀(sp:Sp)(me:@P),0,∀[v](F:@xw),0,∀{A:@dW}(M:@ge),0,∀[a]{a b:aa},0,∀[a][Ă],0,∀[bv][X],0,∀{l:@h_}(t:@qf),0,∀[ı]{x:Row},0,∀{p:Int}{r:@À},0,∀[ň](h:@bD),0,∀{x:@yZ}{f:@JQ},0,∀{x:α}(hx:@wb),0,∀{xs:eA}(h:@L!),0,∀[b4](a it:aa),0,∀[Î](G:@à),0,∀[b](ta:TA),0,∀[D][o],0,∀(k j:κ)(y:V),0,∀[c][D],0,∀[M][ñ],0,∀{A:@dW}[a],0,∀[a][Ō],0,∀[ab][d],0,∀{g:eA}(G:@lN),0,∀{n r q}[Î],0,∀[H][k],0,∀[Ð](r:@h2),0,∀[B][K],0,∀[B][Å],0,∀[Ŏ]{xs:@ŷ},0,∀[ej]{D:Ends},0,∀[el](hi:@dZ),0,∀[Ő][ð],0,∀[i](b:aa),0,∀[i](p:aa),0,∀[i](s:aK),0,∀[l](e:cq),0,∀[Æ][i],0,∀(l b:aa)(items items2:@ŀ)(n n2:Nat),0,∀(s:aK)[i],0,∀(x:V)(H1:Hp),0,∀[a][Ç],0,_,∀{i:cq}{p:dO},0,∀{t u:TS}[è],0,∀{t:TA}{p:dO},0,∀[Ĕ][d],0,∀[N](d:@bb),0,∀[bY](r:@KP),0,∀[aG][ä],0,∀[eb](k:@pC),0,∀[ei][A],0,∀{kvs:@dM}{xs:@lJ}(r:@yu),0,∀(ps:@â)[r](sp:Sp),0,∀[ev](k:@ce),0,∀[d8](h:@Ų),0,∀[d8](r:@Ų),0,∀[bX](S:@xO),0,∀[d!](r:@bg),0,∀[d?](p:Int),0,∀(M:@MK)(F:@iJ)[Ň],0,∀(f:au)(v:V),0,∀[I][ef],0,∀[e][U](hp:@Mo),0,∀{n S h}[v][bh],0,∀{wi:TI}[ch],0,∀{a b c:Nat},0,∀{a b j k:Nat},0,∀{α β:@è},0,∀{body:@gi},0,∀{N ps:@â},0,∀(lo hi:@db),0,∀(z:@MP:=by rfl),0,∀{cells:@Ś},0,∀(S:X.N.Nodup),0,∀{H H1 H2:Hp},0,∀(fo:@e9:=by rfl),0,∀(hg:@ŏ:=by rfl),0,∀(items:@ŀ),0,∀(hm:m.Nodup),0,∀{p st M X:aa},0,∀(hk:k≠0),0,∀[bG][fg],0,∀(S:@gG:=by rfl)(hv:@xW:=by first|show al rfl|show ao (al rfl)|show ao (ao rfl)),0,∀[ġ](base:cH),0,∀(d:@bb)[Ű],0,∀{kvs:@ah}{vs:@iH},0,∀(h:@asH)(h1:@qI:=by first|show aAJ _ (by decide) (by decide)|rfl),0,∀[w][þ],0,∀[ž][a],0,∀[Ă](R:j8 C H p mo v n sv rf I J tm ms M os),0,∀{W:@Ĕ}(R:kF K C H p st M X n rf I J cs ss W),0,∀[b](T:String),0,∀(r t:@À)(c:@gk),0,∀[Ł][ff],0,∀[U][Ņ],0,∀(c:(lb,q):=by as_aux_lemma=>k_is)[fi],0,∀[fh](h1:@Xk:=by rfl),0,∀(hn:@al2:=by rfl)(fB:@aqV:=by rfl),0,∀[bx][d],0,∀[d6](r:@bQ),0,∀[ag]{xs:@e5}(r:@kX),0,∀[x][à],0,∀{g:TG}{tb:TS},0,∀(he:@AO)[e'],0,∀[Ñ](hm:@p6)(hk:@yU),0,∀[ę][e_],0,∀(ha:@adV)[bL],0,∀[ę](fB:@cZ:=by rfl),0,∀[ę][dX],0,∀[È][bL],0,∀(hc:o.ExactDict)(j:@dU),0,∀[È][Â],0,∀{t:qj α}{Q Q':(Ķ,α)},0,∀[fk]{x:Nat},0,∀[a][eh],0,∀(he:(bW,ta))(hb:@asK),0,∀(pa:aX7 T)(slot:@ahA),0,∀{it d:aa}{i n ep:Nat},0,∀[bQ][dV],0,∀{q p k:Nat}(hk:k<q-p),0,∀{rf':Int}{wn' wd':au},0,∀{x y p q:aa}{a c:Int},0,∀[d2][dW],0,∀[dN](h:a<b),0,∀{d:DefRec}{K:EA->aZ},0,∀{ta:TA}{p pos Ae:dO},0,∀[E](he:(lY,r2)),0,∀[bk](h1:@an8),0,∀[bk](h1:@anP),0,∀(hi:@bS)(ha:(av,a)),0,∀(hok:@Nm)(hg:Kf g'),0,∀{a b:α}{m:(ú,α)},0,∀{k i j:Nat}(hi:i<k),0,∀{r:OpenSpec}[f],0,∀(DD:@ahZ)(hsz:@Xt),0,∀[an]{A:(jN,β)},0,∀(Rd:@AY)(step:@qb),0,∀(b:vw K j)(k:@anw),0,∀(h1:@akF)(h2:@alg),0,∀(hb:@w1)(M:(st,H)),0,∀(hit:@as9)(jx:@zj),0,∀(hk:@al5)(hv:@al6),0,∀(hk:@ý=k)(hw:@qM),0,∀(hl:@M_)(aQ:l≠I),0,∀(hx:@ad0)(hy:@arh),0,∀(id:String)(r:@bg),0,∀(j bz:lN)(own:@is),0,∀(p cl g:aa)[c],0,∀[T][dR],0,∀{items:@ŀ}[I],0,∀{s c f:Nat}(h:c<2),0,∀{step:@qb}(hw:@N4),0,∀[Ľ]{d':Drawn},0,∀{y:@eO}(hy:(bz,u)),0,∀[dO][Ŭ],0,∀(hn:@tR:=by decide),0,∀(hs:@yS:=by ext _;rfl),0,∀(hs:@cZ:=by rfl),0,∀(fo:@e9:=by show tG false),0,∀(ht:@aoI:=by rfl),0,∀(ht:@aoH:=by rfl),0,∀(j:@Mw:=by show tG true),0,∀(j:@adW:=by show tG true),0,∀(e:@amv:=by rfl),0,∀(kn:@JY:=by decide),0,∀(he:@cZ:=by rfl),0,∀(hk:@dO:=by decide),0,∀(k:@gO:=by as_aux_lemma=>k_is),0,∀(b:@qH:=by as_aux_lemma=>k_is),0,∀(hl:left.Nodup),0]
example:=#[Sort _,Prop,Y->Z,∃Y:Z,L,Y/\Z,∀{Y:Z},0,∀(Y:Z),0,λY=>Z,(λY=>Z) L]
theorem Y:Z:=L
universe f7 Eaa r8 Eaaa EQ Eaaaa tP Eaaaaa aZQ Eaaaaea aCP Eaaaeae am5 Eaaaeea am4 Eaaaeee ak8 Eaae kO Eaaea EV Eaaeaa aZ9 Eaaeaaa aaV Eaaeaee Cr Eaaeeea q_ Eaea Fb Eaeaeaa E3 Eaeea CN Eaeeaa aE Eea bW Eeaa O6 Eeaaa zJ Eeaaaa aZM Eeaaaaa Ib Eeaae ame Eeae aZL Eeaeaea aoY Eeaeeaa Eee Eee jH Eeea lT Eeeaa zM Eeeaaa Fj Eeeaaaa aZ0 Eeee aZP Eeeea mG Eeeeaa alR Eeeeaaa EH Eeeeeaa am9 Eeeeeee Fa Fa cy Faa gX Faaa jF Faaaa jg Faaaaa lW Faaaaaa aAy Faaaaea Faaaeae Faaaeae Faaaeea Faaaeea aZ_ Faaaeee P9 Faae Pw Faaea Faaeaa Faaeaa aZN Faaeaaa Cz Faaeaee ac0 Faaee aGm Faaeea Faaeeea Faaeeea si Faaeeee Fo Fae Cy Faea aa9 Faeaa aHR Faeaaaa aZO Faeaea Faeaeaa Faeaeaa aEG Faee EZ Faeea abl Faeeaa anK Faeeea aoU Faeeeaa Rw Faeeeea Fu Faeeeee Fe Fe bj Fea cV Feaa tR Feaaa UK Feaaaa rE Feaaaaa aZS Feaae Feae Feae Vx Feaea Feaeaea Feaeaea Feaeeaa Feaeeaa Fee Fee fb Feea cw Feeaa g9 Feeaaa jt Feeaaaa Lg Feeaaea qA Feeaaee aaz Feee lA Feeea om Feeeaa dF Feeeaaa pH Feeeea i8 Feeeeaa gQ Feeeeea bv Feeeeee aM Iaa bU Iaaa dI Iaaaa im Iaaaaa kl Iaaaaaa Rz Iaaaaae rm Iaaaaea zQ Iaaaaee aZ1 Iaaae aZK Iaaaea aZ4 Iaaaeae aFV Iaaaee aCQ Iaaaeea am2 Iaaaeee HD Iaae n0 Iaaea HI Iaaeaa ay1 Iaaeaaa aZ8 Iaaeaae aci Iaaeaea jR Iaaeaee aFU Iaaee aZ7 Iaaeea LK Iaaeeaa u_ Iaaeeea jI Iaaeeee Iv Iae fH Iaea aED Iaeaa aHN Iaeaaaa aAw Iaeaea aFp Iaeaeaa aZ6 Iaeaeea aGa Iaeaeee aEF Iaee mr Iaeea ES Iaeeaa anR Iaeeaaa anJ Iaeeea QI Iaeeeaa Rv Iaeeeea Rt Iaeeeee ab Iea bC Ieaa eR Ieaaa oN Ieaaaa iu Ieaaaaa aZ5 Ieaaaae Q1 Ieaaaea anL Ieaaaee HU Ieaae Iw Ieaaeaa aF_ Ieaaeae abQ Ieaaeee f6 Ieaea jJ Ieaeaa qC Ieaeaaa aHP Ieaeaae jE Ieaeaea dC Ieaeaee aaD Ieaeea bh Ieaeeaa fA Ieaeeea cY Ieaeeee wk Iee fM Ieea aU Ieeaa gN Ieeaaa c_ Ieeaaaa wO Ieeaaae Ip Ieeaaea wQ Ieeaaee aZ2 Ieeaea a0a Ieeaeae K7 Ieee Ci Ieeea zq Ieeeaa cj Ieeeaaa aZ3 Ieeee aAx Ieeeea bO Ieeeeaa su Ieeeeea dZ Ieeeeee
example:=#[by first|assumption|with_reducible (first|show Nat.le_of_lt Y|show Nat.zero_le _|show Nat.le_add_left _ _|show Nat.lt_succ_self _|show Int.natCast_nonneg _|show Nat.le_add_right _ _|show Nat.le_trans Y Y|show Nat.le_trans Y (Nat.le_of_lt Y)|show (Nat.not_lt_zero _ Y).elim|show Nat.lt_of_le_of_lt (Nat.sub_le _ _) Y|show Nat.le_trans Y Z|show Nat.lt_of_lt_of_le Y Z|show Nat.lt_of_le_of_lt Y Z|show Nat.lt_of_lt_of_le Z Y|show Nat.lt_of_lt_of_le Y Y|show Nat.lt_of_le_of_lt Y Y|show Nat.lt_trans Y Y|show Nat.le_of_succ_le Y|show Nat.le_succ_of_le Y|show Nat.sub_le _ _|show Nat.zero_lt_of_lt Y|show Nat.lt_of_lt_of_eq Y (Eq.symm Y)|show Nat.lt_of_lt_of_eq Y Y|show Nat.lt_of_succ_lt Y|show Int.toNat_of_nonneg Y|show Nat.zero_add _|show Nat.ne_of_lt Y|show Nat.ne_of_gt Y|show Nat.add_comm _ _|show Nat.le_antisymm Y Y|show Nat.le_of_not_lt Y|show Nat.le_of_eq Y|show Nat.le_of_eq (Eq.symm Y)|show Int.ofNat_lt.2 Y|show Nat.lt_of_not_le Y|show Nat.succ_le_succ Y|show Nat.le_of_lt_succ Y|show zq1 Y|show zq2 Y|show zq5 Y Y|show zq7 Y|show zq8 Y|show zqA Y Y|show zqD Y Y|show zqF Y|show zqG Y|show zqH Y|show zqJ Y|show zqK Y Z|show zqL Y Z|show zqM Y|show zqN Y|show zqO Y Y Z|show zqP Y Y Z|show zqQ Y Y Z|show zqR Y Z|show zqS Y|show zqT Y|show zqU|show zqV Y|show zqW Y|show zqX Y|show zqZ Y|show yq2 Y|show yq3 Y Y)|lia|omega (config:={}),by first|show _T.dis Y|show _T.aZV Y|show _T.aZW Y|show _T.aZU Y|(let q_:=_T.aZX Y;subst q_)|(let q_:=_T.jTup Y;subst q_)|(let q_:=_T.jInt Y;subst q_)|(let q_:=_T.aZY Y;subst q_)|(let q_:=_T.aZZ Y;subst q_)|cases (Y)|fail,by first|apply (?_:Y)|change Y,by first|apply rwl Y ?_|apply rwl (Y _) ?_|apply rwl (Y _ _) ?_|apply rwl (Y _ _ _) ?_|rewrite[Y],by first|apply rwr Y ?_|apply rwr (Y _) ?_|apply rwr (Y _ _) ?_|apply rwr (Y _ _ _) ?_|rewrite[<-Y],by rewrite[Y],by rewrite[<-Y],by with_reducible try rfl,(by assumption),(by decide)]
example:=#[by first|lia|omega (config:={}),_,_,by first|apply rwl Y ?_|rewrite[Y],by first|apply rwr Y ?_|rewrite[<-Y],by rewrite[Y],by rewrite[<-Y],by with_reducible try rfl,0,0]
@[elab_as_elim]def rwl{α:Sort _}[eM](h:a=b)(x:m b):m a:=h▸x
@[elab_as_elim]def rwr{α:Sort _}[eM](h:a=b)(x:m a):m b:=h▸x
def zp{p:(Å,Nat,Nat)}(a b:Nat)(h:(EN,p x y)):p (a%2) (b%2):=h _ @pv _ @pv
def zq1[aE]:a-(b+1)<a-b:=Nat.sub_succ_lt_self _ _ h
def zq2[W](h:@ql=0):@xY:=(HL,@e8=0,x)
def zq5[W](h:¬a=b)(g:a<b+1):a<b:=Nat.lt_of_le_of_ne (Nat.le_of_lt_succ g) h
def zq7[aE]:a-1-b<a:=(A9,(ww,Nat.zero_lt_of_lt h))
def zq8[į](h:a<2):@am3:=Nat.le_one_iff_eq_zero_or_eq_one.1 (Nat.le_of_lt_succ h)
def zqA[dM](h:b<a)(g:a<=c):a-1-b<c:=qe (zq7 h) g
def zqD[W](h:a<=b)(g:¬a<b):a=b:=Tx h (aiu g)
def zqF[į](h:0<a):a=a-1+1:=(Gj h).symm
def zqG[į](h:a%2=0):@li%2=0:=dS dU h
def zqH[aE]:a-b+b=a:=Gj @FJ
def zqJ[aE]:a=b+(a-b):=(avE @FJ).symm
def zqK{a j:Nat}{k:Int}(h:a<=j)(g:@f4<k):@li<k:=(wx,@O6)
def zqL{a j:Nat}{k:Int}(h:a<=j)(g:@f4+1<k):@li+1<k:=(wx,Int.add_le_add_right @O6 1)
def zqM[W](h:(Ó,@li,@fD)=@o):a<b:=avF.1 (cF h)
def zqN[į](h:@am3):a<2:=h.elim (sz,Nat.two_pos) (sz,Aq 1)
def zqO[dN](h:a=b)[cm]:a<=k:=h▸@MR
def zqP[eE][cm]:a<=k:=dw @FJ @MR
def zqQ[eE][cm]:a<k:=qe h @MR
def zqR[dN](h:b<=j)(e:@lO):min a b<=k:=dw @BP (dw h e)
def zqS[W](h:@ql=1):(a+1)%2=b%2:=(yN a 2 1).symm.trans (HL,@e8=1,(x+1)%2)
def zqT[W](h:b%2=a%2):@ql=0:=(tf a b 2).trans (wf,y=x->@e8=0,h)
def zqU[W]:a-b+min b a=a:=(dS (a-b+·) (Nat.min_comm b a)).trans (Nat.sub_add_min_cancel a b)
def zqV[W](h:@amO):@xY:=dU.inj h
def zqW[W](h:@xY):@amO:=dS dU h
def zqX[dM](h:a<b-c):a+c<b:=@O9
def zqZ[į](h:a<=2):a=0\/a=1\/a=2:=(Nat.lt_or_eq_of_le h).elim (λg=>(zq8 g).imp id .inl) (λe=>@Jx)
def yq2[į](h:0<a):a-1<a:=(ww,h)
def yq3[dM](h:b<=c)(g:a<=b+1):a<=c+1:=dw g (avG h)
def v{p:(eH,@Xm)}(a b c:Nat)(h:(EN,∀z,z<2->p x y z)):p (a%2) (b%2) (c%2):=h _ @pv _ @pv _ @pv
def zpa[W]:@ql=0↔@xY:={zq2,λh=>zqT @mb}
def zpb[W]:a%2=@ql↔b%2=0:=(d,tf,zp (p:=λx y=>x=@e8↔y=0) a b @Ó)
def zpc{f g S F G:Nat}(h:S%2=(F+G)%2):((f+g)%2+S)%2=(f+F+(g+G))%2:=by rw[yN,<-JX,h,JX,Nat.add_add_add_comm]
def zpe{x q k:Nat}(h:q%2=(x+k)%2):(x+q)%2=k%2:=by rw[tf x k]at h;rw[tf];show v (p:=λx y z=>y=(x+z)%2->@e8=z) x q k @Ó h
def zpf{s s' q c:Nat}(h:(s'+q)%2=c)(e:s'%2=s%2):(s+q)%2=c:=by rw[tf,<-e,<-tf];show h
def zpg{a b u v:Nat}(h:v<2):(a+b+u+v)%2=0↔(u+a+b)%2=v:=by rw[zpa,(@uC),Ar @gd u,qf]
def zph{c s:Nat}(h:c<2):c=(s+(c+s)%2)%2:=by rw[JX,Nat.add_left_comm,tf,zqT @d,D_,Nat.mod_mod,(@uC)]
def zpi{a b c x y:Nat}(h:(a+b)%2=x)(g:(b+c)%2=y):(a+c)%2=@e8:=by subst h;subst g;rw[tf a c,tf a b,tf b c];show v (p:=λx y z=>(x+z)%2=(@e8+(y+z)%2)%2) a b c @Ó
def zpz[W]:(a+(b+b))%2=a%2:=by rw[tf,zqT @d,D_,Nat.mod_mod]
def zpj{a u j v:Nat}:(a+u+(j+(u+v)%2))%2=(j+(a+v))%2:=by rw[<-qf,JX,NU a u j,qf (a+j) u,<-qf u u v,Ar (u+u) v,<-qf,zpz,Ar a j,qf]
def zpk{t r d:Nat}:(t+(r+t+d)%2+d)%2=r%2:=by rw[NU t _ d,JX,qf r t d,Nat.add_left_comm,zpz]
def zpl[e5](g:(s+c+f)%2=1):(s+f+1)%2=c:=(yf,(zqS g).trans @uC)
def zpm[e5](g:¬(s+c+f)%2=1):(s+f)%2=c:=(yf,(zq2 ((Ea _).resolve_right g)).trans @uC)
def zpn{p q k:Nat}(h:k<q-p):p+(q-p-1-k)=@K9:=by rw[(wy,q,1),(wy,q-1,k)];calc avE (Nat.le_sub_of_add_le (Nat.le_sub_one_of_lt ?_));rw[Ar];show@O9
def zpo[eN](hj:j<k)(e:@fH=k-1-j):i=j:=(Nat.sub_sub_self (Nat.le_sub_one_of_lt hi)).symm.trans ((dS (k-1-·) e).trans (Nat.sub_sub_self (Nat.le_sub_one_of_lt hj)))
def zpp[eN](hj:¬j<k)(e:@fH=j):i=j:=absurd (e▸zq7 hi) hj
namespace _M
open Vbcjac PyVbcjac
variable{a b c d e n no w:Nat}{F P S:@È}{q y:Row}{U:@ĕ}{α:@è}{left o:@h}{l:gK}{K N u:je}{z:az}{t:As}
structure cf[c4]:@v where
 len:@Xs
 lt:(nn,@lB<n)
 inj:∀i j,i<n->j<n->@lB=@bU->i=j
def iF[a2][ũ]:@ĵ=h[i]:=(zr,@bH)
def axv[a2](hi:@ħ<=i):@ĵ=@Ý:=(zr,qg hi)
def xC[Ū](hl:@ox)(h:∀i,i<@b3->(Ħ,a)=@Yc):a=b:=(GD,iF h1,iF h2)
def OS(a b:az):@aw=b.map (cK a):=@d
def oM(a b:az):(aY a b).length=@aY:=by simp[OS]
def ql[Ū][e](hi:i<@aY):(Ħ,@aw)=cK a @Yc:=by rw[iF (by simpa[oM]using hi),(@oI)];simp[OS]
def Cc[ĭ]:@Zj=((jq,x.1),(gB,x.1)!=x.2):=@d
def qm[c2]:@eB=@ĵ:=by rw[Cc];exact(@lB,(gB,i)!=@Å)=@ĵ;simp
def xD[Ū][C](hx:x.1<@aY):cK @aw x=cK a (cK b x):=by let{i,u}:=x;simp only[Cc,ql hx];rw[avH]
def rY[c]:(same n).length=n:=by simp[same]
def uR[í]:(Ħ,@Õ)=@Ý:=by
 rcases ft i n with h|h;.rw[iF (by simpa[rY]using h)];simp[same]
 .rw[axv (by simpa[rY]using h)]
def zk[c][Ý]:cK @Õ x=x:=by let{i,u}:=x;simp[Cc,uR]
def lw[c4]:@YU=h:=by
 rw[OS];let:cK @Õ=id:=by funext x;show zk n x
 rw[ê,uC]
def xE[k](hl:@Xs):aY h @Õ=h:=by refine xC (by simp[oM,rY,hl]);ext i hi;rw[ql (by simpa[oM]using hi),uR,qm]
def cf.lt'[Ì][C](hx:@hH):@aia<n:=H.lt _ hx
def mm{a b c:az}(hb:@IR)(hc:@I!):@amT=aY @aw c:=by
 refine xC (by simp[oM]);ext i hi;rw[fw,i<@ő];let hn:i<n:=by simpa[hc.len]using g
 rw[ql (by simpa[oM]using g),ql g,ql g,xD (d,hb,hc.lt _ hn)]
def pA[c]:cf n @Õ where
 len:=rY n
 lt:=λi hi=>by simpa[uR]using hi
 inj:=λi j _ _ h=>by simpa[uR]using h
def kM[Ū][b?]:cf n @aw where
 len:=by simp[oM,hb.len]
 lt:=λi hi=>(d,@ado,ha.lt _ @afD)
 inj:=λi j hi hj h=>(fk,@ado,ql (by simpa[hb.len]using hj),hb.inj i j hi hj (ha.inj _ _ @afD (hb.lt _ hj) h))
def axw{l:@h}(hd:l.Nodup)(bK:∀x∈l,x<n)(hl:@Ã=n)[V]:i∈l:=by
 calc avI λa=>?_;let h1:(i::l).Nodup:=pd.2 ⟨a,hd⟩;let h2:(i::l)⊆@uH:=by
  ext x hx;rcases eJ.1 hx with h|h;.subst h;show kt.2 hi
  .show kt.2 @aie
 let:=h1.length_le_of_subset h2;simp[hl]at this;omega
def cf.firsts_nodup[Ì]:(h.map @ê).Nodup:=by rw[Ž];ext i j hi hj E he;simp only[aw]at hi hj;simp only[jY]at he;rw[<-(@oI),<-iF hj]at he;let:=H.inj i j (by simpa[H.len]using hi) (by simpa[H.len]using hj) he;simp_all
def cf.surj[Ì][V]:∃j,j<n/\@bU=i:=by let:=axw (n:=n) H.firsts_nodup (by ext x hx;rw[fm];subst aW;rw[gH];rw[<-iF hk];show@xQ) @WB hi;rw[À,this,@Pb];subst bf;rw[gH];show ab k @auS (ø,iF hk)
def Ky[D]:@Pc=@ħ:=by simp[back]
def ED[J][Ĩ]:at_ @gl @bU=(j,@iG):=by
 let bK:=H.lt j hj;let Bp:j<@ħ:=@lu;rw[iF (Ç,Ky,H.len,bK)];let hf:h.findIdx (g0,@bU)=j:=by
  rw[aWK Bp];constructor;.rw[iF Bp];simp
  .ext k hk;let sK:k<@ħ:=@e;rw[<-iF sK];calc jA.2 @uJ;let Bq:=@Pi;let:=H.inj k j @e hj Bq;simp_all
 simp only[back,jY,rR,hf]
def xF[Ì]:aY @gl h=@Õ:=by refine xC (by simp[oM,rY,H.len]);ext i hi;rw[fw,@gC];let hn:i<n:=(e8,g);rw[ql g,uR,Cc,ED H hn];simp
def UD[Ì]:aY h @gl=@Õ:=by
 refine xC (by simp[oM,rY,H.len,Ky]);ext i hi;rw[fw,i<@Pc];let hn:i<n:=by rw[<-H.len,<-Ky];show g
 rw[cv,hn];subst e;rw[ql g,uR,(@xt),Cc];simp
def qY[Ì]:cf n @gl where
 len:=(fV,Ky)
 lt:=λi hi=>by rw[cv,hi];subst e;rw[(@xt)];show hj
 inj:=λi k hi hk he=>by rw[cv,hi,<-x,H.surj hk,λl hl F=>?_];subst e F;rw[(@xt),ED H hl]at he;let a:j=l:=he;rw[a]
inductive Gen[Ú]:(ú,az)|one:(Ġ,@Õ)|mul{g h}:@gc->@ų->(Ġ,@tO)
def  eI[Ú]:@v:=∀g∈S,cf n g
def Gen.isHand[dK]:@à:=by rw[eA,@bO,kM (v _ hm) ih]
def Gen.comp{n S a b}[v](ha:(Ġ,a))(hb:(Ġ,b)):(Ġ,@aw):=by cases ha with|one=>rw[lw];show hb|@mul g h hm hh ih=>rw[<-mm @aww (hb.isHand v)];show Gen.mul hm ih
def Gen.mem{n S g}[v](hg:@gc):(Ġ,g):=(d3,(sC,Gen.one (n:=n) (S:=S)),xE (v g hg).len)
def Gen.mono{n S T h}(a:@aik)[bh]:(de,T):=(Ag,Gen.mul @aim ih)
def Gen.trans{n S T h}(HT:eI n T)(a:∀g∈S,Gen n T g)[bh]:(de,T):=(Ag,Gen.comp HT @aim ih)
def  power[c4]:Nat->az|0=>@Õ|k+1=>(cs,h,k)
def v_[Ì][r]:cf n @YS:=(DP,@bO,kM H ih)
def Hj[Ì](a b:Nat):(î,@gd)=(cs,(î,a),b):=by cases a with|zero=>rw[oE];show(lw n _).symm|succ a ih=>rw[Nat.succ_add];exact(cs,h,@gd)=(cs,(cs,h,a),b);rw[ih,(EQ,a,b)]
def Gen.power[dK][r]:(Ġ,@YS):=(DP,@d1,(fO,hg,ih))
def  rZ[t](v:@ß):Nat->(ed,α)|0=>[[]]|n+1=>v.flatMap @apz
def UE[t]{v:@ß}:∀{n:Nat}{l:@ß},@Ã=n->(wz,v)->l∈rZ v n|0,[],_,_=>by simp[rZ]|n+1,x::l,hl,h=>by simp only[rZ,lI,bE];show f6 x @Kc l (UE @gz @apA) @d
def  signed[c]:@Đ:=(l',n,@anO)
def EE[C]:x∈@jC↔@hH:=by
 let{i,u}:=x;simp only[signed,lI,kt];constructor;.rw[E,λj hj h=>?_];simp at h;rcases h with h|h<;>omega
 rw[Ŕ,ab i h (by induction u<;>simp)]
def Hk[c]:(signed n).length=2*n:=by cases n with|zero=>rfl|succ n ih=>simp only[signed]at ih⊢;rw[uF,Tz,eM,ih];simp;omega
def cf.mem_all[Ì]:h∈@MT:=by refine UE H.len;ext x hx;rw[eG];rw[<-iF hk];show EE.2 @xQ
def axx[Ì]:∃k,@YT=@Õ:=by
 rw[iA];let db:∀k,@YT≠@Õ:=λk e=>db ⟨k,e⟩;let aQ:∀i j,i<j->@tN≠(î,j):=by
  ext i j E e;rw[È,(î,j),@anp,(An,Hj H)];let e3:(cs,back @tN,i)=(kP,@tN,@anp):=by rw[<-e2,<-e]
  rw[(EQ,i,j-i),xF (v_ H i),lw]at e3;rw[Ċ,j-i,(j-i-1)+1];rw[this]at e3;show db _ e3.symm
 have N:=@xR;let hd:((bP (N+1)).map @aiv).Nodup:=by rw[Ž];ext i j hi hj E;simpa using aQ i j E
 let hs:((bP (N+1)).map @aiv)⊆@MT:=by ext x hx;rw[ň,λk _ bu=>?_];subst bu;show(v_ H k).mem_all
 rw[jd];simp[N]at this;omega
def Kz{n a b}[b?](e:@aw=@Õ):@Pd=b:=by rw[n1,@Õ];rw[(@afI),xF ha,lw,xE (qY ha).len]at this;show this.symm
def Gen.back[dK]:(Ġ,@gl):=by let H:=hg.isHand v;let{k,e}:=axx H;let:aWL h=_M.power n h k:=Kz H (v_ H k) e;rw[Ã];show hg.power v k
def  GoodR[aC](x:@nJ):@v:=@Jz/\cK x.2 @Ý=x.1
def  wb(old:fX)(x:@nJ)(acc:fX)(g:az):fX:=let y:=@jG;(V,(ER,y),acc,(CP,y))
def axy{n S x i g}[ç](hg:@gc)(hx:@ou):(pC,@ah9):=by rw[Ì,(sC,hx.1)];exact@adn=@jG;rw[(fp,(hx.1.isHand v).len),hx.2]
def axz[a?]{old:fX}{x:@nJ}(hx:@ou):∀(e:@È)(acc:fX),(FX,∀g∈e,@gc,e.foldl @CC acc,@Pp/\(h3,r)/\@afN/\(∀g∈e,(va,r))):=by
 ext z_;cases z_ with
 |nil=>ext acc _ h1 h2;show@arN
 |cons g e M=>
  ext acc c h1 h2;let hg:@gc:=c g @A;let key:(∀z∈@qY,@Df)/\(h3,@qY)/\(Li,@qY)/\(va,@qY):=by
   delta wb;by_cases hc:(ER,@jG)=@o;.simp only[hc,ku];rw[x,TD.1 hc,@kt];show aZK h1 h2 @Dz z hz @Pi
   .simp only[hc];apply(tM,?_,?_)
    .ext z hz;rcases bX.1 hz with h|h;.show h1 z h
     rw[þ,h,axy v hi hg hx]
    .exact(h3,(CP,@jG));rw[<-gh,bF];rw[Gk];calc(Ø,h2,@A);ext a ha b hb;simp only[cT,At,dt]at hb;subst hb;rw[À,ha,λz hz aW=>?_];subst aW;ext he;refine hc;show TD.2 (ab z hz (gy.2 he))
    .ext z hz;show Au _ hz
    .show ab @ah9 @A @d
  let ih:=M @qY (λg' h=>c g' @Iv) key.1 key.2.1;simp only[BX];calc@aq7;ext g' u;rcases eJ.1 u with rfl|h;rw[n6,key.2.2.2];.show ih.2.2.2 g' h
def ajS{n i:Nat}{S:@È}[ç]{old:fX}:∀(l:fX)(acc:fX),(FX,∀x∈l,@ou,(Lj,@NX,acc),@Pp/\(h3,r)/\@afN/\(∀x∈l,∀g∈S,(va,r)))|[],acc,_,h1,h2=>@arN|x::l,acc,hl,h1,h2=>by let key:=axz v hi (old:=old) (hl x @A) S acc @Dz h1 h2;let ih:=ajS v hi (old:=old) l @NX (λy h=>hl y @Iv) key.1 key.2.1;simp only[BX];calc@aq7;ext d C g hg;rcases eJ.1 C with rfl|h;rw[n6,key.2.2.2 g hg];.show ih.2.2.2 d h g hg
structure Hl[aC](r:fX):@v where
 good:@Ps
 nodup:@Pt
 start:(oa,r)
 closed:∀x∈r,∀g∈S,∃z∈r,@Dl
def axA(gens:@È)(f:Nat)(old l:fX)(hl:@dz):NV gens @bJ old l=NV gens f (old++@arO) @arO:=by
 let:(A,l.isEmpty):=by induction l<;>simp_all
 simp only[NV,this];rfl
def axB(gens:@È)(f:Nat)(old:fX):NV gens f old []=old:=by induction f<;>simp[NV]
def ajT{n i S}[ç]{r:fX}(h1:@Ps)(h2:@Pt):r.length<=2*n:=by
 let hs:@Pv⊆@jC:=by ext y hy;rw[À,hy,@h'];subst bf;rw[EE,<-(h1 x hx).2];show((h1 x hx).1.isHand v).lt _ hi
 let:=h2.length_le_of_subset hs;simpa[Hk]using this
def axC[a?]:∀(f:Nat)(old l:fX),(∀x∈old,@ou)->(old.map @ê).Nodup->(oa,old)->(wz,old)->(∀x∈old,@ps\/∀g∈S,∃z∈old,@Dl)->(@dz->2*n+1<=old.length+f)->Hl n i S (NV S f old l):=by
 ext f;cases f with
 |zero=>
  ext old l h1 h2 h3 h4 h5 h6;by_cases hl:l=[];.subst hl;show@arY
  .let:=h6 hl;let:=ajT v hi h1 h2;omega
 |succ f ih=>
  ext old l h1 h2 h3 h4 h5 h6;by_cases hl:l=[];.subst hl;rw[axB];show@arY
  .rw[axA _ _ _ _ hl];let key:=ajS v hi (old:=old) l [] (λx hx=>h1 x (h4 x hx)) @A @pb;refine ih
   .ext x hx;rcases bX.1 hx with h|h;.show h1 x h
    .show key.1 x h
   .show key.2.1
   .show Au _ h3
   rw[fb,uG _ hx]
   .ext x hx;rcases bX.1 hx with h|h
    .right;ext g hg;rcases h5 x h with h'|h';.show key.2.2.2 x h' g hg
     rw[au,h' g hg,@kt,(LX,hz)]
    .show al h
   .ext hm;let:=h6 hl;let:0<(l.foldl (λacc x=>@NX) []).length:=BY.2 hm;rw[eM];omega
def we[a?]:Hl n i S (mO n i S):=by
 delta mO;refine axC v hi;.ext x hx;rw[dt.1 hx];show{@d1,by simp[zk]}
 .simp
 .simp
 rw[fb,hx,<-fb,al hx];.ext _;simp
def Hl.of_gen{n i S r}[ç](O:@afn){h}[bh]:∃z∈r,z.1=@eB:=by cases hg with|one=>show ab _ O.start (by simp[zk])|@mul g h hm hh ih=>clear ih;rw[E,@kt,<-x,O.closed z hz g hm,λw hw a=>?_];show ab w hw (Ô,a,he,@ab?)
def Hl.mem_iff{n i S r}[ç](O:@afn)(y:@Ü):y∈@Pv↔@Af:=by
 constructor;.ext hy;rw[À,hy,@Px];subst bu;show ab x.2 @NY @aiA
 .rw[E,λh hg bH=>?_];subst bH;rw[x,O.of_gen v hi hg,@kt];show(a6,z,hz,he)
def  gm[ū][o]:@È:=S.filter λg=>iq g i
def mR[a2]:@bc↔@z6:=by simp[iq,j_]
def Hm[k][Þ](E:j<=i)[bi]:(iD,j):=by rw[mR]at*;show λk hk=>hf k @e
def AM[e][Č]:g∈@aL↔@gc/\(av,g):=jk
def ajU[Þ](E:j<=i)[Č](hg:g∈@aL):g∈@Ei:=(yu,hg.1,Hm E hg.2)
def eI.lev{n S}[v][o]:eI n @aL:=λg hg=>v g @awy
def Hn[í]:(av,@Õ):=by rw[mR];ext j _;show uR n j
def OT{n i a b}(hb:@IR)[eK](ip:(av,b)):(av,@aw):=by rw[mR]at*;ext j hj;rw[ql @e,ip j hj,qm,ha j hj]
def OU{n i a}(H:@pp)[eK]:(av,@Pd):=by rw[mR]at*;ext j hj;let:=ED H (j:=j) @e;rw[ha j hj]at this;show this
def Gen.fixes{n S i h}[v](hi:@bS)(hg:@pR):@bc:=by cases hg with|one=>show@xv|mul hm hh ih=>show OT (hh.isHand @aM).len hi (AM.1 hm).2 ih
def Cd[Ì](hf:(iD,n)):@wE:=by refine xC (tw,rY);ext i hi;rw[uR];show mR.1 hf i @w7
def OV[Ú]:(mh n S).length=n:=by simp[mh]
def UF[V]:(@Ca)[i]'(by simpa[OV]using hi)=@iR:=by simp[mh,gm]
def Ce[V]:(j?,i)=@iR::(j?,@Q):=(K,UF hi,yO (by simpa[OV]using hi))
def OW[Ú]:(j?,n)=[]:=by refine yP;simp[OV]
def UG[o][D]:ph [] i h=h:=by delta ph;rfl
def ajV{l:fX}{r:@ĕ}[e][k](e:(mb,@eB)=@u):ph @Zv i h=h:=by delta ph;simp only[e]
def EF{l:fX}{r:@ĕ}[e][k]{x}(e:(cm,(mb,@eB))):ph @Zv i h=ph r @Q @cK:=by rw[ph];simp only[e]
def OX{l:fX}{y:@Ü}{x}(e:(cm,(mb,y))):@ps/\x.1=y:={@k3,(Lb,y)}
def OY{l:fX}{y:@Ü}(h:∃z∈l,z.1=y):(sE,(mb,y)):=by clear h;rw[E,@kt];cases e:l.find? (λx=>x.1==y)with|some x=>rw[ć,x]|none=>let:=yQ.1 e z hz;simp[he]at this
def KA[a?][J][bi]{x}(e:(cm,(mO n i @aL).find? (g0,@eB))):cf n @cK/\iq @cK @Q=@o/\Gen n @aL x.2/\h=aY x.2 @cK:=by
 rw[aZ];let{hm,he}:=OX e;let G:=O.good x hm;let a:=G.1.isHand @aM;let k:=qY a;calc bU (kM k H) ?_ G.1 ?_;.rw[mR];ext j hj;rw[ql @h3];rcases ft j i with u|u;rw[nY,u,OU a @e (G.1.fixes v @e),u];.rw[Ċ,j,i];subst this;rw[qm]at he;rw[<-he,<-G.2,<-(fp,a.len),xF a,zk]
 .rw[mm k.len H,UD a,lw]
def UH[v][J]:(EU,@am',@iM):=by
 ext z_;cases z_ with
 |zero=>ext _ _;show@d
 |succ i M=>
  ext hi hf;rw[M @e (Hm @C hf),Ce @e];let c:=@ada;let O:=we @aM @Jn;let{x,ex}:=OY (l:=@iR) (y:=@eB) (ab _ O.start (u,qm,c));rw[(@oM)];let{hm,he}:=OX ex;let:x=(@Ý,@Õ):=by
   let hn:=O.nodup;rw[lQ];let{a,ha,e1}:=oC hm;let{b,hb,e2}:=oC O.start;let g:x.1=@Ý:=(Ô,he,qm,c);rcases Eb a b with d|d|d;rw[mA,a,b,ha,hb];.subst d;rw[<-e1,<-e2]
   rw[mA,b,a,hb,ha]
  subst this;let j:back @Õ=@Õ:=@apB;simp only[j,lw]
def OZ[v]:(sF,@à->@bc->@iM=@Õ->@pR):=by ext z_;cases z_ with|zero=>ext i hk h H hf _;rw[Į];subst this;rw[(@qp)];show@d1|succ k M=>ext i hk h H hf hs;rw[į];rw[(@k4)]at hs;cases ex:(mO n i (gm S i)).find? (λx=>x.1==cK h (i,false))with|none=>rw[ajV ex]at hs;rw[hs];show@d1|some x=>rw[(@oM)]at hs;calc@afQ;let:=M @Q @e _ h1 h2 hs;rw[h4];show Gen.comp @aM h3 (wE,@aiD)
def  Ho[Ú]:@v:=(nn,∀x∈@iR,∀g∈@aL,@Fz=@Õ)
def ajW[cN]:(sF,@pR->@iM=@Õ):=by ext z_;cases z_ with|zero=>ext i hk h hg;let hi:i=n:=@Ä;subst hi;rw[OW,UG];show(Bg,@Po)|succ k M=>ext i hk h hg;rw[į];let ih:=@xj;rw[aZ];cases hg with|one=>rw[<-UH v @bO i @e @xv,UH v @bO n @Â @acR,OW,UG]|@mul g h hm hh a=>let H:=hh.isHand @aM;let hf:=@aiE;let d:=v.lev i g hm;let{x,ex}:=(vc,hh);calc r8 @FE @PM;rw[(@k4),(@oM)]at a;let g1:Gen n @Ej @cK:=OZ v k @Q @e _ s1 s2 a;let l:@agw:=Gen.mul hm s3;let c:=l.isHand @aM;let b:=l.fixes v @e;let hs:=F i hi x @PN g hm;rw[UH v c i @e b,(@k4)]at hs;let{z,ez}:=(vc,l);rw[EF ez]at hs;calc r8 (KA v hi c b ez) (λt1 J t3 t4=>?_);let g2:Gen n @Ej (kP,z.2,@cy):=OZ v k @Q @e _ t1 J hs;rw[É,@tO,aY @cy @cK,by let:=s3.isHand @aM;rw[<-mm this.len s1,<-s4],<-È,cK @tO @Ý,@adn,by rw[e1,(fp,s1.len),qm _ i,(h4,s2)]];rw[(@k4),EF (d,e2,ez)];refine ih;let hz:=(t3.isHand @aM);rw[e1,mm c.len s1];show Gen.comp (v.lev @Q) g2 g1
def axD(h:NW n S=@u):@xw:=by
 ext i hi x hx g hg;delta NW at h;rw[List.findSome?_eq_none_iff]at h;let iB:@cy∈((mh n S).zipIdx).flatMap λl=>l.1.flatMap λx=>(S.filter λg=>iq g l.2).map λg=>@cy:=by
  rw[lI];rw[â,(@iR,i),?_];.rw[<-UF hi];rw[avJ];show cJ _
  rw[Â,lI,ab x hx @amF]
 let:=h _ iB;rw[gI];.show hc
 .simp[hc]at this
def axE(h:@acr):∃i,i<n/\∃x∈@iR,∃g∈@aL,z=@Fz/\z≠@Õ:=by
 delta NW at h;rw[x,List.exists_of_findSome?_eq_some h,λk hk he=>?_];rw[lI]at hk;clear hk;rw[E,λaW hl hk=>?_];let{l,i}:=aW;rw[lI]at hk;clear hk;rw[E,λx hx hk=>?_,<-À,hk,λg hg bf=>?_];subst bf;rw[avJ]at hl;let{hi,hl}:=gL.1 hl;rw[OV]at hi;rw[UF hi]at hl;rw[gI];.simp[hc]at he
 .simp[hc]at he;calc jE i hi x (hl,hl) g hg (À,he.symm);rw[<-he];show hc
def axF[v]:(sF,@à->@bc->@ų->@iM≠@Õ->∃j,@gH/\j<n/\(Ġ,@iM)/\iq @iM j=@o/\∀w∈mO n j @Ei,w.1≠cK @iM @fx):=by ext z_;cases z_ with|zero=>ext i hk h H hf hg aQ;exfalso;refine aQ;rw[Į];subst this;rw[OW,UG];show@qp|succ k M=>ext i hk h H hf hg aQ;rw[į];rw[(@k4)]at aQ⊢;cases ex:(mO n i (gm S i)).find? (λx=>x.1==cK h (i,false))with|none=>rw[ajV ex];calc oN i @Â hi hg hf ?_;ext w hw he;let:=yQ.1 ex w hw;simp[he]at this|some x=>rw[(@oM)]at aQ⊢;calc@afQ;let d:@Jz:=h3.mono @Py;rw[Æ,M @Q @e _ h1 h2 (fO,d.back v,hg) aQ,λj a b c=>?_];show bC j @e b c
def  O3[Ú]:Nat:=(hG,λi=>(mO n i @aL).length)
def UI{f g:@vW}:(mc,@aiF->@FY<=@FX):=by ext z_;cases z_ with|nil=>rw[Ę,@A]|cons i l M=>ext h;rw[aB,i];let h2:=M @qU;simp only[cT,jB];omega
def axG{f g:@vW}[Ä]:(mc,@aiF->j∈l->f j<g j->@FY<@FX):=by
 ext z_;cases z_ with
 |nil=>ext _ hj _;show by simp at hj
 |cons i l M=>
  ext h hj bK;rw[aB,i];let h2:=UI l @qU;simp only[cT,jB];rcases eJ.1 hj with rfl|hj;.omega
  rw[ā,M @qU hj bK]
def UJ[A]:∀n,(hG,λ_=>c)=n*c:=by ext z_;cases z_ with|zero=>show@A|succ n M=>rw[uF,bF,Gm,M,Ec];simp
def axH[v]:@MV<=@fX:=by rw[<-UJ];refine UI;ext i hi;let hi:=@gn;rw[aZ];show ajT @aM hi O.good O.nodup
def ajX[e]{T:@È}[v](HT:eI n T)[Ó](h:@aik):(zu,S)⊆(zu,T):=by ext y hy;rw[x,((we v hi).mem_iff v hi y).1 hy,@DC];show((we HT hi).mem_iff HT hi y).2 (ab k (hk.mono h) e)
def ajY[Č][e](h:g∈@aL):g∈gm @pU i:=(yu,Au _ h.1,h.2)
def eI.append{n S z}[v](hz:@tI):eI n @pU:=by
 ext g hg;rcases bX.1 hg with h|h;.show v g h
 rw[þ,h,hz]
def axI[v](h:@acr):@Eh/\@MV<O3 n @pU:=by
 calc aZL (axE h) (λi hi x hx g hg=>Fa λe aQ=>?_);rw[aZ];let c:@agw:=(sC,@NY);let b:(Ġ,@cy):=c.mono @Py;let hs:=axF v n 0 @e @cy (b.isHand v) @Iw b (kn,pj,e,aQ);rw[pj,<-e]at hs;clear hs;calc UK λj _ hj hz d hw=>?_;let f:=hz.isHand v;let HT:=v.append f;rw[Ì,hz];refine axG (j:=j);.ext k hk;let hk:=kt.1 hk;let O:=we @PA hk;let:=O.nodup.length_le_of_subset (ajX @PA (HT.lev k) hk @aiB);simpa using this
 .show kt.2 hj
 .let O:=we @Pz hj;let D:=we @uL hj;let dJ:(@afC::@ahc).Nodup:=by rw[pd];rw[æ,O.nodup];ext hm;rw[À,hm,λw a o0=>?_];show hw w a o0
  rw[Ķ,@afC::@ahc,(L0,gm @pU j),by ext y hy;rcases eJ.1 hy with rfl|hy;rw[ý,(D.mem_iff @uL hj _).2 (ab z (Gen.mem @uL ?_) @d),AM,{@A,d}];.show ajX @Pz @uL hj @aiB hy];let:=@k5;simp at this;omega
def axJ:∀(f:Nat)(S:@È),@æ->@fX<@MV+f->(FQ,@KW,@KW,@KW):=by
 ext z_;cases z_ with
 |zero=>ext S v hf;let:=axH v;omega
 |succ f M=>
  ext S v hf;simp only[yR];cases e:NW n S with
  |none=>show aM v (axD e) (λh=>Go)
  |some z=>
   let{j,d}:=axI v e;let HT:=v.append (j.isHand v);rw[ļ,M @pU HT @e];apply aM a b (λh=>(c h).trans @hY)
   .ext hg;refine hg.trans v;ext g hg;rcases bX.1 hg with h|h;.show(sG,h)
    rw[þ,h,j]
   .ext hg;show(qJ,Au _ hg)
def ajZ[bj][v]:(FQ,@h7,@h7,@h7):=by refine axJ _ _ v;let:@fX<=8*(2*8):=JZ hn (JZ @Â hn);delta Ed;omega
def axK[cN][J]:@am'=@Õ↔@ų:=by
 let O:∀{g},@aoP:=by ext g;rw[AM];simp[iq]
 constructor;.ext hs;let:=OZ v n 0 @e h H @Iw @Ix;show(wE,O.1 hg)
 .ext hg;let:=ajW v F n 0 @e h (qJ,O.2 hg);simpa using this
def  wg[Ú]:@XG|0=>[@Õ]|k+1=>(mO n @a_ @YM).flatMap @Be
def aj0{n a b c}[b?](hc:@I!)(e:@aw=@ZZ):b=c:=by rw[n1,@ZZ];rwa[(@afI),mm ha.len hc,xF ha,lw,lw]at this
def axL[cN]:(m5,(wg n S k).Nodup/\(f6,wg n S k,(de,gm S @ř))):=by
 ext z_;cases z_ with
 |zero=>
  ext _;rw[Á,by simp[wg],@ķ];simp only[wg,dt,J0];constructor;.rintro rfl;show@d1
  .ext hg;show(Bg,hg.isHand (v.lev n))
 |succ k M=>
  ext hk;let{e,c}:=@gm;have i:=@a_;rw[a',by exact@a_<n;omega(config:={}),<-É,@ř,@Q,by exact@ř=@vJ;omega,<-aZ];rw[e1]at c;let up:∀{h},@aa1->@pR:=(sH,@aiD);let img:∀{x h},x∈@iR->@aa1->cK @fV @Ý=x.1:=by ext x h hx hh;rw[(fp,(hh.isHand @awz).len),qm,(h4,@aiE)];show@aiA
  exact((mO n i @aL).flatMap @Be).Nodup/\(f6,(mO n i @aL).flatMap @Be,@pR);constructor
  .rw[qT,avK];constructor;.ext x hx;rw[Av];calc@aeg;ext a b ha hb d he;show d (aj0 ((O.good x hx).1.isHand @aM) (wF,a,ha) (wF,b,hb) he)
   .let hn:=O.nodup;rw[qT,Av]at hn;calc@aeh;ext x y hx hy f a ha b hb he;rw[À,ha,λJ pY bu=>?_];subst bu;rw[À,hb,λG ip bH=>?_];subst bH;refine f;rw[or]
  .ext h;rw[lI];constructor;.rw[E,@PQ,<-À,hm,λa ha cb=>?_];subst cb;show Gen.comp @aM @NY (up @aiM)
   .ext hg;let H:=@Po;let hf:=hg.fixes v @e;let{x,ex}:=(vc,hg);calc r8 @FE @PM;calc ab x @PN (a6,@cK,?_,s4.symm);rw[c];let:=ajW v F @Ř i @e h hg;rw[(@k4),(@oM)]at this;show OZ v @nZ @Q @e _ s1 s2 this
def aj1(l:@ĕ):∀m,l.foldl @E8 m=m*l.foldr @NZ 1:=by cases l with|nil=>ext m;simp|cons a l ih=>ext m;simp only[BX,avL,ih];rw[NX]
def axM[ū]:∀k,@Ŋ->(wg n S k).length=((mh n S).drop @ř).foldr @NZ 1:=by ext z_;cases z_ with|zero=>rw[Ę,by simp[wg,OW]]|succ k M=>ext hk;rw[Ce @aeF,avL,(Þ,@vJ,@ř),<-(@gm)];simp only[wg,aiw,aw];generalize mO n @a_ @YM=R;rw[lZ]
def axN[bj][v]{Lq:@È}(hd:Lq.Nodup)(hL:(f6,Lq,@ų)):(A6,Lq.length):=by
 rw[ļ,ajZ hn v];let{e1,e2}:=axL a b n @Â;let b_:=axM (n:=n) @h7 n @Â;let O:∀{S:@È}{g},@aoP:=by ext S g;rw[AM];simp[iq]
 let heq:(f6,wg n @h7 n,h∈Lq):=by ext h;rw[e2,hL,<-c h,J1];show{(sH,O.1 hg),(sH,O.2 hg)}
 let hp:(wg n @h7 n).Perm Lq:=(avN e1 hd).2 heq;delta avM;rw[aj1,aix,<-hp.length_eq,b_,J1,pj]
def UL[Ĉ][F]:@Ů=(d4,@vU):=by
 refine xC;.simp[eg,same,eM];simp[*]
 .ext i hi;rw[ď,by simp[eg,same,eM]at hi;simp_all];rw[(@oI),iF (by simpa using g)];simp only[eg,same,jY,rR];rw[avO];split;.next h=>simp at h;simp only[avP,jY,rR];rw[(@gh),Ar]
  .next h=>simp at h;simp only[avQ,jY,rR,jC,aw,nI];rw[ę,i+k,(i-@ř)+n];rw[e,Aw,(@gh)]
def aj2[İ](hk:@Ŋ)[G]:(((same n).take k).reverse.map λx=>(x.1,b))++@ayM=@av0++@th:=by
 congr 1
 .refine xn;.simp[same];simp[*]
  .ext i h1 h2;simp[same]at h1 h2⊢;simp[*]
 .refine xn;.simp[same]
  .ext i h1 h2;simp[same]at h1 h2⊢
def UM[Ĉ]:@wp=(Ī,k,(@fH,@o))++@th:=aj2 n k hk @o
def aj3[Ĉ]:@xS=(Ī,k,(bP,@fH))++@th:=by
 rw[<-aj2 n k hk @Å];delta Gp;congr 1;let:∀x∈((same n).take k).reverse,((bP,x.1):@Ü)=x:=by ext x hx;let:=@Md;simp[same]at this;clear this;rw[E,λa _ aW=>?_];subst aW;rfl
 rw[jO this];simp
def aj4[c]:@go=(d4,@wX):=by simp[Ax,same]
def axO[o]:(o,aD @auZ)=@ú%2:=by
 delta aD;rcases Ea i with h|h;.simp[h];omega
 .simp[h];omega
def axP[J]:∀(f m:Nat),m<2^f->powBy h f m=(î,m):=by
 ext z_;cases z_ with
 |zero=>
  ext m hm;let:m=0:=by simpa using hm
  subst this;simp only[powBy,power,H.len]
 |succ f M=>
  ext m hm;delta powBy;rw[bA,m];.subst h0;simp only[ku,power,H.len]
  .rw[ag h0];let ih:=M (m/2) (by rw[Gq]at hm;omega);simp only[ih];rw[É,(î,1),h,xE H.len];by_cases h1:m%2=1;.rw[(@cT),<-Hj H];let:aY @amD h=(cs,@amD,1):=(ø,e1);rw[this,<-Hj H];congr 1;omega
   .rw[(@Ĺ),<-Hj H];congr 1;omega
def O4[J][ı](hm:@ab_):@MW=(î,m):=axP H 64 m (oB hm @Ó)
def tK{β:@è}[Ŭ][ī][cX]:(Kn,@Q)=@MX++[f x]:=(hV,J2,hx)
def axQ{h g:az}(H:@à)(hl:@vQ)(hg:∀j,j<n->@afB=(j,@iG)):g=@gl:=by refine xC (Ô,hl,Ky,H.len);ext i hi;rw[cv,show i<n by rw[<-hl];show hi];subst e;rw[hg j hj,(@xt)]
def axR[Č]{j i:Nat}[C](hj:j<@bh):(Ħ,g.set j x)=(P,j,i,x,(Ħ,g)):=by
 delta at_;rw[eY,eY,aiz];rw[aC];.subst e;simp[hj]
 .simp[e]
def  walk[ĭ]:@XH|0=>x|t+1=>cK h (fD,x)
def O5[ĭ](a b:Nat):(lH,@gd)=@ara:=by cases b with|zero=>rfl|succ b ih=>exact cK h (lH,@gd)=cK h @ara;rw[ih]
def axS[ĭ][G]:cK h @AI=(@aia,(cK h x).2 !=b):=by simp[Cc,avH]
def axT[ĭ][G][Ĳ]:(fD,@AI)=(@Mt,(me,x,t)!=b):=by cases t with|zero=>rfl|succ t ih=>exact cK h (fD,@AI)=_;rw[ih,axS];rfl
def aj5[ĭ][Ĳ]:(lH,@f5)=(fD,@Zj):=(Ê,Ar,O5)
def axU[c2]:∀(f c j:Nat)(u:Bool),1<=c->c<=f->(eA,@qc,c)=i->(r4,t<c,(eA,@qc,t)≠i)->avR h i f j u=(c,(me,@qc,c)):=by
 ext z_;cases z_ with
 |zero=>ext c _ _ h1 h2 _ _;show@e
 |succ f M=>
  ext c j u h1 h2 h3 h4;delta avR;rw[É,cK h @qc,(@bU,u !=@iG),by rw[Cc];induction u<;>cases(at_ h j).2<;>rfl];by_cases hc:c=1;.subst hc;let:@bU=i:=(kW,h3);simp only[this,ku];exact _=(1,(cK h @qc).2);rw[e1]
  .obtain⟨d,rfl⟩:∃d,c=d+1:={c-1,@C};rw[Ļ,@bU,i,h4 1 @C @e];simp only[ag aQ];rw[aj5,e1]at h3⊢;let ih:=M d @bU (u !=@iG) @e @Ä h3 (λt D U=>by let:=h4 @f5 @C @C;rwa[aj5,e1]at this);rw[ih]
def KC[J][C](hx:@hH):∀t,@Mt<n:=by ext z_;cases z_ with|zero=>show hx|succ t M=>show H.lt' M
def axV[J]{x y:@Ü}(hx:@hH)(hy:y.1<n):∀t,@Mt=(eA,y,t)->x.1=y.1:=by ext z_;cases z_ with|zero=>ext e;show e|succ t M=>ext e;show M (H.inj _ _ (uJ,hx) (uJ,hy) e)
def axW[J][V]:@ats:=by
 let hex:(Lk,@t3=i):=by
  rw[iA];let db:∀c,1<=c->@jl->@t3≠i:=λc h1 h2 h3=>db (bC c h1 h2 h3);let hd:((bP @pg).map @PW).Nodup:=by rw[Ž];ext a b ha hb d;simp only[aw,nI]at ha hb;simp only[jY,rR];ext e;rw[È,(m8,b),walk h (m8,b-a) a,(An,O5),<-aD];show db (b-a) @e @e (axV H hi (KC H hi _) a e).symm
  let hs:((bP @pg).map @PW)⊆@uH:=by ext x hx;rw[ň,λt _ aW=>?_];subst aW;show kt.2 (uJ,hi)
  rw[jd];simp at this;omega
 let key:∀m c,c<=m->1<=c->@jl->@t3=i->@ats:=by
  ext m;cases m with
  |zero=>ext c h1 h2;simp_all
  |succ m ih=>
   ext c h1 h2 h3 h4;by_cases hm:∃t,1<=t/\t<c/\@s8=i;.clear hm;rw[Ë,λt a b e=>?_];show ih t @e a @e e
   .show eR c h2 h3 h4 (λt a b e=>hm (bC t a b e))
 clear hex;rw[Ë,@PV];show key c c @Â h1 h2 h3
def aj6[J][V]:1<=@ů/\@ů<=2*n/\(m8,@ů)=@Ý/\(r4,t<@ů,@acF≠@Ý):=by
 calc O6 (axW H hi) (λc h1 h2 h3 h4=>?_);let e:avR h i @ħ i @Å=(c,(me,@Ý,c)):=axU h i @ħ c i @Å h1 (Œ,h2) h3 h4;delta lJ;rw[e];dsimp only;cases hb:(walk h (i,false) c).2 with
 |false=>rw[b7];apply bU h1 @e @aiO (λt a b q=>h4 t a b @oo)
 |true=>
  rw[Ų];let hc:(m8,c)=(i,@o):=@aiO;let O:∀t,(fD,@pV)=(@s8,(me,@Ý,t)!=@o):=λt=>axT h @Ý @o t;calc bU @e @e ?_ (λt a b q=>?_);.rw[(Þ,2*c,c+c),O5,hc,O,hc];rfl
  .rcases Eb t c with bK|heq|N;.show h4 t a bK @oo
   .subst heq;rw[hc]at q;cases q
   .rw[È,@acF,walk h @pV (t-c),by rw[<-hc,<-O5];congr 1;omega];rw[e2,O]at q;show h4 (t-c) @e @e (dS avS q)
def axX(m k:Nat):m/NY m k*k=J3 m k:=Nat.div_mul_right_comm (Nat.gcd_dvd_left m k) k
def aj7[č][G]:(V,(c.turned b).up,-@PY,@PY)=(V,b,-@AM,@AM):=by rw[bC];induction u<;>induction b<;>simp[NZ]
def axY[ş]:(H,cg r,(V,@wy,-@abO,@abO)):=by delta cg;rw[bB,(@bH),eY,(@bH)];rfl
def axZ[c2]:(Ki,@Q)=J3 @E5 @ů:=(Ê,uF,Gr)
def O7[t][DecidableEq α]:∀{a l:@ß},a.Nodup->a⊆l->(l7,@b3)->a.Perm l
 |[],l,_,_,h=>by rw[ab,l,@Ÿ];subst this;show@á
 |x::a,l,hd,hs,hl=>by
  let hx:@ps:=hs @A;let U:=pd.1 hd;let h1:a⊆l.erase x:=by ext y hy;let S:y∈l:=hs @axw;rw[Ļ,y,x,λe=>U.1 (e▸hy)];show(List.mem_erase_of_ne aQ).2 S
  let h2:=O7 U.2 h1 (by rw[List.length_erase_of_mem hx];simp at hl;simp[*]);show(h2.cons x).trans (aWM hx).symm
def  bQ[c]:@h:=(cj,λx_=>x_+1)
def Cf[c]:(bQ n).Nodup:=by delta bQ;rw[Ž];ext i j hi hj E;simp;omega
def kN{x:Nat}:x∈@ô↔@Fu:=by
 delta bQ;simp only[bE,kt];constructor;.rw[E,λa h aW=>?_];subst aW;omega
 .rintro⟨h1,h2⟩;show{x-1,@e,@C}
def iR[c]:(bQ n).length=n:=by simp[bQ]
structure aJ[c][x]:@v where
 len:@Š
 nos:(r.map ic).Perm @ô
def  pB[î]:@Ù:=(bP @Ã).all λi=>(l.map avT).contains @Q
def aj8[î]:(aN,pB l,(l.map avT).Perm (bQ @Ã)):=by
 delta pB;constructor;.ext h;calc(O7 (Cf _) ?_ (by simp[iR])).symm;ext x hx;rw[kN]at hx;let:=j_.1 h (x-1) (kt.2 @e);rw[(Ā,x-1+1,x)]at this;show iW.1 this
 .ext h;rw[j_];ext i hi;rw[iW];show h.mem_iff.2 (wG,(Ŀ,@gn))
def  gC[î]:Row:=(kQ,{z.natAbs,(Ó,z,0)})
def UN[î]:rowOf l=(Š,1<=@Ã/\@Ã<=52/\pB l=@o,@F3):=@d
def aj9[î]:cg @F3=l:=by
 delta cg gC;rw[b6];conv=>rhs;rw[<-uC l]
 rw[Î];ext z _;simp only[Gs,id,cG,Int.ofNat_eq_natCast];split<;>omega
def UO{l:@À}(h:pB l=@o):aJ @Ã @F3:=by rw[Ì,by simp[gC]];let:=(aj8 l).1 h;delta gC;rw[b6];show this
def aJ.nodup[z]:(r.map ic).Nodup:=H.nos.nodup_iff.2 @Ce
def ax0{a b:@À}(hp:a.Perm b)(ha:a.Pairwise @iU)(hb:b.Pairwise @iU):a=b:=hp.eq_of_pairwise @aiS ha hb
def ax1{l ns:@À}(hp:ns.Perm @acU)(hs:ns.Pairwise @iU):(E,ns,@aoQ)=pB l:=by
 rw[É,@aoQ,(bQ @Ã).map dU,by delta bQ;rw[b6];rw[Î];ext i _;simp;omega,<-È,@acU,(l.map avT).map dU,by rw[b6];rw[Î];ext z _;simp only[Gs];split<;>simp<;>omega];let a:((bP @Ã).map λ(i:Nat)=>@cJ+i).Pairwise @iU:=by rw[rQ];ext i j hi hj E;simp;omega
 rw[Ô];rw[cG,aj8];constructor
 .ext e;rw[e,e1,e2]at hp;let:=hp.map qU;rw[fN];let f:(qU∘dU)=id:=by funext x;rfl
  rw[f,uC,uC]at this;show this.symm
 .ext h;calc ax0 (hp.trans ?_) hs a;rw[e1,e2];show h.map _
def O8[z][aT]:(cK,@dn)=j:=by delta placeOf;rw[aWK hj];calc{@A,@FQ};calc jA.2 @Ź;let F:=eq_of_beq e;let hn:=H.nodup;rw[lQ];show hn k j @e hj hk F
def Hq[z][aT]:eQ r @dn=@kl:=by delta eQ;rw[(@MY),eY,(@kr)];rfl
def aj_[z][aT]:b5 r @dn=j+aD @kl:=by delta b5;rw[(@MY),Hq H hj]
def aJ.has[z](h1:1<=c)(h2:@jl):∃j,∃hj:@fM,@dn=c:=by let:=H.nos.mem_iff.2 @P3;rw[aN,this,<-gK];show⟨j,hj,e⟩
def aJ.no_bounds[z][aT]:1<=@dn/\@dn<=n:=kN.1 (H.nos.mem_iff.1 (bE.2 {_,xo hj,@d}))
def UP[z](g:@Ù->Nat):((bQ n).map @P5).Perm @afP:=by
 let h1:=(H.nos.map @P5).symm;calc@P7;rw[b6];let:(r.map (z9,@awC))=@afP:=by rw[Î];ext c hc;let{j,hj,rfl}:=oC hc;simp only[Gs,Hq H hj]
 rw[Ã]
def uS[z]:aWO r=@ô:=by delta aWO bQ;rw[Œ]
def aka(f g:@vW):(aT,(l.map λx=>(f x+g x)%2).sum%2=(@FY+@FX)%2):=by ext z_;cases z_ with|nil=>rw[Ø]|cons x l M=>let ih:=M;simp only[cT,jB];show zpc ih
def O9(p:@Ė):(aT,(l.filter p).length=(l.map (au,p x)).sum):=by ext z_;cases z_ with|nil=>rw[Ø]|cons x l M=>let ih:=M;rw[a5,ih];cases p x<;>simp[aD];omega
def O_[bk]:aD (a !=b)=(aD a+@ĸ)%2:=@WE
def ax2[c_][E]:(unlike r q).length%2=(@bE+@k7)%2:=by
 delta unlike;rw[(@bW),O9];let e:(li,(au,@Kj !=@LG))=(li,λx=>(aD @Kj+aD @LG)%2):=by rw[Î];ext x _;show O_ _ _
 rw[e,aka (au,@Kj) (au,@LG),(sI,H),(sI,J)]
def tL[c_][E](hn:@iE):fK r q=(E,@oj,@k7%2):=by delta fK;rw[H.len,ag @C];let:=ax2 H J;rw[Ã,<-Ô];rw[gy,cG];show zpa
def  jf(r q:Row):@h:=(wH,@F5)
def akb{n r q}[de]:fK r q=(jf r q).all @adt:=by
 delta fK;rw[cw];delta tj jf;rw[(@bW),H.len];rw[l0,<-m_,(Ī,m,i+2),<-Ô];rw[pk,j_,j_,j_];let hd:(EM,((bQ @ü).map @F5).headD 0):=@h0;let h1:@II∈@DD:=(wG,@C);rw[hd];constructor
 .rintro(h|h)d U;.rw[À,U,@P_];subst aW;let a:=h x hx;let b:=h 1 h1;simp only[gy]at a b;show@aoS
  .rw[À,U,@h'];subst bf;let a:=h x hx;let b:=h 1 h1;simp only[gy]at a b;show@aoS
 .ext h;let hh:∀x∈@DD,(EM,(Ő,x,b5 q x)):=λx hx=>cF (h _ @xE);rcases Ea (b5 r 1+b5 q 1)with h2|h2;.left;ext x hx;rw[gy,hh x hx,h2]
  .right;ext x hx;rw[gy,hh x hx,h2]
def ax3[z]{g:@À}(hl:@vQ)(hg:(Ko,@arr)):g=@ads:=by
 refine TH;ext i;by_cases hi:i<n;.let{j,hj,e}:=H.has (c:=@Q) @C @e;let:=hg j hj;rw[e,(Ā,@Q-1,i)]at this;rw[ê,bB];let hu:@al1:=(zL,Ay hi);rw[hu,J4,<-e,aj_ H hj];simp
 .rw[qg @Ä,qg (by simp[iR];simp_all)]
def Pa(h:@eo):@ı=2^@Û:=by delta fY;rw[ag h]
def KD(h:@Ċ):@ı=2:=by delta fY;rw[aj h]
def akc(h:@ï):@ı<@dA:=(Gn,KD e,Pa e,Nat.pow_lt_pow_right @Ó @cL)
def  AN[ï][o]:Nat:=@aiV
def  wj[ï]:@vW|0=>0|i+1=>@ao'
def ax4[ï]:∀i,i<=@Ã->Az l=@oy*fk @kb+Az @P':=by ext z_;cases z_ with|zero=>rw[Ę,by simp[wj]]|succ i M=>ext hi;rw[(@gm)];let e:@P'=@nH::@oR:=(Ç,eY,@uF,yO @e);rw[e];rw[È,Az (@nH::@oR),@E9*fk @kh+Az @oR,(yI,@aiV*fk (l.drop @Q).length+Az @oR,jC)];rw[e2,(@aoA)];exact@oy*(@W4*fk @kh)+_=@ao'*fk @kh+_;rw[(@aoA),Ec (@oy*@W4) @E9,NX @oy,qf]
def ax5[ï]:Az l=wj l @Ã:=by rw[ax4 l @Ã @Â,J1,avU];simp[fk,Az]
def ax6[í]:@acI=@xo*@Q:=(lD,@ı*(@Q*fk i),NX,B0 @Q)
def  cd[x][o]:dX:=@Ky
def lP[ş]:@wz=r[i]:=by delta cd;rw[eY,(@bH)];rfl
def qZ[ş]:(H,r,@wz):=(d,lP hi,@bH)
def pC[x][o]:(hE,(iE r i).length):=by simp[iE]
def uT[H]{i m:Nat}[bl](hm:(b',m)):@aby=(ax,@cB,m,@abu,i,m,(g3,@cB),@dQ):=by
 rw[cr];delta cd iE;simp only[eY,aiz,B1];rw[eN];.simp[h1,hm]
 .by_cases h2:i=m;.subst h2;simp[h1,hi]
  .simp[h1,h2]
def ax7[ş]:((iE r i).map ic).Perm @oK:=by
 rw[cr];let e:(iE r i).map ic=(((r.map ic).set i ((@oK)[@cB]'@pc)).set @cB ((@oK)[i]'@hz)):=by let a:=lP hi;let b:=lP hj;delta cd at a b;delta iE;dsimp only;rw[yS,yS,a,b];simp[NZ]
 rw[e];show List.set_set_perm _ _
def qo[z][V]:aJ n @dt:={(fV,pC),(ax7 @n2).trans @mc}
def zm{n}:(Bo,aJ n @JD):=by ext z_;cases z_ with|nil=>ext _ H _;show H|cons i l M=>ext _ H h;show M (qo H @aak) @qU
def Cg[x](a b:@h):cQ r @b2=cQ (cQ r a) b:=by simp[cQ]
def Ch[z][Ĩ](e:@lI=no):@Ŭ=j:=by let g:@fM:=@lu;rw[lP g]at e;rw[Ć];show O8 H g
def place_lt[z][ģ]:@Ŭ<n/\(c_,@Ŭ)=no:=by let{j,hj,e}:=H.has h1 h2;let g:j<n:=@abo;let:@Ŭ=j:=Ch H g @anL;rw[Ã];show{g,@anL}
def r9[z][Ĩ]:1<=@lI/\@lI<=n:=by let g:@fM:=@lu;rw[lP g];show H.no_bounds g
def akd[z][Þ][Ó][bm](e:(c_,i)=@lI):i=j:=by let a:=Ch H hi @d;let b:=Ch H hj @d;rw[e]at a;simp_all
def Pb(q p:Nat):(fZ q p).length=q-p:=by simp[fZ]
def ax8[eA]:(cu,@aac,@K9):=by delta fZ;rw[Gu @hW];simp only[aw,nI];rw[bB,(@F7)];simp;show zpn @bZ
def Pd{q p i:Nat}(h:i∈@aac):p<=i/\i<q:=by delta fZ at h;simp at h;clear h;rw[E,@Qa];subst aW;omega
def UQ[eA]:(fZ q p).take @û=(gP,q,p)++[@K9]:=(Ê,J2,ax8 hk)
def ax9[z]{s p:Nat}(hs:s<n)(hp:p<=s):∀k,k<=s-p->(cQ r (gP,s,p)).length=n/\(cd @zM (s-k)).no=(c_,s)/\∀m,m<s-k->cd @zM m=@dQ:=by
 ext z_;cases z_ with
 |zero=>rw[Ę,(Ũ,H.len,λm hm=>@d)]
 |succ k M=>
  ext hk;calc f7 @gm (λhl h1 h2=>?_);rw[UQ @e,Cg];rw[js,s=d+k+1,s-@û];let s1:s-1-k=d:=(uy,tp);let s2:s-k=d+1:=(uy,NU);let s3:s-@û=d:=(uy,qf);rw[s1,s3];rw[s2]at h1 h2;generalize@zM=r' at hl h1 h2;rw[nq];rw[et];let f:d+1<n:=@e;let dl:d<r'.length:=(Ú,hl);rw[jm,(tv,iN f)];calc(Ø,(u,pC,hl),?_);.rw[uT dl dl,b,ag (aWP d),(@Þ),<-h1];rfl
  .ext m hm;rw[uT dl (TJ hm dl),b,ag (Gv @Qb),ag (Gv hm)];show h2 m @Qb
def UR{n}[E]:∀(k p:Nat){r:Row},@T->p+k=n->(∀m,m<p->@tX=@B_)->(A!,@arI,@arI):=by
 ext z_;cases z_ with
 |zero=>ext p r H hk he;let U:@lm:=@vE;rw[yP @Ä];show{by simp[gk],λm hm=>he m @Ä}
 |succ k M=>
  ext p r H hk he;let U:@lm:=@vE;let hp:p<n:=@e;let g:(kR,p)=(cR,p)::(kR,@ģ):=by rw[yO @C,lP (ż,J.len)];simp[b7]
  rw[Ū,hp];let{hs,nr}:=(qy,H);let Br:p<=@jZ:=by calc aiu @F9;let e1:=he _ bK;rw[nr]at e1;let:=akd J hp @e e1;omega
  let W:(hH,fZ @jZ p):=@aib;let H2:=zm _ H W;calc f7 (ax9 H hs Br @ZS @Â) (λnu d1 d2=>?_);rw[Eg (Ú,Pb)]at nu d1 d2;rw[(Þ,@jZ-@ZS,p)]at d1 d2;let ih:=M @ģ H2 @e (by
   ext m hm;by_cases Dq:m=p;.subst Dq;rw[d1,nr]
   rw[Â,d2 m @e,he m @e]);rw[g];exact(A!,@asL,@asL);rw[Á,@eF,(d,Cg,ih.2)];rcases bX.1 hi with h|h;.show W i h
  .show ih.1 i h
def pF[z][Ĩ]:b5 r @lI=j+aD (mf,j):=(d,lP @lu,aj_ H _)
def zn[z][Ĩ]:eQ r @lI=(mf,j):=(d,lP @lu,Hq H _)
def ake[G]:aD (b !=@o)=1-@ĸ:=by induction b<;>rfl
def Pe[G]:@ĸ<=1:=@vF
def Pf{t k p:Nat}(e:t+k=p+n)(h:@Ċ):(t+b)%2=(p+b+k)%2:=@e
def akf{x m:Nat}(h:@amN):(x+1)%2=m%2:=by rw[<-yN x 2 1,h,yN];show Aw m 2
def ax_{x m:Nat}(h:@amN)(hb:b<=1):(x+(1-b))%2=(m+b)%2:=(FR,akf h,h)
def aya{i m:Nat}(h:m%2=@Q%2)(hb:b<=1):(i+(1-b))%2=(m+b)%2:=(FR,@mb,(akf h).symm)
def US[z][ð][V][ģ]:(ő,@dt)%2=@eh%2:=by
 let H2:=@pQ;rw[gn,<-gL];subst e;rw[pF H hm];let FE:=H.len;rw[h0];let E:i≠@ds:=by rcases ft (i+1) n with q|q;rw[aO,iN q];.let:@Q=n:=@e;rw[ê,yT];omega
 let f:@ds%2=@Q%2:=by
  rcases ft (i+1) n with q|q;.rw[iN q]
  .let:@Q=n:=@e;rw[ê,yT];simp[*]
 let hb:=Pe @fW;by_cases qG:m=i;.subst qG;rw[È,cd (iE r m) (@ü%n),@p',(Ô,@MZ,FE,@Þ),<-os,<-fR,hj];rw[e2,e3]at e4;rw[e4];rw[j',@ü%n];rw[ake];show ax_ f hb
 .by_cases O:m=@ds;.rw[È,cd @dt i,@p',by rw[(@MZ),FE,(@aci),(@Þ),<-O],<-fR,hi];rw[e2]at e4;rw[os];rw[e3]at e4;rw[e4];rw[j',i];rw[ake];show aya (d,O,f) hb
  .rw[È,@aby,@dQ,by rw[(@MZ),FE,(fq,O @md),(fq,qG @md)],<-fR,hm];rw[e2]at e4;rw[e4]
def akg{n}[ð]:(Bo,∀{no:Nat},@bL->@bK->(ő,@JD)%2=@eh%2):=by ext z_;cases z_ with|nil=>ext _ _ _ _ _ _;show@d|cons i l M=>ext r H h no h1 h2;let hi:=@aak;exact(ő,cQ @dt l)%2=_;rw[M @pQ @qU h1 h2,US H hn hi h1 h2]
def Pg[č]:c.turned @Å=c:=by let{a,b}:=c;simp[NZ]
def akh[Ī]:(å,@Õ)=r:=by delta done same;rw[b6];rw[ip];ext i h1 h2;simp[Pg,h2]
def aki[f][Ī]:@Jj=@uR++@uS:=by
 delta eg;let e:∀a b:az,(å,@b2)=(å,a)++(å,b):=λa b=>by delta done;rw[bF]
 rw[É,@X8,@uR,(FP,@X8,(done @Õ r).drop k,yU),<-È,@amo,@uS,(FP,@amo,(done @Õ r).take k,yV)];rw[e,e1,e2]
def Ph[ť]:aJ n @ann:=by let hp:(@uR++@uS).Perm r:=avV.trans (ø,Gw);show{(fV,hp.length_eq),(hp.map ic).trans @mc}
def ayb[Ī][ı](hm:m<n):cd @anm @ark=@dQ:=by
 delta cd;simp only[eY];congr 1;rw[bA,m];.rw[(@eQ),xp @wG,jC,aWR];subst h0;rw[(ſ,@Û-(r.length-1)=0)];simp
 .rw[(@cS),aiB @Jv,N0];congr 1;omega
def UT[ê][ģ]:(y',@anm):=by
 rw[gn,<-gL];subst e;rw[pF H hm];let H2:=Ph (k:=1) H;let ec:=ayb H.len hm;let e4:=pF H2 (j:=@ark) @WD;rw[ec]at e4;rw[e4];split;.next z=>show Pf (Ç,z,oE,Gj (dw h1 h2)) hn
 .next z=>show(EW,Nat.pos_of_ne_zero z)
def  cuts[c]:Nat->@h->@h|_,[]=>[]|t,i::l=>@t?::(lL,i)
def akj[c]:∀(l:@h)(t i:Nat),cuts n t @KZ=(lL,t)++[(i+n-l.getLastD t)%n]:=by ext z_;cases z_ with|nil=>ext t i;show@d|cons a l M=>ext t i;exact _::cuts n a @KZ=_::(lL,a)++[_];rw[M a i];induction l<;>rfl
def UU[c]:∀(l:@h)(t:Nat),(Bq,t)=@Ã:=by ext z_;cases z_ with|nil=>rw[ġ]|cons _ l M=>rw[Ę,(yI,(Bq,_)+1,M)]
def akk{o t z:Nat}(ht:t<n)(N:@alW):(o+z)%n=@acz:=by
 let{k,hk}:=Nat.dvd_of_mod_eq_zero N;rcases aiC k with q|q;.subst q;let:o=0/\t=0:=@Ä;rw[(@i1),(@q1),oE,J0,Aw]
 .obtain⟨k',rfl⟩:∃k',k=k'+1:=(aK,k-1);rw[È,o+z,(z+n-t)+n*k',by rw[aWS,aWT]at hk;omega];rw[e2,Nat.add_mul_mod_self_left]
def ayc:∀(l:@h)(o t z:Nat),t<n->@alW->@ku->aiD n o l z=cuts n t @ac3:=by ext z_;cases z_ with|nil=>ext o t z ht N _;exact[(o+z)%n]=[@acz];rw[(@ai0)]|cons i l M=>ext o t z ht N hl;rw[gi];exact((o+i)%n)::aiD n @Ř l z=@t?::cuts n i @ac3;rw[(@ai0),M @Ř i z hi (u,(cB,@Ř+i),yT) (λk hk=>hl k (by simp[hk]))]
def ayd{i t:Nat}(ht:t<n):@ah3%@ö=(o,@t?):=(Ô,B2,(fX,i+n-t,(@ú-t)+n),Int.add_emod_right)
def UV:∀(l:@h)(p:Nat)(r:Row),@Š->(gk l p r).length<=@Ã*n:=by
 ext z_;cases z_ with
 |nil=>ext _ _ _;show by simp[gk]
 |cons no l M=>
  ext p r h;rw[fY,@aad,@afm,<-l2];let hl:@aoT:=by ext l;cases l with|nil=>ext r;rfl|cons i l ih=>ext r;exact@aei=_;rw[ih,pC]
  let ih:=M @ģ (kq,@Ŭ) (u,hl,h);rw[eM,Pb,eE,Ec];omega
def Pj:@aoT:=by ext z_;cases z_ with|nil=>rw[ġ]|cons i l M=>ext r;show(lD,@aei,M,pC)
def akl:(wI,@Š->(oF d r).length<=d.length*n):=by
 ext z_;cases z_ with
 |nil=>ext _ _;show by simp[oF]
 |cons no d M=>
  ext r h;rw[fY,@kS,oF d @YW];let ih:=M @YW @LR;rw[eM,eE,Ec];let:(oG r no).length<=n:=by simp[oG,h]
  omega
def akm[K]:(wI,@Š->(hH,@M0)):=by
 ext z_;cases z_ with
 |nil=>ext _ _ i hi;show by simp[oF]at hi
 |cons no d M=>
  ext r h i hi;let hi:i∈@kS++oF d (cQ r @kS):=hi;rcases bX.1 hi with q|q;.simp[oG]at q;clear q;rw[E,λa _ bf=>?_];subst bf;rw[h];show@cW
  .show M _ @LR i q
def aye:∀(l:@h)(p:Nat)(r:Row)(no:Nat),gk (l++[no]) p r=@zD++(z_,@zD,@Ã):=by ext z_;cases z_ with|nil=>ext p r no;exact@aad++[]=[]++fZ @Ŭ (p+0);simp|cons a l M=>ext p r no;exact fZ @sU p++gk (l++[no]) @ģ (kq,@sU)=@ag4++(z_,@ag4,@oh);rw[M @ģ,Cg,gh,(Þ,@ģ+@Ã,p+@oh)]
def UW:∀(l:@h)(p:Nat){r:Row},@Š->(hH,@zD):=by
 ext z_;cases z_ with
 |nil=>ext _ _ _ i hi;show by simp[gk]at hi
 |cons no l M=>
  ext p r h i hi;let hi:i∈fZ @Ŭ p++@afm:=hi;rcases bX.1 hi with q|q;.let:=Pd q;rw[l2];omega
  .show M @ģ @LR i q
def ayf:∀(d:@h)(r:Row)(no:Nat),oF @aeC r=@M0++oG (cQ r @M0) no:=by ext z_;cases z_ with|nil=>ext r no;exact@kS++[]=[]++@kS;simp|cons a d M=>ext r no;exact(vS,@aeC)=@ahN++oG (cQ r @ahN) no;rw[M,Cg,gh]
def  wrong(r2 q:Row):@h:=(q.zipIdx.filter @afH).map @uI
def ayg(f:@Ė):∀(q:Row)(g:@Ė)(k:Nat),(∀x∈q.zipIdx k,f @mf=(@me !=g x.2))->((q.zipIdx k).filter λx=>@me !=g x.2).map @uI=(q.map ic).filter f:=by ext z_;cases z_ with|nil=>ext _ _ _;show@d|cons c q M=>ext g k h;rw[aB,(c,k)];let ih:=M g @û @ti;rw[avX,cT,mi,mi,<-ih];dsimp only at h1⊢;rw[h1];split<;>simp
def UX{x:dX×Nat}(hx:x∈q.zipIdx):x.2<@Ì/\cd q x.2=x.1:=by let{c,i}:=x;rw[avJ]at hx;let{h1,h2}:=@FU;show{h1,(d,lP h1,h2)}
def ayh{n r2 q}(H:@vL)[eH]:@xz=(r6,r2):=by delta wrong;let:=ayg (Kh,r2) q (λi=>@KN) 0 (by ext x hx;rw[jt,<-l4];let a:=zn J nv;let b:=zn H nv;rw[he _ nv,h2]at b;rw[h2]at a;rw[a,b];cases x.1.up<;>cases(cd r2 x.2).up<;>rfl);show this
def ayi{n r2 q}(H:@vL)[eH](hs:(zC,r2)):@xz=[]:=by delta wrong;rw[List.filter_eq_nil_iff.2,At];ext x hx;rw[jt,<-l4];let a:=pF J nv;let b:=pF H nv;let{c1,c2}:=r9 J nv;let c:=hs _ c1 c2;rw[he _ nv]at b;rw[a,b,h2]at c;ext z;rw[Ļ,@me,@ayN,TK.1 z];clear c aQ;cases x.1.up<;>cases(cd r2 x.2).up<;>simp[aD]<;>omega
def ayj{n r q}[de](hc:@av)(hm:@Xl):(mB,1):=by delta fK at hc;rw[H.len,(@dD),hm,avY]at hc;show hc
def Hr{n r q c}[Î](hm:(mB,c))[ģ]:@nI=c:=by delta tj at hm;rw[(@bW),j_]at hm;show eq_of_beq (hm no @P3)
def ayk[c_][Ħ](hc:@av):let c:=@adh;let G:=@ul;let t0:=@xL;let e:=@wJ;let r2:=@fQ;let g:=oF @xz r2;wayTo r q=cuts n t0 (@NV++[(zB,@NV)]):=by
 ext c G t0 e r2 g;let H1:@IK:=Ph H;let l:∀i∈e,i<n:=UW _ _ H1.len;let H2:@vL:=zm _ H1 l;let MA:=(UR J n 0 H1 @e @awE).2;rw[pj]at MA;let hw:@xz=(rY,(r6,r2)):=by
  rw[Ą]
  .rw[aj hn];calc ayi H2 J MA @F?;rw[akg hn e H1 l h1 h2];by_cases hm:@Xl;.let ec:c=1:=aj ⟨hn,hm⟩;let m1:=(sf,ayj H h0 hn hc hm);rw[i1];rw[ec,UT H hn h1 h2];omega
   .let ec:c=0:=(ģ,hm z.2);let m0:=(sf,@WC);rw[i1];rw[ec,pj,Gx,iO];omega
  rw[ą,hn,ayh H2 J MA]
 let FG:∀i∈g,i<n:=akm h0 _ _ H2.len;let ec:@rS=G:=aki H.len;delta wayTo;dsimp only;rw[Œ,<-mD,(ey,@rS)++oF @ahn @um,@um,oF @ahn @um];rw[ec,<-hw];rw[mD,@NV,r2,g];let hh:@ayO=@Em:=by let:0<@Ì:=(mD,h0);cases q with|nil=>simp at this|cons x q=>rfl
 rw[hh,<-Cg];let FH:t0<n:=by exact@xL<n;split<;>omega
 let a:(c+t0)%n=0:=by
  by_cases C:c=1;.rw[show t0=@Û from aj C,C,(cB,1+@Û),yT]
  .let y:c=0:=by
    exact@adh=0;split;.next hz=>rw[Ò,aj hz,C]
    .rfl
   rw[show t0=0 from ag C,y];show Nat.zero_mod n
 rw[ayc _ _ _ _ FH a];ext i hi;rcases bX.1 hi with h|h;.show l i h
 .show FG i h
def Pk[Ū][H](hb:@Qc):(å,@aw)=(kS,b,a):=by delta done;rw[OS,b6];rw[Î];ext x hx;let hl:=@ai4;simp only[Gs,Cc];rw[eY (l:=a.map _),bB,cJ hl,iF hl];simp only[J4,aWU];delta NZ;simp only[avH]
def  Hs[c][x]:@h->Row|[]=>r|k::l=>l.foldl (λr k=>(kS,@Ů,@ś)) @Jj
def lz[Ĉ][F]:cf n @Ů:=by
 rw[(@ai5)];rw[aX,@A];.ext i hi;rw[(@uG)];simp only[jY,rR];show@e1
 .ext i j hi hj e;rw[(@uG),iF @pc]at e;simp only[jY,rR]at e;let a:=aWV (i+k) n;let b:=aWV (j+k) n;let c1:@xc<2:=aiE @e;let c2:@xd<2:=aiE @e;let d1:@xc=0\/@xc=1:=by generalize@xc=x at c1;omega
  let d2:@xd=0\/@xd=1:=by generalize@xd=x at c2;omega
  rcases d1 with d1|d1<;>rcases d2 with d2|d2<;>rw[d1]at a<;>rw[d2]at b<;>omega
def akn[Ĉ][G]:cf n @NW:=by
 rw[ji,@NW,(l?,i<k,@fH),by
  ext i hi;rw[iF @iA,avO];split;.next h=>simp at h;simp[h]
  .next h=>simp at h;simp;rw[av];simp[*]];calc{@iA,@eF,@Qd};.rw[(@E_)];split<;>omega
 .rw[ju];split at e<;>split at e<;>first|show zpo @bZ @bZ e|show zpp @bZ @bZ e|show(zpp @bZ @bZ @bi).symm|show e
def tM[Ĉ]:cf n @wp:=(d,UM hk,akn hk @o)
def UY[Ĉ]:cf n @xS:=(d,aj3 hk,akn hk @Å)
def Pl[c]:cf n @go:=by rw[aj4];rw[ji,(d4,@wX),i,λi hi=>(Ė,@uG)];show{@A,λi hi=>(Į,@E_),λi j hi hj e=>by rw[ju];show e}
def qp[J]:@Qe:=by ext x hx;rw[eG];rw[<-iF hk];show@xQ
def Ht[ct]:(mc,@Ga->@Ad->cf n @axO)|[],_,_=>@bO|[k],h,_=>@agL|k::k'::l,h,h2=>by exact cf n @ahd;apply kM (kM @agL (tM @Gb)) (D2,@Gb)
def ako[ct]:(Ll,@Š->@dz->@Ga->@Ad->@X7=Hs n r l)|[],_,_,h,_,_=>@LD|[k],r,_,_,_,_=>rfl|k::k'::l,r,hr,_,h,h2=>by let hk:k<n:=@Ev;let kX:=@Gb;let d:=lz @hO hn;let HT:=tM (n:=n) kX;let a:=(D2,kX);exact(å,@ahd)=_;rw[on];let b_:(sL,@Jj)=n:=@aeP;rw[ako hn @C' _ b_ @A @ti (λ_=>kX)];rfl
def Pn[c]:yX n=(Nat.toDigits 10 n).map aWW:=by delta yX fu;rw[Nat.toString_eq_ofList_toDigits,a08]
def Po(h:d<10):yX d=[48+d]:=by rw[Pn,Nat.toDigits_of_lt_base h];let:∀d,d<10->(Nat.digitChar d).toNat=48+d:=@Ó;simp[this d h]
def akp[F](hd:d<10):yX (10*n+d)=yX n++[48+d]:=by rw[<-Po hd,Pn,Pn,Pn,<-Nat.toDigits_append_toDigits @Ó hn hd,bF]
def akq(s:@h)(d:Nat):yY (s++[d])=(l0,yY s):=by delta yY;rw[Gr];rfl
def ayl:(GN,48<=x,@anb,0<yY s):=by
 ext z_;cases z_ with
 |zero=>ext s hk aQ _ _;show absurd (rS.1 hk) aQ
 |succ k M=>
  ext s hk aQ h h0;rw[ou];rw[akq];rw[jv]
  .subst hs;rw[aB,d];let:@KL:=by simpa using h0
   omega
  rw[ā,(GO,(by cases s' with|nil=>rw[ö,hs]|cons a s'=>simpa using h0))]
def aym:(GN,48<=x/\x<58,@aB=1\/@anb,yX (yY s)=s):=by
 ext z_;cases z_ with
 |zero=>ext s hk aQ _ _;show absurd (rS.1 hk) aQ
 |succ k M=>
  ext s hk aQ h h0;rw[ou];let{d1,d2}:=h d @A;rw[akq];rw[jv];.subst hs;exact yX @ad5=[d];rw[Nat.mul_zero,oE,Po @e];congr 1;simp[*]
  .let hh:s'.getD 0 0≠48:=by
    cases s' with
    |nil=>rw[ö,hs]
    |cons a s'=>
     rcases h0 with z|z;.simp at z
     .simpa using z
   let hp:=ayl k s' @hW hs (λx hx=>(h x (by simp[hx])).1) hh;rw[akp hp @e,(GO,.inr hh)];congr 2;simp[*]
def  EG:Tok->As|.word w=>w|.num k=>yX k|.sign c=>[c]|.wrong=>[]
inductive WF[c]:(ú,tq)|nil:WF n @á|cut{k r}:(u2,.cut k r)|turn{k r}:(u2,.turn k r)|deal{k r}:(u2,.deal k r)|every{r}:@sX->WF n (.every r)|back{h r}:WF n h->@sX->WF n (.back h r)|times{m h r}:m<=TM->WF n h->@sX->WF n (.times m h r)
def WF.isHand[ct]:∀{w:tq},@ep->cf n @fk|_,.nil=>@bO|_,.cut hk hr=>(f',@aar)|_,.turn hk hr=>(f',tM hk)|_,.deal hk hr=>(f',UY hk)|_,.every hr=>(f',@Qg)|_,.back hh hr=>(f',qY (hh.isHand hn))|_,.times hm hh hr=>by let H:=hh.isHand hn;calc(f',?_);rw[O4 H hm];show v_ H _
def Pp{F:@amU}{go:gK->Got}{w:tq}{l2:gK}(h:@Bg=.ok (w,l2)):∃k p r w',l=(dn,@nO)/\@Ŋ/\go r=.ok (w',l2)/\w=F k w':=by
 delta TN at h;split at h
 .next k p r=>
   split at h
   .next hk=>
     split at h;.next x hx=>injection h with h;injection h with h1 h2;show(â,k,p,r,x.1,hk,{by rw[hx,<-h2],@mg})
     rw[ò]
   rw[ò]
 rw[ò]
def akr(n e:Nat):∀(f d:Nat)(l:gK)(w:tq)(l2:gK),(Dg,@L0,l=@eq/\qV w=@Qi):=by
 ext z_;cases z_ with
 |zero=>ext d l w l2 h;show by simp[xq]at h
 |succ f M=>
  ext d l w l2 h;let inner:∀(t:gK)(g:@aqS)(hg:∀a b,WF n a->WF n b->WF n @N2)(pre:List As)(hp:∀a b,qV @N2=pre++[40]::(qV a++[41]::qV b)),(Dg,(@atK:Got),t=@eq/\qV w=pre++@Qi):=by
   ext t g hg pre hp h;split at h
   .next p r=>
     split at h;rw[ò]
     .split at h;.cases h
      .next x hx=>
        split at h
        .next q s hs=>
          split at h;rw[ò]
          .next y hy=>
            injection h with h;injection h with h1 h2;calc q_ (M (d-1) r x.1 x.2 hx) @kz;calc q_ (M d s y.1 y.2 hy) (λw2 b b1 b2=>?_);rw[hs]at a1;subst h1;calc fH (hg _ _ w1 w2) ((@cD,p)::(a++(@fR,q)::b)) ?_ ?_;.rw[a1,b1,<-h2];simp
            .rw[hp,X,b2];simp[EG]
        rw[ò]
   rw[ò]
  delta xq at h;dsimp only at h;split at h;rw[nT]
  .next J p r=>
    split at h;.next hw=>calc(mg,λk p' r' w' aW hk=>Fa λi bf=>?_);subst aW;subst bf;calc q_ (M d _ _ _ i) @kz;show(o3,.cut hk w1,"cut")
    .split at h;.next hw=>calc(mg,λk p' r' w' bu hk=>Fa λi bH=>?_);subst bu;subst bH;calc q_ (M d _ _ _ i) @kz;show(o3,.turn hk w1,"turn")
     .split at h;.next hw=>calc(mg,λk p' r' w' cb hk=>Fa λi cB=>?_);subst cb;subst cB;calc q_ (M d _ _ _ i) @kz;show(o3,.deal hk w1,"deal")
      .split at h;.next hw=>split at h;rw[ò];.next x hx=>injection h with h;injection h with h1 h2;calc q_ (M d r x.1 x.2 hx) @kz;subst h1;show fH (.every w1) ((.word J,p)::a) (by rw[a1,<-h2];rfl) (Ld,"every",qV x.1)
       .split at h;.next hw=>rw[nS,.back,.back,fu "back",(KK,w1,a,(Ê,X,hw))]
        rw[ò]
  .next m p r=>
    split at h;.next hm=>rw[nS,@Qn,.times hm,yX m,fH w1 ((.num m,p)::a) (Q,a1) (Q,X)]
    rw[ò]
  rw[ò];.next c p r=>split at h;rw[ò,<-nT]
inductive UZ where|hand|amount[Ď]|bracket(tm:@c9)deriving DecidableEq
def  zo(n a k:Nat):az:=(iQ,a,@Ů,a,@wp,@xS)
def  AO(tm:@c9)[D]:az:=match tm with|none=>@gl|some m=>@MW
structure Mc where
 mv:az
 want:UZ
 outer:@ī
def  iS[c](m:Mc)(w:As):@Gd:=(P,w,fu "cut",(u8,0),(ax,w,fu "turn",(u8,1),w,fu "deal",(u8,2),(uI,"every",some (ĥ,aY m.mv @go,@i2),"back",(K0,@Qp))))
def  Pq(m:Mc):@Gd:=match m.outer with|[]=>none|o::r=>some (ĥ,(Mm,m.mv),r)
def  oO[c](m:Mc)[ñ]:@Gd:=match m.want,t with|.amount a,.num k=>(Š,@Ŋ,(ĥ,aY m.mv @kU,@i2))|.bracket tm,.sign c=>(Š,c=40/\m.outer.length<tu,(ĥ,@Õ,(m.mv,tm)::@i2))|.hand,.num k=>(Š,k<=TM,{m.mv,.bracket @CP,@i2})|.hand,.word w=>iS n m w|.hand,.sign c=>(n3,Pq m)|_,_=>none
def  jZ[c]:(eJ,Mc,gK,Mc)|m,[]=>@oL|m,x::l=>(EY,λm'=>jZ n m' l)
def KE[u]:∀{l1 l2:gK}{m m':Mc},@agQ->jZ n m @eq=jZ n m' l2|[],_,_,_,h=>@pm|x::l1,l2,m,m',h=>by exact(EY,_)=_;cases e:oO n m x.1 with|none=>rw[cf,jZ]|some m1=>rw[jZ,e]at h;show KE (l1:=l1) h
def EI{m m1:Mc}[ŭ](h:(ip,m,x.1,m1)):jZ n m @eL=jZ n m1 l:=(Ê,jZ,h)
def  qr(n e k:Nat)(m:Mc)[ď](q:Nat):@v:=(u!,l=l1++@kM/\@agQ/\(un,m')/\x.2=q/\(m'.want=@i3->x.1=@hu->@YD),@apa,e,(CK,@YD))
def qr.ahead{k k':Nat}{m m1:Mc}{l1:gK}{q:Nat}(hk:k<=k')(h:(Ż,m,l1,m1))(b:qr n e k' m1 l q):qr n e k m @Z6 q:=by
 rcases b with⟨l2,x,r,m',a1,X,M,I,a5⟩|⟨m',a1,X,M⟩;.show .inl (bO @eq x r m' @al_ (Ai,X) (aM M I (λz y=>oB hk (a5 z y))))
 rw[Ç,bC m' (Ai,a1) X (λz=>oB hk (M z))]
def  EJ(l2:gK):@v:=l2=[]\/∃c p r,l2=(dn,@oS)/\c≠40
def aks[f]{m:Mc}(hw:@q2≠@i3)(hn:(Bs,(un,m))):qr n e k m l @acW:=(Is,@aef,(Ũ,@apI,@aef))
def U1{a b c:az}(hb:@v1)(hc:@I!):aY @aw c=@amT:=(mm hb.len hc).symm
def U2{B:Nat}[F]{F:@amU}(hF:∀k w,du n (F k w)=aY @kU @fk){go:gK->Got}{mv:az}{outer:@ī}(i:∀(l:gK)(o:az),@Ã<B->@D9->(Hk,go l,l=@eq/\(Ż,(gt,o),l1,(gt,aY o @fk)),go l,(gt,o)))(M:(m5,cf n @kU))[ď](hl:(l7,B)):(DM,@Bg,(iL,a),@Bg,(iL,a)):=by
 constructor;.ext w l2 h;calc(mg,λk p r w' aW hk=>Fa λhg bf=>?_);subst aW;subst bf;rw[ca,(i r @aaH @I3 @aph).1 w' l2 hg];calc fH he ((@nO,p)::l1) (Q,e1) ?_;rw[EI (m1:=(j9,@kU)) @am9,e2,hF,(wJ,@aiC)]
 .ext q h;delta TN at h;split at h
  .next k p r=>
    split at h;.next hk=>split at h;rw[ò];.next q' U=>cases h;let b:=(i r @aaH @I3 @aph).2 q U;show(sM,[(@nO,p)],@Â,@am9,b)
    .next hk=>cases h;show(iO,(cp,@axA,hk),@FM)
  .next db=>cases h;calc@ai6;subst hx;let{t,p}:=x;cases t with|num k=>rw[ö,db k p r]|word w=>rfl|sign c=>rfl|wrong=>rfl
def U3[b5]:∀(f d:Nat)(l:gK)(mv:az)(outer:@ī),@KX->d+@q4=tu->mv.length=n->(Hk,@L0,(qw,l,@iC),@L0,@iC)
 |0,d,l,mv,outer,hf,hd,ik=>@Ä
 |f+1,d,l,mv,outer,hf,hd,ik=>by
  let A:=λ(d':Nat)(l':gK)(o:az)(v:List (az×Option Nat))(h1:l'.length<f)(h2:d'+v.length=tu)(h3:o.length=n)=>U3 (e:=e) hn f d' l' o v h1 h2 h3;let P:(Jv,@L1,@ep):=λw l2 h=>(akr n e @bJ d l w l2 h).1;let inner:∀(t:gK)(tm:@c9)(g:@aqS),@Ú<f->(∀a b,du n @N2=aY @adu (du n b))->(∀a,WF n a->cf n @adu)->let G:Got:=@atK;(os,t,@qn,@qn,t):=by
   ext t tm g ht hg M;dsimp only;split
   .next p r=>
     rw[cA,by simp at ht;omega];by_cases R:d=0;.rw[aj R];rw[Ŝ];cases h;show(iO,(cp,@agT,@Ä),@FM)
     .rw[ag R];let D:(ip,@qn,@cD,(vQ,@Õ)):=(df,@agT,(Ì,@e));let O:=A (d-1) r @Õ ((mv,tm)::@đ) ug @ŝ (rY n);split;rw[iq,(sM,[(@cD,p)],@A,D,@ai7)]
      .next x hx=>
        calc kO @apJ (λu N l1 e1 e2=>?_);rw[lw]at e2;let Bs:(Ż,@qn,@Dn,@ahM):=(hP,EI D);split
        .next p2 s hs=>
          let K:(ip,@ahM,@fR,@abs):=rfl;let C:(Ż,@qn,@AF,@abs):=(d,KE Bs,EI (l:=[]) K);let gc:@aB<f:=by rw[hs]at e1;rw[e1]at ug;simp at ug;omega
          let I2:=A d s (aY mv @aya) @đ gc hd (L7,_,u);let et:((dn,@cD):gK)=@AF++s:=(LH,hs);split;.next q U=>rw[d!,@sK];cases h;rw[et];show qr.ahead @Â C @ai8
          .next y hy=>
            rw[ib];injection h with h;injection h with h1 h2;calc kO @apK (λE F j f1 f2=>?_);subst h1 h2;calc fH F (@AF++j) ?_ ?_;.rw[et,f1];simp
            .rw[KE C,f2,hg,U1 (M _ u) (E.isHand hn)]
        .next s db=>rw[Ŝ];cases h;let et:((dn,@cD):gK)=@Dn++x.2:=@ZN;rw[et];calc qr.ahead (k':=@q4) @Â Bs ?_;rcases N with hz|⟨c,p3,r3,hz,hc⟩;rw[Â,hz,.inr (pg,λ_=>@A)];.rw[hz];calc(j0,r3,(Ũ,?_,λ_ _=>@A));rw[ã,(n3,_)];rw[ag];ext z;subst z;show db p3 r3 hz
   .next db=>rw[Ŝ];cases h;calc@ai6;subst hx;let{tk,p}:=x;cases tk with|sign c=>rw[Ũ,c,@ayG];rw[ag];ext z;show db p r (ø,z.1)|num k=>rfl|word w=>rfl|wrong=>rfl
  let key:(DM,@L1,@iC,@L1,@iC):=by
   let lift:∀{x:@lK}{r:gK}{m1:Mc}{G:Got},(ip,@iC,x.1,m1)->(os,r,m1,m1,r)->(os,@kM,@iC,@iC,@kM):=by
    ext x r m1 G hs hr;rw[eh,@r2];.apply q_ (hr.1 w l2 h) (λhe l1 e1 e2=>?_);show fH he (x::l1) @X3 (hP,EI hs)
    .show(sM,[x],@Â,hs,hr.2 q h)
   let i:=λ(l':gK)(o:az)(h:l'.length<f)(h3:o.length=n)=>A d l' o @đ h hd h3;delta xq;dsimp only;split;.rw[ia];injection h with h;injection h with h1 h2;subst h1 h2;calc(zs,@ì);rw[kv,<-lL]
   .next J p r=>
     rw[cA,@Zx];by_cases h1:J=fu "cut";.rw[Ŗ];calc(fQ,(iL,0),by exact iS n _ J=_;delta iS;rw[Ŗ]);show(o_,0,@aar)
     .rw[ag h1];by_cases h2:J=fu "turn";.rw[aj h2];calc(fQ,(iL,1),by exact iS n _ J=_;delta iS;rw[(@Ĺ),aj h2]);show(o_,1,tM hk)
      .rw[ag h2];by_cases h3:J=fu "deal";.rw[aj h3];calc(fQ,(iL,2),by exact iS n _ J=_;delta iS;rw[(@Ĺ),(@aQ),aj h3]);show(o_,2,UY hk)
       .rw[ag h3];by_cases h4:J=fu "every";.rw[aj h4];calc(fQ,(j9,@go),by exact iS n _ J=_;delta iS;rw[(@Ĺ),(@aQ),(@j6),aj h4]);let I:=i r (aY mv @go) ug (u,oM,(Pl n).len);split;rw[iq,I.2 q U];.next x hx=>rw[ib];injection h with h;injection h with h5 h6;subst h5 h6;rw[ca,@Ah];show fH he l1 e1 (Ê,e2,(wJ,@Qg))
        .rw[ag h4];by_cases h5:J=fu "back";.rw[aj h5];calc(fQ,(qb,@u),by exact iS n _ J=_;delta iS;rw[dR,aj h5]);show(D6,@u,.back,qY @QD)
         .rw[ag h5];rw[Ŝ];cases h;show(iO,by exact iS n _ J=_;delta iS;rw[dR,ag h5],@Gi)
   .next m p r=>
     rw[cA,@Zx];by_cases h1:m<=TM;.rw[Ŗ];calc(fQ,(qb,@oL),(df,@Zz,h1));calc(D6,@oL,@Qn,?_);let H:=@QD;exact cf n (aiy @axv m);rw[O4 H h1];show v_ H _
     .rw[ag h1];rw[Ŝ];cases h;show(iO,(cp,@Zz,h1),@Gi)
   .next p r=>rw[Ŝ];cases h;show(j0,r,(Ł,@Gi))
   .next c p r=>
     by_cases h1:c=40;.rw[Ŗ,<-Ŝ];cases h;show(iO,by subst h1;rfl,(λ_ z=>by subst h1;cases z))
     .rw[ag h1];rw[ia];injection h with h;injection h with h2 h3;subst h2 h3;calc(zs,.inr (Ci c p r @d h1));rw[kv,<-lL]
  show{λw l2 h=>{P w l2 h,key.1 w l2 h},key.2}
def ayn[F](t:As):(eQ,(E0,@ep/\(Ż,@en,@ax,@fP)/\qV w=@ai9),@E',(u!,@ax=l1++@kM/\(Ż,@en,l1,m')/\(un,m')/\x.2=q,(Ż,@en,@ax,m'),@Ú,(CK,0<m'.outer.length))):=by
 rw[pp,@Ú,@ax,@ax];delta TQ;dsimp only;split;.next q U=>rw[Á,@j7,@sK];cases h;rcases R.2 q U with⟨l1,x,r,m',a1,X,M,I,_⟩|⟨m',a1,X,M⟩;rw[Ä,bO l1 x r m' a1 X ⟨M,I⟩,<-Ç,(AV,a1)]
 .next x hx=>
   rw[ca,@Ai];calc q_ (akr n @Ú _ _ _ _ _ hx) (λ_ b a e3=>?_);rw[lw]at e2;rw[jp];.rw[aj h0];rw[kL];rw[hz,iO]at e1 a;rw[Á,λw h=>?_,@awJ];cases h;show aM wf @ac2 (d,a,e3)
   .rw[ag h0];rw[Á,@j7,@r2];cases h;rcases he with hz|⟨c,p,r,hz,hc⟩;.rw[hz]at h0;simp at h0
    .left;calc bO l1 (@oS,p) r _ @al9 e2 {?_,(Q,hz)};rw[ã,(n3,Pq _)];split<;>rfl
def U4[b5]:∀(f:Nat)(l:gK),@KX->(u3,@v4/\@uW)/\(u3,∃l1 w rest,l=l1++@Į/\@agR/\@ep/\((@Į=[]/\ws=[w])\/∃p r a,@Į=@KU/\ws=w::a/\(EK,.ok a)))/\(∀q,@Do=@fj->qr n e 0 @en l q\/∃l1 w p r,l=l1++@KU/\@agR/\(EK,@fj))
 |0,l,h=>@Ä
 |f+1,l,hl=>by
  rw[pp,e,l,l];let A:=λ(r:gK)(h:r.length<f)=>U4 (e:=e) hn f r h;let b:@bJ-1=f:=rfl;rw[b];generalize hW:Eh n e @bJ l=G;rw[Eh]at hW;subst hW;split;rw[k8,.inl @ai_]
  .next x hx=>
    rw[ca,@Ai];rw[lw]at e2;split
    .next hz=>
      rw[hz,iO]at e1;rw[mT];.cases h;show{@A,λw hw=>(mC,hw,wf)}
      .cases h;show cj l1 x.1 ([]) (tn,e1) e2 wf @Gh
    .next p r hz=>
      rw[cA,by rw[fA,<-aA];simp at this;omega];split;rw[k8,.inr (bO l1 x.1 p r @al9 e2 U)]
      .next y hy=>
        rw[mT];.cases h;rw[Á,@A,@uX];rcases eJ.1 hw with z|z;rw[ú,wf];.show((A r ug).1 y hy).2 w z
        .cases h;show cj l1 x.1 x.2 e1 e2 wf (.inr (zq p r y hz @d hy))
    .next s i M=>
      calc aM @j7 @j7 @r2;cases h;left;rcases he with hz|⟨c,p,r,hz,hc⟩;rw[Í,hz,i]
      .rw[e1,hz];calc .inl (ğ,l1,(@oS,p),r,e2,(Ũ,?_,λ_ z=>?_));.rw[ã,(n3,Pq _)];split<;>rfl
       .exfalso;injection z with z;subst z;show M p r hz
def  e_[cI]:Row:=@ann
def oP[cI]:(hE,(e_ k r).length):=by delta e_;simp;omega
def zv{r s:Row}(hl:r.length=@aB)(h:∀i,@dL->@wz=cd s i):r=s:=(GD,lP h1,lP h2)
def wm[H]{k i:Nat}(hk:k<=r.length)[bl]:cd @a? i=cd r @op:=by
 delta cd e_;simp only[eY];congr 1;rcases ft i (r.length-k)with h|h;.rw[aiB @wG,N0,(@gh)];congr 1;omega
 .rw[xp @wG,jC,aWR,aj @e];rw[ę,i+k,(i-(r.length-k))+r.length];rw[e,Aw,(@gh)]
def Pr[H](ha:a<r.length)(hb:b<r.length):e_ a (e_ b r)=e_ @Y6 r:=by rw[h9];let hm:(b',@Y6):=@e1;refine zv (Ô,oP,oP,oP);ext i hi;rw[oP,oP]at hi;rw[wm (Ú,oP) @ZT,wm @e (d,oP,@e1),(@adv),oP];congr 1;rw[yN,JX,qf]
def KG[x]:e_ 0 r=r:=by delta e_;simp
def Ps[f][Ī]:(å,@Ů)=@a?:=aki hl
def zw[ť]:@Xf:=Ph H
def Pt[k][bW][ũ]:cd @eA i=(ps,@lB,(gB,i)):=by rw[lP (by delta done;simpa using hi)];simp only[done,jY];rw[(@oI)];rfl
def U5[č]:(c.turned @o).turned @o=c:=by let{a,b}:=c;induction b<;>rfl
def KH[e][ò][Ó]:(Ħ,@ś)=(iQ,i,(1,@o),i,(0,@o),@Ý):=by
 rw[UM hn,iF @iA,avO];split;.next h=>simp at h;rw[Ś,i,i];rcases this with z|z<;>subst z<;>simp
 .next h=>simp at h;simp;rw[(@aX),ag @e];congr 1;simp[*]
def ayo[Ī][ò]:(å,@ś)=iE r 0:=by
 let b_:(sL,r)=n:=(rN,@QE);refine zv (Ô,b_,pC,hl);ext i hi;rw[b_]at hi;rw[Pt (Į,@QE),KH hn hi,uT @e @C,hl,iN (yh,0+1<n)];rw[bA,i];.subst h0;simp
 .by_cases h1:i=1;.subst h1;simp
  .rw[(@cS),(@Ĺ),(@aX),(@aX),Pg]
def akt[ş](hn:(kD,2)):iE @dt i=r:=by
 refine zv (u,pC,pC);ext m hm;rw[pC,pC]at hm;rw[cr];let E:i≠@cB:=by rcases ft (i+1) r.length with q|q;rw[aO,iN q];.rw[Ċ,@Q,r.length,<-ê,yT];omega
 rw[uT (Į,pC) (bB,pC),pC];rw[eN];.rw[(@cT),uT hi hi,(@aci),(@Þ),U5,h1]
 .rw[ag h1];by_cases h2:i=m;.rw[(@gq),uT hi hj,(@Þ),U5,h2]
  .rw[(@aQ),uT hi hm,(@Ĺ),(@aQ)]
def aku[f](ha:a<n)(hb:b<n)[Ï]:((a+k)%n=(b+k)%n)↔a=b:=by
 constructor
 .ext h;let e:∀x,x<n->((x+k)%n+@ř)%n=x:=λx hx=>by rw[yN,qf,avE @hO,Aw,iN hx]
  rw[<-e a ha,h,e b hb]
 .rintro rfl;rfl
def U6[H][Ů][bl](hk:k<r.length):iE @a? i=e_ k (iE r @op):=by
 rw[h9];let hj:(b',@op):=@e1;refine zv (by rw[pC,oP,oP,pC]);ext m hm;rw[pC,oP]at hm;let ot:(b',@Ng):=@e1;let o:@auY:=@e1;rw[uT @ZT (bB,oP),oP,(@adv),wm @e o,wm @e hm,wm (Ú,pC) (bB,pC),pC,uT hj ot];rw[É,(em,@cB+k),@Y7,by rw[yN,yN];congr 1;omega];let c1:@Y7=@Ng↔@cB=m:=(K,e1,aku o hm hk);let c2:@op=@Ng↔i=m:=aku hi hm hk;rw[eN];.rw[ÿ,h1,c1.2 h1]
 .rw[(@Ĺ),ag (λq=>h1 (c1.1 q))];by_cases h2:i=m;.rw[(@gq),aj (c2.2 h2),e1]
  .rw[(@aQ),(fq,h2 (c2.1 q))]
def Cj[B]:eF r=e_ (cK,1) r:=by delta eF;rw[H.len];show@uY
def EK[ť][K][Ï]:eF @a?=@eS:=by let H2:@Xf:=zw H;let{W,e1}:=(i2,H2);rw[Cj H2,Cj H,Pr (Œ,W) @lv,H.len];congr 1;rw[wm @h3 @Y_,H.len]at e1;show(Ch H @cW e1).symm
def KI{r s:Row}[Î](J:@IL)[K](e:eF r=eF s):∃k,k<n/\@a?=s:=by rw[Cj H,Cj J]at e;let{W,_}:=(i2,H);let{p2,_}:=(i2,J);rw[È,e_ ((n-@xx)%n) (e_ @xx s),s,by rw[Pr (mD,@cW) (mD,p2),J.len,yN,(cB,n-@xx+@xx),yT,KG]];rw[<-e,Pr (Œ,@cW) @Y_,H.len]at e2;show ab _ @cW e2
def zx[B]:aJ n @eS:=(d,Cj H,zw H)
def xG[c?]:eF @eS=@eS:=by
 let{W,_}:=(i2,H);conv=>lhs;rw[Cj H]
 show EK H h0 W
def  R[ó]:(Å,Nat,Row)|0,x=>eF x=@ee|m+1,x=>∃i,@I_/\(Ś,@wA)
def Pu[K]:∀(m:Nat){x:Row}{k:Nat},@kK->k<n->(Ś,@ael)->@pL:=by ext z_;cases z_ with|zero=>ext x k H hk h;let h:eF @ael=@ee:=h;exact eF x=@ee;rw[<-h,EK H h0 hk]|succ m M=>ext x k H hk h;clear h;rw[E,@Gj];rw[oP,H.len]at hi;rw[U6 @n2 @lv,H.len]at h;let hj:@Cn<n:=@cW;show ab @Cn @lu (M (qo H hj) hk h)
def Hu[K][cT](H:@kK)(J:@hI)(e:@agU):@pL↔(Ś,y):=by
 rw[x,KI H J h0 e,λk hk G=>?_,<-x,KI J H h0 @bi,λk' jw a=>?_];constructor;.ext h;rw[<-a]at h;show Pu h0 m J jw h
 .ext h;rw[<-G]at h;show Pu h0 m H hk h
def  D[ó][ĳ](x:Row):@v:=@pL/\∀m',m'<m->¬@agH
def KJ[K][cT](H:@kK)(J:@hI)(e:@agU):@wN↔D q m y:=by delta D;rw[Hu h0 H J e];constructor;rw[lt,(Hu h0 H J e).2 z,<-lt,(Hu h0 H J e).1 z]
def U7{x:Row}(h1:D q a x)(h2:D q b x):a=b:=by
 rcases Eb a b with h|h|h;rw[Í,h1.1,h2.2 a h];.show h
 rw[Í,h2.1,h1.2 b h]
def U8{x:Row}:∀(m:Nat),@pL->∃m',m'<=m/\D q m' x:=by
 ext m;induction m using Nat.strongRecOn with
 |_ m ih=>
  ext h;by_cases hz:(gr,@agH);.clear hz;rw[E,λm' h1 h2=>?_,<-x,ih m' h1 h2,@rO];show ab a @e c
  .show bC m @Â h (λm' h1 h2=>hz (ab m' h1 h2))
def U9[cT](h:D q @ü x):∃i,@I_/\D q m @wA:=by let{{i,hi,hr},db}:=h;calc bC i hi hr @QG;show db @WZ @C (ab i hi z)
def  KL[cL][ĳ](l:@kZ):@v:=(AU,D q m y)
def  KO[cL][ĳ](l:@kZ):@v:=(AU,(gr,D q m' y))
def ayp{l:@kZ}:y∈aiG l↔∃x∈l,∃i,@I_/\eF @wA=y:=by delta aiG;simp only[lI,bE,kt]
def ayq[ò][ı]{old l:@kZ}(hl:@an')(N:@an!):KL n q @ü @apM/\@an?:=by
 rw[Ń];let jL:@an?:=by
  ext y;rw[bX,hl y,N y];constructor
  .rintro(⟨a,b,m',c,d⟩|⟨a,b,c⟩);.show@arX
   .show n0 a b m @C c
  .apply Pw λa b m' c d=>?_;by_cases e:m'=m;rw[Đ,.inr (aM a b d),<-Ä,@arX]
 rw[Á,@Pl,jL];rw[jk,J6,ayp];let hc:(aN,!(Mo,y),¬y∈@EB):=by rw[AA,<-N4,iW]
 rw[hc,jL y];constructor
 .rintro⟨⟨x,hx,i,hi,e⟩,db⟩;calc f7 ((hl x).1 hx) (λX s xd=>?_);rw[ď,(K,X.len,hi)];let h:=qo X g;let p:@hI:=(Ņ,zx h);let j:@zu:=(Ņ,xG h h0);let hR:R q @ü y:=by let h1:R q @ü @wA:=(ab i (hO,h.len) (d,akt hi (ct,X.len),xd.1));show(Hu h0 h p (d,j,e)).1 h1
  calc bU p j hR @QG;rw[x,U8 m' z,λO a b=>?_];show db (n0 p j O @e b)
 .apply cy λp j r=>?_;rw[x,U9 r,λi hi hd=>?_,<-ď,(K,p.len,hi)];let f:=qo p g;rw[Ì,ab (eF @Z0) ?_ ?_];.show(hl _).2 (aM @QH (xG f h0) ((KJ h0 f @QH (xG f h0).symm).1 hd))
  .rw[Cj f];let{W,_}:=(i2,f);generalize(ql,@Z0)=k at W;let hex:∃o,o<n/\(o+k)%n=i:=by rw[â,(i+n-k)%n,@cW];rw[yN,(Þ,i+n-k+k,i+n),Aw,iN g]
   clear hex;rw[E,λo h1 h2=>?_,<-â,o,(Ç,oP,f.len,h1)];rw[U6 (to,h1) (to,W),f.len,h2,akt hi (ct,p.len),EK p h0 W,j]
  .apply Pw λ_ _ m' hm U=>?_;let:=U7 r U;simp_all
def ayr[ò]:∀(f m:Nat)(old l:@kZ),@an'->@an!->(∀j Lq,(Ë,@ae!,Lq)->KL n q (m+j) Lq)/\(∀j,j<f->(∀i,@gH->(Bt,m+i))->∃Lq,(Ë,@ae!,Lq)):=by
 ext z_;cases z_ with
 |zero=>ext m old l _ _;show{λj Lq h=>by simp[nQ]at h,λj h=>@Ä}
 |succ f M=>
  ext m old l hl N;let{h1,h2}:=ayq hn hl N;let ih:=M @ü _ _ h1 h2;by_cases he:@IE
  .let e:@ae?=[]:=by exact@am8=[];rw[aj he]
   rw[e];calc{λj Lq h=>@ù,λj _ hx=>?_};rw[Æ,hx 0 @ð,λy a b c=>?_];let:=(hl y).2 (aM a b c);let hz:l=[]:=by simpa using he
   rw[aA];simp at this
  .let e:@ae?=l::nQ f @EB @apM:=(cp,@am8,he);rw[e];constructor;.ext j Lq h;cases j with|zero=>cases h;show hl|succ j=>let:=ih.1 j Lq h;rw[(Þ,m+@Ö,@ü+j)];show this
   .ext j hj hx;cases j with|zero=>rw[ć,l]|succ j=>show ih.2 j @Ä (λi hi=>(cx,hx @Q @C,(Þ,m+@Q,@ü+i)))
def akv[K]:(wL,@wN,∀i,i<=m->(Bt,i)):=by ext z_;cases z_ with|zero=>ext x H hd i hi;let:i=0:=@Ä;subst this;show@ar6|succ m M=>ext x H hd i hi;by_cases e:i=@ü;rw[Đ,@ar6,<-au,@QI,λj hj U=>?_,M (qo H @abo) U i @e]
def U_[ò][E](G:∀m x,@kK->@wN->m<2000)[B][ĳ]:Gy @fA r=some m↔D q m r:=by
 rw[Ń];let start:KL n q 0 [@ee]:=by
  ext y;rw[dt];constructor;.rintro rfl;calc bU (zx J) @acj ?_ (λm' hm=>@Ä);show@acj
  .rw[Ü,@rO];let:eF y=@ee:=c.1;rw[<-this,b]
 let d:KO n q 0 []:=by
  ext y;constructor;.ext h;simp at h
  .apply Pw λ_ _ m' h _=>?_;simp_all
 let{g1,g2}:=ayr hn 2000 0 [] [@ee] start d;let zW:∀m,@Ki↔D q m @eS:=λm=>KJ h0 H @sL @ays;delta Gy;rw[List.findIdx?_eq_some_iff_getElem];constructor;.rw[E,λhm hc _=>?_];let:=g1 m _ (cJ hm);rw[oE]at this;let h2:=(this @eS).1 @P2;show(zW m).2 h2.2.2
 .ext hd;let hm:=G m r H hd;let{Lq,hL}:=g2 m hm (λi hi=>(d,oE,akv h0 m H hd i hi));let{bK,e}:=gL.1 hL;let hS:=g1 m Lq hL;rw[oE]at hS;calc ab bK ?_ @Gl;rw[Ê,e,iW,(hS _).2 (aM @sL @ax6 @ajc)];.ext hc;let C:=g1 j _ @uF;rw[oE]at C;let:=(C @eS).1 @P2;let:=U7 @ajc this.2.2;omega
def  ins[t](x:α):@afs|[]=>[[x]]|a::l=>(x::a::l)::(z',l)
def  Ck[t]:@afs|[]=>[[]]|x::l=>(Ck l).flatMap @Gm
def ays(x:α):(fP,(ins x l).length=@Ã+1):=by ext z_;cases z_ with|nil=>rw[Ø]|cons a l M=>show by exact((ins x l).map @ayJ).length+1=_;rw[aw,M];rfl
def akw[t](x:α):∀(a b:@ß),@aay∈ins x @b2|[],[]=>@WG|[],c::b=>@WG|c::a,b=>by exact c::@aay∈(x::c::@b2)::(ins x @b2).map (λx_=>c::x_);show(í,(ma,@apN))
def ayt:(wM,l'.Perm l->l'∈Ck l):=by
 ext z_;cases z_ with
 |nil=>ext l' h;show by rw[h.eq_nil];simp[Ck]
 |cons x l M=>
  ext l' h;let hx:x∈l':=h.mem_iff.2 @A;calc Eee (List.append_of_mem hx) @Qa;subst aW;let h2:(a++b).Perm l:=by let:(x::@b2).Perm @eL:=List.perm_middle.symm.trans h;show this.cons_inv
  show lI.2 (ab @b2 @acS @apN)
def ayv:(wM,l'∈Ck l->l'.length=@Ã):=by
 ext z_;cases z_ with
 |nil=>ext l' h;show by simp[Ck]at h;rw[h]
 |cons x l M=>
  ext l' h;rw[ŕ,h,λm hm h2=>?_];let e:=M m hm;let:∀(m l':@ß),l'∈ins x m->l'.length=@ń+1:=by ext m;cases m with|nil=>ext l' h;simp[ins]at h;rw[h];rfl|cons a m ih=>ext l' h;let h:l'=x::a::m\/l'∈(z',m):=eJ.1 h;rcases h with h|h;rw[Ě,h];.rw[À,h,@Pb];subst bf;let:=ih y hy;simp[this]
  rw[this m l' h2,e];rfl
def Hv{β:@è}(f:α->@uD)[A]:(fP,(∀x∈l,(f x).length=c)->(l.flatMap f).length=@Ã*c):=by ext z_;cases z_ with|nil=>rw[Ę,@A]|cons x l M=>ext h;rw[Ei,eM,(@Kc),M @apA,eE,Ec];omega
def ayw:(fP,(Ck l).length=@F8):=by ext z_;cases z_ with|nil=>rw[Ø]|cons x l M=>exact((Ck l).flatMap @Gm).length=@ana;rw[Hv @Gm @oh _ (λm hm=>(u,ays,ayv l m hm)),M,B0]
def akx(v:@ß):∀n,(J4,v)=@aiN:=by ext z_;cases z_ with|zero=>rw[Ø]|succ n M=>exact(v.flatMap @apz).length=_;rw[Hv _ @aiN _ (λx _=>(hR,M)),Gq,B0]
def ayx[f][ê][Ï][ģ]:@Y8%2=(Ő,no,k):=by
 rw[gn];generalize@Ŭ=p at hm e;subst e;rw[pF H hm];let hi:@agu<n:=@nu;let ec:cd @a? @agu=cd r p:=by rw[(@aem),H.len,yN,(D',n,p),Aw,iN hm]
 let e4:=pF @aen hi;rw[ec]at e4;rw[e4];rcases ft p k with h|h;rw[Â,iN (Ò,p+n-k<n),Pf (D',_,_) hn,<-Ö,Nat.sub_add_comm h,Aw,iN (A9,hm),(EW,h)]
def ayy[Ħ][ð]:(wL,@pL,(i!,(rq,((ő,x)+@jt)%2=c))):=by ext z_;cases z_ with|zero=>ext x H h;rw[i2,h];calc ab (k%2) @kd @F?;let:=ayx H hn hk h1 h2;rw[Ğ];show zpe this|succ m M=>ext x H h;clear h;calc bj @Gj;rw[ď,@w7,<-hC,M (qo H g) h];calc ab c hc @F?;let:=N no h1 h2;let e:=US H hn g h1 h2;show zpf this e
def  KP[c]:@oH:=(Ck ((bP @Û).map @aif)).map (λx_=>1::x_)
def aky[c]:(KP n).length=fk @Û:=by delta KP;rw[aw,ayw,aw,nI]
def ayz(H:@hI)[K](hr:@zu):b7 y∈KP n:=by
 rw[l0];let O:(cd y 0).no=1:=by
  let{W,e1}:=(JU,H,@C);let e2:=Cj H;rw[hr]at e2;let:cd y 0=cd y ((0+(ql,y))%@ü):=by
   conv=>lhs;rw[e2]
   rw[wm @h3 @aaf,H.len]
  rw[this,oE,iN W];show e1
 cases y with|nil=>let:=H.len;simp at this|cons c y=>let hc:@aZ=1:=O;delta KP;calc(a6,y.map ic,ayt _ _ ?_,(f1,1::_,@aZ::_,hc));let:=H.nos;rw[m_,(ia,@aif)];rw[e,cT,hc]at this;show this.cons_inv
def Va(y:Row):((b7 y).zip @QL).map (j3,x.2)=y:=by delta b7;cases y with|nil=>rfl|cons c y ih=>simp only[cT,TU,ih]
def  cands[cL]:@kZ:=(KP n).flatMap λo=>if@Ċ then[0,1].map λc=>o.zipIdx.map @AJ else(rZ [@Å,@o] n).map λs=>@ag7
def ayA[Ĥ][ó]:(cands n q).length<2000:=by
 delta cands;rw[Ą];.rw[Hv _ 2 _ (λo _=>(Q,@dD)),aky];let:n=2\/n=4\/n=6:=@e;rcases this with h|h|h<;>subst h<;>decide
 .rw[Hv _ (2^n) _ (λo _=>(ds,ag hn,aw,akx)),aky];let:n=3\/n=5:=@e;rcases this with h|h<;>subst h<;>decide
def ayB[Ħ](H:@hI)(hr:@zu)[ı](h:(Ś,y)):y∈@ajd:=by
 delta cands;calc lI.2 (ab (b7 y) (ayz H h0 hr) ?_);rw[Ą]
 .rw[aj hn];rw[hC,ayy J h0 hn m H h];calc(a6,c,@ŝ,?_);refine zv @WF;ext i hi;simp[b7]at hi;rw[ď,@w7];let MC:i<((b7 y).zipIdx.map @AJ).length:=by simp[b7];show hi
  let e0:cd ((b7 y).zipIdx.map @AJ) i={@ayo,@an7}:=by rw[lP MC,lP hi];simp[b7]
  rw[e0];let{b1,b2}:=r9 H g;let hs:=pF H g;let hp:=N _ b1 b2;rw[hs]at hp;let o:@an7=@KM:=by let hb:aD @KM=(nc,@KM):=rfl;cases hu:(cd y i).up with|true=>rw[hu]at hp;simp only[aD,ku]at hp;rw[gy];omega|false=>rw[hu]at hp;simp only[aD,qh,nR]at hp;rw[uH];omega
  rw[o]
 .rw[ag hn];apply(a6,@QL,UE @WB (λx _=>by induction x<;>simp),Va y)
def akz[Ĥ][E][ĳ](x:Row)(H:@kK)(hd:@wN):m<2000:=by
 rw[Ń];let hex:=akv h0 m H hd;let hf:∃f:Nat->Row,∀i,i<=m->aJ n @eG/\eF @eG=@eG/\D q i @eG:=by rw[Á,λi=>if h:i<=m then a09 (hex i h)else[],@eF];dsimp only;rw[dif_pos hi];show a0_ (hex i hi)
 let{f,hf}:=hf;let dJ:((bP @ü).map f).Nodup:=by rw[Ž];ext i j hi hj E e;simp only[aw,nI]at hi hj;simp only[jY,rR]at e;let a:=(hf i @e).2.2;let b:=(hf j @e).2.2;rw[e]at a;let:=U7 a b;simp_all
 rw[Ķ,(wB,f),@ajd,by ext y hy;rw[À,hy,λi hi bu=>?_];subst bu;let g:=@gn;rw[ļ,hf i @e];show ayB J h0 a b c.1];let:=@k5;let hl:=ayA h2 h6 q;simp at this;omega
def  uU[c](r q:Row)(w:Way):@v:=w≠[]/\(∀k∈w,k<n)/\(å,yW n w)=q
def  uV[İ][x]:Row:=(kS,@ś,@Ů)
def Vb[ť][cd]:@eP=e_ k @LH:=by delta uV;rw[(@uY),ayo (fV,oP) hn,U6 @h3 @lv,H.len,oE,iN hk]
def Hw[ť][cd]:aJ n @eP:=(d,Vb H hn hk,zw @wT)
def akA{k m:Nat}[B][cd]:(Ś,@eP)↔(Ś,@LH):=by let h:=@wT;show Hu @e @anC h (yj,hn,EK h @e hk)
def Vc{k k':Nat}{w:Way}[B][ò](hw:(Bh,@lX)):(å,yW n (k::@lX))=done (yW n @lX) @eP:=by rw[Ń];let d:=lz (jc (hw k @A)) h0;let HT:=tM (n:=n) hn;let a:=Ht h0 @lX (λx hx=>hw x @Iy) (λ_=>hn);exact(å,(L3,@lX))=_;rw[on];rfl
def KQ[u]{q:Row}[E][ò]:∀(w:Way){r:Row},@T->@p0->R q @IP r|[],_,_,h=>(kO,h.1)|[k],r,H,h=>by rw[lW];let e:@a?=q:=(K,@uY,@gU);exact@eS=@ee;rw[<-e,EK H @e hk]|k::k'::w,r,H,h=>by rw[lW];let e:=@gU;rw[Vc H hn @š]at e;let ih:=KQ J hn @lX @anC (zx,h.2.1 x @Iy,e);show ab k @lv ((akA H hn hk).1 ih)
def  j0:(Å,@h,@h)|[],_=>True|_::_,[]=>False|a::l,b::l'=>a<b\/(a=b/\j0 l l')
def akB{p:@Ė}[f](h:(cn,@aje)):k<n/\p k=@o/\∀j,j<k->(A,p j):=by let h1:=JY h;let h2:=kt.1 @PJ;calc aM h2 h1 @Gl;rw[List.find?_range_eq_some]at h;let:=h.2.2 j hj;simpa using this
def akC{p:@Ė}[f][Ï](hp:p k=@o):∃j,(dN,@aje):=by cases e:(bP n).find? p with|some j=>rw[ć,j]|none=>let:=yQ.1 e k (kt.2 hk);show absurd hp this
def akD[E][Ĥ]:(wN,@Ki,(Ej @fA q m r).length=@ü/\(jY,@L2)/\(GP,@ü,@L2)):=by
 ext z_;cases z_ with
 |zero=>
  ext r H hd;rw[Ń,<-i2,hd.1];let hf:=akC (n:=r.length) (k:=k) (p:=@apP) @lv (by rw[H.len,(@uY),e];show TV q);let{j,hj}:=hf;rw[ļ,akB hj];let N:Ej @fA q 0 r=[j]:=by exact[((bP r.length).find? @apP).getD 0]=[j];rw[hj];rfl
  rw[N];rw[H.len]at a b c;calc(ź,aM @A (by simpa using a) (eq_of_beq b),@QO);match w',hl with
   |[k'],_=>
    rcases ft k' j with z|z;.let:=c k' z;rw[È,(å,eg n k'),q,hw.2.2];rw[e2]at this;simp at this
    .rcases ft j k' with y|y;rw[Ä,y,<-Ç,(aJ,gA)]
 |succ m M=>
  ext r H hd;rw[Ń,<-oX,<-x,@QI,λi hi o=>?_,<-ď,@w7];let t:(d5,D q m @eP↔D q m @LH):=λk hk=>KJ h0 @aeY @wT (yj,h2,EK @wT h0 hk);let d:(d5,(aE,Gy @fA @eP,@oL)↔D q m @eP):=λk hk=>(d,gy,U_ h2 J G @aeY m);let hf:=akC (p:=(vY,@eP)) g ((d i g).2 ((t i g).2 o));let{k,hk}:=hf;rw[ļ,akB hk];let N:Ej @fA q @ü r=k::@ac?:=by let e0:(cn,@ajf):=@lv;exact(match@ajf with|none=>[]|some k=>k::(qu,@OV))=_;rw[e0,H.len];rfl
  let l:=(d k a).1 b;calc f7 (M (rV,a) l) (λi1 S O=>?_);rw[N];generalize C:@ac?=U at*;obtain⟨u,w1,rfl⟩:∃u w1,U=u::w1:=by cases U with|nil=>simp at i1|cons x y=>show wk x y @d
  let fU:(Bh,u::w1):=by ext x hx;rcases eJ.1 hx with z|z;rw[ú,a];.show S.2.1 x z
  calc aM (u,eE,i1) (aM @A fU (d,Vc H h2 fU,S.2.2)) @QO;match w',hl with
   |k'::f::w2,hl=>
    let jw:k'<n:=hw.2.1 k' @A;let h:uU n @aa? q (f::w2):=(zx,hw.2.1 x @Iy,(K,Vc H h2 hw.2.1,hw.2.2));let hR:=KQ J h2 _ (rV,jw) h;let b_:(f::w2).length-1=m:=@Zy;rw[b_]at hR;let s:D q m @aa?:=by rw[Á,hR,λm' hm z=>hd.2 @WZ @C (ab k' (Œ,jw) ((akA H h2 jw).1 z))]
    rcases Eb k' k with z|z|z;.let:=c k' z;let h3:=(d k' jw).2 s;rw[this]at h3;cases h3
    .subst z;show(lf,O _ h @Zy)
    rw[Ä,z]
def akE[Ã][Ĥ]:(dz,@td,∀w,¬@p0)\/∃w,@K7/\@p0/\(∀w',@ED->@q6<=@mh)/\(GP,@q6,w):=by
 rw[oX];let e:@td=(Gy @fA r).map λm=>@L2:=by delta Gz;rw[ag @aaf]
 by_cases hx:∃m,@Ki;.let{m,hd}:=hx;rw[ļ,akD J h2 h6 m H hd];right;calc eR _ (Ê,e,(U_ h2 J G H m).2 hd) b (λw' hw=>?_) (λw' hw hl=>c w' hw (tv,a));let hR:=KQ J h2 w' H hw;let:m<=@Xj:=aiu λz=>hd.2 _ z hR;let:0<@mh:=@Pw;rw[a];omega
 .left;rw[æ,@uX];.rw[e];cases hl:Gy (nQ 2000 [] [eF q]) r with|none=>rfl|some m=>rw[Ò,{m,(U_ h2 J G H m).1 hl},hx]
  rw[au,U8 _ @ahO,@QP,hx ⟨m',hd⟩]
def  n_[Ć](x:Nat):@Ù:=@cv&&@a6
def  oe[Ć](x:Nat):@Ù:=@cv&&!@a6
def  uX[Ć](i x:Nat):@Ù:=@mS||@a6==@dc
def  uY[Ć]:(Å,Nat,@h)|_,[]=>True|i,x::o=>@tk=@o/\uY m p @Q o
def  AQ[í]:Nat:=@afo
def  zy[í]:Nat:=@afp
def range_drop[aX]:(bP n).drop i=i::(bP n).drop @Q:=(Ė,yO @Ÿ)
def Vd[aX]:@qg=(g4,@hK)+@ack:=by
 delta AQ;rw[(@QR),mi];rw[eO];.simp[hi];simp+arith[*]
 .simp[hi]
def Px[aX]:@qh=(Mn,@hK)+@acl:=by
 delta zy;rw[(@QR),mi];rw[eO];.simp[hi]
 .let:i%2=1:=@Ä;simp[this];simp+arith[*]
def akF[c]:(Bf,@qg+@qh,k):=by ext z_;cases z_ with|zero=>ext i h;delta AQ zy;rw[yP @cX];rfl|succ k M=>ext i h;let ih:=@xj;rw[Vd @e,Px @e];split<;>omega
structure iT[Ć]:@v where
 names:@af=m
def akG[ő][ŏ][b8]:(cm,p.find? (wA,x.1)):=by
 rw[je];revert G;cases p with
 |nil=>simp at hx
 |cons a p ih=>
  rw[cT,pd]at hn;rw[rT];rcases eJ.1 hx with z|z;.subst z;simp
  .let aQ:¬a.1=x.1:=λe=>hn.1 (ŋ,(ý,x,z));let:@amu:=by simpa using aQ
   rw[Ã];show ih z hn.2
def KR[ő][ŏ][b8]:cU p x.1=@Œ:=by delta cU;rw[akG G hm hx];rfl
def Py[ő][ŏ][b8]:dj p x.1=@b4:=by delta dj;rw[akG G hm hx];rfl
def akH[ő][Ĵ][bn]:∃x∈p,x.1=c:=by rw[<-G.names]at hc;rw[ų,@B8];show@EV
def akI[ő][b1][G]:((p.filter @qB).filter @zg).length=(left.filter @MB).length:=by
 rw[je];let h1:(((p.filter @qB).filter @zg).map @ê).Nodup:=by calc a1a ?_ hn;show((AB).trans AB).map _
 let h2:(left.filter @MB).Nodup:=@QU;let hp:(((p.filter @qB).filter @zg).map @ê).Perm (left.filter @MB):=by
  rw[avN h1 h2];ext c;rw[bE,jk];constructor;.rw[E,@P_];subst aW;rw[jk,jk]at hx;let{{g,fV},d}:=hx;rw[Ì,iW.1 fV];rw[eZ,(nB,g)];show{iW.2 (co,G.names,x,g),d}
  .rintro⟨hc,hb⟩;rw[eZ]at hb;rw[x,akH G (iW.1 hb.1),@h'];subst bf;calc ab x ?_ @d;rw[jk,jk];rw[(nB,hx)]at hb;show{{hx,iW.2 hc},hb.2}
 let:=hp.length_eq;rw[eH]
def PB[e][y][b1]:(aN,@zc,@uZ<=@qg/\@u0<=@qh):=by
 delta iP;dsimp only;let e1:=akI G hm hl @o;let e2:=akI G hm hl @Å;let f1:(EL,@o,@Dw):=by funext x;simp
 let f2:(EL,@Å,@aaS):=by funext x;cases x.2.1<;>rfl
 let M:(A8,@o,@nK):=by funext x;simp[n_]
 let j:(A8,@Å,@nL):=by funext x;delta oe;cases cU p x<;>rfl
 rw[f1,M]at e1;rw[f2,j]at e2;rw[eZ,cG,cG,e1,e2];show Go
def Ve[u][y]:(sO,i+@ĺ=n->@w9->(o.filter @nK).length<=@qg/\(o.filter @nL).length<=@qh)
 |[],i,_,_=>@A
 |x::o,i,h,hc=>by
  let h':i+(@ĺ+1)=n:=h;let{a,b}:=Ve (n:=n) o @Q @e hc.2;let ok:=hc.1;delta uX at ok;let e1:@uq=@o->@hK:=by ext z;delta n_ at z;rw[eZ]at z;rw[z.1,z.2]at ok;simpa using ok
  let e2:@ur=@o->¬@hK:=by ext z;delta oe at z;rw[eZ]at z;let y:(A,@a6):=(fs,z.2);rw[z.1,y]at ok;simpa using ok
  rw[Vd @Jn,Px @Jn,mi,mi];rw[eO]
  .rw[(ģ,e2 z hi),aj hi,aj hi];rw[æ,@C];split;.rw[eE];simp+arith[*]
   .omega
  .rw[(ģ,hi (e1 z)),ag hi,ag hi];rw[Ì,@C];split;.rw[eE];simp+arith[*]
   .omega
def PD[eu](hx:@Jm):left.Perm (x::@mZ):=(d3,aWM hx,hl.erase_eq_filter)
def akJ[eu](hx:@Jm)(f:@Ė):(left.filter f).length=(nc,f x)+((left.filter @JK).filter f).length:=by let:=((PD hl hx).filter f).length_eq;rw[ê,mi];split<;>simp<;>simp+arith[*]
def ayC(f g:@Ė):(aT,(Bl,g x)+(Bl,! g x)+(l.filter λx=>! f x).length=@Ã):=by ext z_;cases z_ with|nil=>rw[Ø]|cons x l M=>let ih:=M;cases hf:f x<;>cases hg:g x<;>simp[mi,hf,hg]<;>omega
def akK[e][y][b1](hn:@LO)[Ó](hf:(g_,i,@å)):@QW:=by
 let dJ:∀x,(left.filter @JK).Nodup:=λx=>@QU;rw[PB G hm hl]at hf;let U:=akF n @mi i hn;let he:=Vd hi;let N:=Px hi;let e:@uZ+@u0+@Gn=@mi:=ayC (λx=>@cv) (λx=>@a6) @å;let lQ:∀x∈left,@tk=@o->(nc,@uq)+@ack>=@uZ->(nc,@ur)+@acl>=@u0->@QW:=by ext x hx hok h1 h2;calc bC x hx hok ?_;rw[PB G hm (dJ x)];let a:=akJ hl hx @nK;let b:=akJ hl hx @nL;constructor<;>omega
 by_cases f:@hK
 .rw[aj f]at he N;by_cases v:0<@uZ
  .rw[bG,v,<-bH];let d:(A,@ur):=by delta n_ at fV;delta oe;rw[bI];rw[fV.2];simp
   calc lQ x g ?_ @aaD @ayD;delta uX;delta n_ at fV;rw[bI];rw[fV.2];simp[f]
  .let hU:0<@Gn:=@e;rw[bG,hU,<-bH,<-i0,<-lT];calc lQ x g ?_ (by rw[d];simp;omega) (KX,c);delta uX;rw[fV];rfl
 .rw[ag f]at he N;by_cases t:0<@u0
  .rw[bG,t,<-bH];let d:(A,@uq):=by delta oe at fV;delta n_;rw[bI,<-kA,<-Ã];simp
   calc(z3,@aaD);delta uX;delta oe at fV;rw[bI,<-kA,<-Ã];simp[f]
  .let hU:0<@Gn:=@e;rw[bG,hU,<-bH,<-i0,<-lT];calc(z3,by rw[c];simp;omega);delta uX;rw[fV];rfl
def ayD{f:@Ė}{x:Nat}(hs:@u1)(h:(cm,left.find? f)):@Jm/\f x=@o/\∀y∈left,f y=@o->x<=y:=by
 calc(Ø,@PJ,JY h);cases left with
 |nil=>rw[ő]
 |cons a left ih=>
  ext y hy b;rw[avZ]at hs;rw[rT]at h;cases MD:f a with
  |true=>
   rw[MD]at h;cases h;rcases eJ.1 hy with z|z;.simp[*]
   .show jc (hs.1 y z)
  |false=>
   rw[MD]at h;rcases eJ.1 hy with z|z;.subst z;rw[MD]at b;cases b
   .show ih hs.2 h y z b
def Vf[N]:∀(f i:Nat)(left:@h)(l:@dC),@mi=f->i+f=n->@u1->@aof->@dz->(lc n m f i @å l).1.Perm @å/\(qN,@arK,@lr/\uY m p i @arB)/\@arK≠[]/\∀(o:@h)(p:Profile),o.Perm @å->@lr->@w9->j0 @arB o:=by
 ext z_;cases z_ with
 |zero=>ext i left l hf dM _ hl aQ;rw[ab,@å,hf];subst this;show bU @á (λp=>(iU,⟨h,gA⟩,h.1)) aQ (λo p N _ _=>gA)
 |succ f M=>
  ext i left l hf dM hs hl aQ;rw[lY];let c:∀x p,p∈@oF↔@lr/\@tk=@o/\@avF:=by ext x p;rw[jk,eZ];show Go
  let v:∀x,(aN,!@AR,∃p∈l,@ayx):=by
   ext x;rw[AA,<-N4,GB];constructor;.ext h;rw[bJ,h];show{p,(c x p).1 hp}
   .rw[E,λp h1 h2=>?_];ext h;let:=(c x p).2 @EK;rw[h]at this;simp at this
  rw[jw,<-jz,<-oI,@C,@e];let g:(sE,(rr,@AR)):=by cases e:left.find? (λx=>!(l.filter (λp=>(!m.contains x||cU p x==(i%2==0))&&iP n (i+1) (left.filter λy=>y !=x) p)).isEmpty)with|some x=>rw[ć,x]|none=>rw[Ò,(v G).2 (bC I u d s),@apD]
  let{x,hx}:=g;calc f7 (ayD hs hx) (λj D B=>?_);let t:(H7,x::@apf,@mZ,@oF):=(af,(E1,@AR),hx);let b_:(left.filter @JK).length=f:=by let:=(PD dJ j).length_eq;simp at this;simp_all
  let k:@oF≠[]:=by ext h;rw[h]at D;simp at D
  let{i1,S,O,U}:=M @Q @mZ @oF b_ @e @QY (λp hp=>⟨(hl p (Bu,hp)).1,((c x p).1 hp).2.2⟩) k;rw[t];let ME:(x::@apf).Perm @å:=(i1.cons x).trans (PD dJ j).symm;let lg:∀(o:@h)(p:Profile)(z:Nat),(z::o).Perm @å->@lr->uY m p i (z::o)->p∈l.filter (λp=>((gf,z)||cU p z==@dc)&&(pn,@axD))/\@QX/\@aca:=by
   ext o p z N hp hc;let hz:@aca:=N.mem_iff.1 @A;let jL:@QX:=(N.trans (PD dJ hz)).cons_inv;calc aM ((c z p).2 (Ø,hp,hc.1)) jL hz;rw[PB (hl p hp).1 hm (dJ.sublist AB)];let sN:@ĺ=f:=by let:=N.length_eq;simp at this;simp_all
   let:=Ve (n:=n) o @Q @e hc.2;rw[(jL.filter @nK).length_eq,(jL.filter @nL).length_eq]at this;show this
  apply bU ME (λp=>?_) O (λo p N hp hc=>?_)
  .rw[S p];constructor;.rintro⟨a,b⟩;show aM (Bu,a) (((c x p).1 a).2.1) b
   rw[pX,(lg _ p x ME a b).1,b.2]
  .cases o with|nil=>let:=N.length_eq;simp at this;omega|cons z o=>calc f7 (lg o p z N hp hc) (λn1 n2 n3=>?_);let h_:x<=z:=B z n3 ((v z).2 {p,(c z p).1 n1});rcases ft x z with h|h;rw[Ä,h];.rw[Ċ,x,z];subst this;show(lf,U o p n2 n1 hc.2)
def AR{s s' e F:@Ė}:∀(x:AC),(Lo,s c=s' c/\e c=F c)->ir s e x=ir s' F x|.up c,h=>(uL,c)|.even c,h=>(h c (by simp[e9])).2|.like c d,h=>by exact(s c==s d)=(s' c==s' d);rw[(uL,c),(uL,d)]|.no a,h=>(f1,!@zJ,!@zI,AR a h)|.both a b,h=>(Go,@zJ&&ir s e b,@zI&&ir s' F b)|.either a b,h=>(Go,@zJ||ir s e b,@zI||ir s' F b)
def akL{g:@I2}{h:Nat->@hZ}:∀(m:@h),(∀a∈m,h a∈g a)->@Gr∈@Gs:=by ext z_;cases z_ with|nil=>rw[Ę,by simp[AD]]|cons a m M=>ext hh;exact h a::@Gr∈(oD,a);show lI.2 (ab (h a) (hh a @A) (ý,@Gr,M (λb hb=>hh b @Iz)))
def PF{g:@I2}(hg:∀a,(vd,g a)):(wT,y∈@Gs->@QM=m/\@apQ):=by
 ext z_;cases z_ with
 |nil=>
  ext y h;let:y=[]:=by simpa[AD]using h
  subst this;show(Ì,λu hu=>by simp at hu)
 |cons a m M=>
  ext y h;let h:y∈(oD,a):=h;rw[ŕ,h,λu hu h=>?_,<-À,h,λv hv aW=>?_];subst aW;let{i1,S}:=M v hv;rw[Á,(Ô,cT,i1,hg a u hu),@da];rcases eJ.1 hz with e|e;.subst e;rw[hg a z hu];show hu
  .show S z e
def  lR[ó][ß]:Profile:=m.map @awD
def PH[ó][ß]:iT m @a!:={by delta lR;rw[b6];show uC m}
def akM[Ô][bn]:(c,@amA,eQ q c)∈@a!:=@EU
def akN[N][bn]:cU @a! c=@amA:=KR @ye hm @QZ
def PJ[N][bn]:dj @a! c=eQ q c:=Py @ye hm @QZ
def Vg[N]{x:AC}(hx:@afV):ir (dj @a!) (cU @a!) x=@C!:=AR x λc hc=>{PJ hm @Me,akN hm @Me}
def ayE[y]:(sO,@asW->@w9):=by
 ext z_;cases z_ with
 |nil=>ext _ _;show gA
 |cons x o M=>
  ext i h;rw[æ,M @Q λj y hy hm=>?_];.delta uX;cases hx:m.contains x with|false=>rfl|true=>let:=h 0 x @d @P1;rw[Ã];simp
  .let:=h @Ö y hy hm;rw[mL]
def Vh[y]:(sO,@w9->@asW):=by ext z_;cases z_ with|nil=>ext _ _ j x h _;show@ù|cons y o M=>ext i hc j x h hm;cases j with|zero=>cases h;let:=hc.1;delta uX at this;rw[(@Go)]at this;simpa using this|succ j=>let:=M @Q hc.2 j x h hm;rw[mL]
def Vi[E]{j x:Nat}(h:(Ë,@ŧ,x)):j<n/\(cR,j)=x/\(qL,x)=j:=by
 delta b7 at h;rw[bB]at h;rcases ft j q.length with hj|hj;.rw[qZ hj]at h;let e:(cR,j)=x:=@ia;let g:j<n:=(K,J.len,hj);show aM g e (Ch J g e)
 rw[ī,qg hj]
def EL[E][N]:uY m @a! 0 @ŧ:=ayE _ _ λj x hx C=>(Ô,akN hm C,(Vi J hx).2.2,oE)
def EM[E]:(b7 q).Perm @ô:=J.nos
def Vj[E][N]:iP n 0 @ô @a!=@o:=by rw[PB @ye hm @Ce];let:=Ve (n:=n) @ŧ 0 @vE @t_;rw[(@ajj),(@ajj)]at this;show this
def KS[c]:(bQ n).Pairwise @hp:=by delta bQ;rw[rQ];ext i j hi hj E;simp;simp[*]
def  gZ[ó]:@h:=q.map @fi
def  Vk(q q':Row):@v:=j0 @ŧ @uT/\(@ŧ=@uT->@aoW)
def KU:(aT,j0 l l):=by ext z_;cases z_ with|nil=>show gA|cons a l M=>show .inr (Ì,M)
def ayF{q':Row}(h1:@ŧ=@uT)(h2:@Gt=@u2):q=q':=by rw[<-Va q,<-Va q',h1,h2]
def  iY[dx]:Row:=o.zipIdx.map (j3,@an6)
def PK[dx]:(iY r o c).length=@ĺ:=by simp[iY]
def Vl[dx]:b7 @aO=o:=by delta b7 iY;rw[b6];let:(ic∘(vb,({x.1,@an6}:dX)))=avS:=rfl;rw[Ã];show List.zipIdx_map_fst 0 o
def EN[bW](hi:i<@ĺ):cd @aO i={o[i],(lK,o[i],i)}:=by rw[lP (Į,PK)];simp[iY]
def Hx[H][ô][A]:aJ n @aO:=(n',(Ô,PK,N.length_eq,iR),@aO,Vl,N)
def akO[Ď]:aD (a%2==1)=a%2:=by rcases Ea a with h|h<;>rw[h]<;>rfl
def ayG[H][ô][A][ģ]:(Ő,no,(ő,@aO))=c%2:=by rw[gq];let{W,p2}:=(KN,J);generalize@wq=p at W p2;let hp:@acL:=@ao9;let hs:=pF J W;rw[p2,EN hp]at hs;rw[EN hp]at p2;let p3:o[p]=no:=p2;rw[hs];dsimp only;rw[p3,akO];simp+arith[*]
def akP[ê][ô](hc:c<2):(aj,@aO):=by
 delta fK;rw[cw];let hm:tj c r @aO=@o:=by delta tj;rw[(@bW),j_];ext no db;let{h1,h2}:=@F4;rw[ayG N c h1 h2,iN hc];show TV c
 rw[pk];rw[Ś,c,c];rcases this with z|z;.left;rw[<-z];show hm
 .right;rw[<-z];show hm
def Vm[Ã][ð](h:@av):∃c,c<2/\tj c r q=@o/\q=iY r @ŧ c:=by
 delta fK at h;rw[H.len,(@dD),pk]at h;let hc:(i!,(mB,c)):=by
  rcases h with h|h;.show ab 0 @Ó h
  .show ab 1 @Ó h
 clear hc;rw[E,λc hc hm=>?_];calc bC c hc hm ?_;let sN:@lm:=@vE;refine zv (Ô,PK,sN,J.len);ext i hi;rw[J.len]at hi;rw[EN @C];rw[É,(@ŧ)[i]'@C,@h4,by rw[(@afU)];simp[b7]];rw[e1];rw[Ū,hi];let:=@art;rw[pF J hi]at this;let hb:=Pe @pW;let o:(lK,@h4,i)=@pW:=by cases hu:(cd q i).up with|true=>rw[hu]at this;simp only[aD,ku]at this;rw[gy];omega|false=>rw[hu]at this;simp only[aD,qh,nR]at this;rw[uH];omega
 rw[o]
def akQ[Ã][ð][Ô](d:@bb)(h:@av):@afE:=by
 rw[lF,λc hc hm _=>?_];delta nX;rw[cw];calc lI.2 (ab c @ŝ ?_);calc(Bv,@Gu);rw[dc];let hs:=@art;rw[cu];let e:=pF J W;let e2:=@M1;rw[p2]at e e2;rw[e]at hs;let o:@rZ=(yJ,@eh,@sG):=by rw[e2];let hb:(@sG=@o)↔@pA%2=0:=gy;cases hu:(cd q (placeOf q no)).up with|true=>rw[hu]at hs;simp only[aD,ku]at hs;symm;rw[gy];split;rw[cs,<-cs]|false=>rw[hu]at hs;simp only[aD,qh,nR]at hs;symm;rw[uH];split;rw[cs,<-cs]
 exact@awh∈_;rw[o];apply(ý,@sG,by cases(placeOf q no%2==0)<;>simp)
def akR[ê][Ŧ][aJ]:@Ď/\(i!,@anV):=by
 delta nX at hp;rw[H.len,(@dD)]at hp;rw[ŕ,hp,λc O hp=>?_];let{g1,g2}:=PF (by ext a u hu;rw[À,hu,λe _ bf=>?_];subst bf;rfl) m p hp;let G:@Ď:=⟨g1⟩;rw[gq];calc fH G c (by simp at O;omega) @Gu;rw[dc,<-cu];let fo:@wq<@ĺ:=@ao9;let e2:=@M1;rw[p2,EN fo]at e2;rw[EN fo]at p2;let p3:o[@wq]=no:=p2;let I:=Vh o 0 hc @wq no (u,cJ fo,p3) db;rw[oE]at I;rw[æ,I,<-x,akH G db,@Q2];subst bu;let ny:=g2 u hu;rw[À,ny,λe _ f=>?_];rw[Py G hm hu,e2];rw[(nB,hu)]at I;let g:u.2.1=e:=by rw[<-f]
 let b:u.2.2=(lK,u.1,(lQ,e)):=by conv=>lhs;rw[<-f]
 rw[b,<-g,I];dsimp only;rw[p3];generalize placeOf @aO u.1=pl;rcases Ea pl with z|z;rw[mX,<-mX]
def PL:∀(k:Nat)(l:@h),@Ã<=k->l.eraseDups.Nodup|0,l,h=>by rw[ab,l,@e];subst this;simp|k+1,[],_=>@A|k+1,a::l,h=>by rw[List.eraseDups_cons,pd];let hl:(l.filter λb=>! b==a).length<=k:=(bs,@Ÿ);rw[Á,@n',PL k _ hl];rw[J6,jk]at z;simp at z
def ayH:∀(l:@h)(h:0<@Ã),l[0]=l.headD 0:=by ext z_;cases z_ with|nil=>ext h;show@wP|cons a l M=>rw[ġ]
def akS[ê][à][o]:uI r o i=iY r o (Ő,o.headD 0,i):=by delta uI iY;dsimp only;rw[cw,<-Î];ext x _;(rewrite[qf];with_reducible try rfl)
def ayI[a4][de](hx:@pX):@Bp:=by
 rw[l5,<-lS];delta vV;dsimp only;rw[Œ,<-gM,<-li];rw[(@bW)];rw[op,<-gN,<-o2,(GQ,hc)];let D:∀p,@lr->∀o:@h,@bd->@p!->(i!,(b!,@aO)):=by ext p hp o N hc;calc f7 @M4 @u3;calc q_ (Ig,a) (λ_ c dB A=>?_);rw[â,c,dB];rw[<-b];show(AR x λk hk=>A k @ajl).symm
 by_cases hl:@IE;.rw[aj hl];left;rw[iH];cases hh:nV q x with|true=>rfl|false=>let:=t q J hc hh;let hz:l=[]:=@gz;rw[aA];simp at this
 .rw[ag hl,aj hn];rw[lP];let w:(rs,0,@ô):=by ext p hp;calc f7 @M4 @Q4;rw[æ,c];delta nX at a;rw[H.len,(@dD)]at a;rw[ŕ,a,λc' _ a=>?_];show⟨(PF (by ext a u hu;rw[À,hu,λe _ aW=>?_];subst aW;rfl) m p a).1⟩
  calc r8 (pc,w,aQ) @Gv;rw[gO,<-bJ,M];let{fo,G}:=@N3;rw[x,D p fo y.1 o1 G,λc hc Bu=>?_];let B:=akS H hn y.1;generalize C:b5 r @Q5=j at B;let dQ:0<y.1.length:=(Ç,o1.length_eq,iR,h0);let top:∀i,i<2->(mh,@pZ)=i:=by
   ext i hi;rw[B i];let b_:0<(iY r y.1 @ayd).length:=(d,PK,dQ);let e:(mh,@agF)=aD (cd @agF 0).up:=by delta gZ;cases U:iY r y.1 ((j+i)%2)with|nil=>rw[U]at b_;simp at b_|cons a b=>rfl
   rw[e,EN dQ];let e3:y.1[0]=@Q5:=ayH y.1 dQ;dsimp only;rw[akO,e3,C];simp+arith[*]
  let s:∀q',@Cm->@Cq->@uT=y.1->∃i,i<2/\q'=@pZ:=by ext q' J h N;rw[lF,λc' rJ _ e=>?_];rw[N]at e;calc ab ((c'+j)%2) @kd ?_;rw[B];rw[e];congr 1;show zph @bZ
  let f:∀i,aJ n @pZ/\(aj,@pZ)/\b7 @pZ=y.1:=by ext i;rw[B i];show aM (Hx o1 _) (akP H hn o1 @kd) (Vl _ _ _)
  let E:∀(a b:Row),@b3=n->@IR->(mh,a)=0->(mh,b)=1->j0 (gZ a) (gZ b):=by ext a b ha hb h1 h2;delta gZ at*;cases a with|nil=>simp at ha;simp_all|cons u a=>cases b with|nil=>simp at hb;simp_all|cons v b=>rw[ĸ,by simp at h1 h2;exact aD u.up<aD v.up;simp[*]]
  right;exact∃q,(ň,[@abj,@KV].find? λq=>!@C!,q,_);cases FN:nV (uI r y.1 0) x with
  |false=>calc oN @abj (by simp[rT,FN]) ((f 0).1) ((f 0).2.1) FN @Q6;rw[æ,@Ź,<-oj,0];.rw[(f 0).2.2]at e;rw[x,s q' J h @bi,@Q7,<-Ś,i,i];rcases this with z|z;rw[mI];.subst z;show E _ _ (f 0).1.len J.len (top 0 @Ó) (d,eq,top 1 @Ó)
  |true=>
   let um:(b!,@KV):=by
    let hi:@LN=0\/@LN=1:=@e;let O:iY r y.1 c=(jX,@LN):=by rw[B];congr 1;show zph @bZ
    rw[O]at Bu;rcases hi with z|z;.rw[z,FN]at Bu;cases Bu
    .rw[z]at Bu;show Bu
   calc oN @KV (by simp[rT,FN,um]) ((f 1).1) ((f 1).2.1) um @Q6;rw[æ,@Ź,<-oj,1]
   .rw[(f 1).2.2]at e;rw[x,s q' J h @bi,@Q7,<-Ś,i,i];rcases this with z|z;.subst z;rw[eq,FN]at hh;cases hh
    rw[mI]
def  Sd[Ć]:(Å,@h,@Ō)|[],[]=>True|x::o,b::s=>@ze=@o/\@qo|_,_=>False
def  mS(s:@Ō):@h:=s.map aD
def  KW[ß](want:Nat)[à][Ĳ][bo]:@v:=@BE=@o\/(nR,@m7)
def akT[y]:(i6,@qo->(A,@BE)->@oT=@m7)
 |[],[],_,_=>rfl
 |[],_::_,h,_=>h.elim
 |_::_,[],h,_=>h.elim
 |x::o,b::s,h,ha=>by
  rw[B3,AE]at ha;let ih:=akT o s h.2 ha.2;let hx:@W8:=(fs,ha.1);let hb:@ef=b:=by let:=h.1;rw[hx]at this;simpa using this
  exact@ĸ+@oT=_;rw[mi,hb,ih];induction b<;>simp[aD];omega
def akU[Ô]{want:Nat}:∀(o:@h)(t:Nat)(l:@dC),@dz->(∀p∈l,(Mk,t))->(∃p∈l,Sd m p o @z9/\(nR,(mS @z9).sum))/\∀p∈l,∀s',Sd m p o s'->(nR,@avl)->j0 (mS @z9) (mS s')
 |[],t,l,aQ,hc=>by
  rw[bJ,aQ,<-Á,bC p hp gA ?_,λ_ _ _ _ _=>gA];rcases hc p hp with h|h;.simp at h
  .show h
 |x::o,t,l,aQ,hc=>by
  let hw:∀b p,p∈@yz↔@lr/\@ze=@o/\@ahs:=by ext b p;rw[jk,eZ,pk (o.any _)];delta KW;rw[gy]
  let a:(wO,@ze=@o/\@ahs):=by
   ext p hp;cases hx:m.contains x with
   |true=>
    rw[â,@ef,@A];cases N:o.any λy=>!m.contains y with
    |true=>rw[ĸ,N]
    |false=>
     right;rcases hc p hp with h|h;.rw[B3,N,hx]at h;simp at h
     .rw[mi]at h;cases hu:dj p x with|true=>rw[hu]at h;simp only[ku,eE]at h;rw[kP];omega|false=>rw[hu]at h;simp only[qh,nR]at h;rw[oa];simp[*]
   |false=>
    cases N:o.any λy=>!m.contains y with
    |true=>show(Ñ,@Å,@Qx)
    |false=>
     rcases Ea (t+(o.filter λy=>dj p y).length+want)with z|z;.show(tF,@Å,by rw[oa];simp[*])
     .show(tF,@o,by rw[kP];omega)
  let c:(wO,p∈@yz):=by ext p hp;rw[x,a p hp,λb h1 h2=>?_];show{b,(hw b p).2 (aM hp h1 h2)}
  let lg:∀p∈l,∀b s',Sd m p @Yh @Ku->(nR,(mS @Ku).sum)->p∈@yz:=by ext p hp b s' hs ht;calc(hw b p).2 (Ø,hp,hs.1);cases N:o.any λy=>!m.contains y with|true=>rw[ĸ,N]|false=>right;let:=akT o s' hs.2 N;rw[pY,@Ku,@ĸ];rw[e,this]at ht;omega
  let f:N7 m @b5 @Yh t l=@qX::N7 m @b5 o (t+aD @qX) (Kf,@qX,aD @qX):=rfl;rw[f];generalize hb:@qX=b;let k:@yz≠[]:=by cases b with|false=>ext z;rw[z]at hb;simp at hb|true=>ext z;rw[bJ,aQ];let{G,ip}:=c p hp;cases G with|true=>rw[z]at ip;simp at ip|false=>let hz:=GB.1 hb;rw[hz]at ip;simp at ip
  let{{p,hp,i1,S},O}:=(Bw,@b5,o,t+@ĸ,_,k,((hw b p).1 hp).2.2);rw[Á,bC p (((hw b p).1 hp).1) ⟨((hw b p).1 hp).2.1,i1⟩ ?_,λp hp s' hs ht=>?_];.let e:∀s,(mS (b::s)).sum=@ĸ+@oT:=λs=>@d;rw[e];let d:=S;omega
  .cases s' with
   |nil=>show hs.elim
   |cons G s'=>
    let dM:=lg p hp G s' hs ht;exact@ĸ<aD G\/(@ĸ=aD G/\j0 _ (mS s'));cases b with
    |false=>cases G with|true=>rw[ĸ,@Ó]|false=>rw[pi,@Å,@B7]
    |true=>cases G with|false=>let hz:=GB.1 hb;rw[hz]at dM;simp at dM|true=>rw[pi,@o,aD @o]
def  gO(no:Nat):@C3:=[(no,@o,@o),(no,@o,@Å),@amP,(ph,no)]
def ayJ[Ď]:(vd,gO a):=by ext u hu;simp only[gO,eJ,uJ,or_false]at hu;rcases hu with h|h|h|h<;>rw[h]
def akV[Ď][bp]:(a,e,u)∈gO a:=by induction e<;>induction u<;>simp[gO]
def KY:∀q:Row,(q.filter mj).length=@k7:=by ext z_;cases z_ with|nil=>rw[Ø]|cons c q M=>rw[a5,M];cases c.up<;>simp[aD];omega
def KZ[Ş][y]:@fN↔@YF/\(@ń<n\/(@Gw+@bE)%2=0):=by delta nX;rw[H.len,ag hn,jk,pk,cG,gy,KY];show Go
def akW[dt](hl:@J_):m.Perm @ô:=O7 hm (λc hc=>kN.2 @afW) (d,iR,hl)
def akX[Ã](hn:@eo)[dt](h:@av):@afE:=by
 rw[(@N5)];rw[Ì,(Bv,λno _=>@apR)];rcases ft m.length n with z|z;rw[Ä,z]
 .right;let hp:=akW hm d z;let e:((lR q m).filter @avg).length=@k7:=by delta lR;rw[J7,aw,O9];let e2:=(hp.map λno=>aD @rZ).sum_nat;let e3:=(sI,J);rw[<-e3,<-e2];rfl
  rw[e];rw[(@MC),cG]at h;omega
def Vn[y](h:@YF):@Ď:=⟨(PF ayJ m p h).1⟩
def akY[dt](hl:@J_)[ax][ô]:@m7=@Gw:=by
 let hp:=akW hm d hl;rw[((N.trans hp.symm).filter _).length_eq];conv=>lhs;rw[<-G.names]
 rw[J7,aw];congr 1;refine TW;ext x hx;show Py G hm hx
def ayK[Ş][Ŧ][ô]:KW m @u4 o 0 p:=by
 rw[(@N5)]at hp;rcases hp.2 with z|z;.left;cases ha:o.any λy=>!m.contains y with|true=>rfl|false=>exfalso;rw[ok,<-gk];let:=@k5;rw[jo];omega(config:={})
 .rcases ft m.length n with y|y;.left;cases ha:o.any λy=>!m.contains y with|true=>rfl|false=>exfalso;rw[ok,<-gk];let:=@k5;rw[jo];omega
  .right;rw[akY hm d y (Vn hp.1) N,KY,oE];show z
def akZ[y]:(i6,@qo->@ĺ=@aB)|[],[],_=>rfl|[],_::_,h=>h.elim|_::_,[],h=>h.elim|_::o,_::s,h=>by simp[akZ o s h.2]
def ak0[y]:(i6,@qo->@ar8)|[],[],_,j,x,b,h,_,_=>@ù|[],_::_,h,_,_,_,_,_,_=>h.elim|_::_,[],h,_,_,_,_,_,_=>h.elim|y::o,c::s,h,j,x,b,h1,h2,hm=>by cases j with|zero=>cases h1;cases h2;let:=h.1;rw[(@Go)]at this;simpa using this|succ j=>show ak0 o s h.2 j x b h1 h2 hm
def ak1[y]:(i6,@xN->@ar8->@qo)|[],[],_,_=>gA|[],_::_,h,_=>@ù|_::_,[],h,_=>@ù|x::o,b::s,hl,h=>by rw[æ,ak1 o s @gz λj y c h1 h2 hm=>h @Ö y c h1 h2 hm];cases hx:m.contains x with|false=>rfl|true=>let:=h 0 x b @d @d @P1;rw[Ã];simp
def  wo[à](s:@Ō):Row:=@ag7
def ak2:(i6,@ĺ=@aB->@ai2=o/\@apS=s)|[],[],_=>@Ű|[],_::_,h=>@ù|_::_,[],h=>@ù|x::o,b::s,h=>by let{a,c}:=ak2 o s @Ÿ;show{(af,x::@ai2,a),(af,b::@apS,c)}
def ak3{D:Row}{s:@Ō}[f](J:@IM)(B:b7 D=o)(es:D.map mj=s)(b1:1<=k)(b2:@Ŋ):(Æ,o,@x?,k)/\(Æ,s,@x?,eQ D k):=by
 rw[cu];let v:=@M1;rw[p2]at v;subst B es;let hl:@x?<D.length:=(mD,W);constructor;.delta b7;rw[bB,qZ hl];exact some (cd D @x?).no=_;rw[p2]
 rw[ä,bB,qZ hl,v]
def PM[ó]:mS @Gt=@hP:=by delta mS gZ;rw[b6];rfl
def ayL[a4][Î](hn:@eo)(hx:@pX):@Bp:=by
 rw[l5,<-lS];delta vV;dsimp only;rw[Œ,<-gM,<-li];rw[(@bW)];rw[op,<-gN,<-o2,(HM,hc)];by_cases hl:@IE;.rw[aj hl];left;rw[iH];cases hh:nV q x with|true=>rfl|false=>let:=t q J hc hh;let hz:l=[]:=@gz;rw[aA];simp at this
 .rw[ag hl,ag hn];rw[lP];let w:(rs,0,@ô):=by ext p hp;calc f7 @M4 @Q4;show{Vn ((KZ H hn).1 a).1,c}
  calc r8 (pc,w,aQ) @Gv;rw[gO];let{{p,hp,s1,s2},s3}:=(Bw,@u4,y.1,0,y.2,M,ayK H hn hm d ((g p).1 ((o2 p).1 hp).1).1 o1);generalize N7 m @u4 y.1 0 y.2=s at s1 s2 s3;let{fo,G}:=@N3;calc f7 ((g p).1 fo) (λpa u _=>?_);let gc:=akZ _ _ s1;let{B,es}:=ak2 y.1 s gc;let J:aJ n @iO:=(n',by let:=(Ř,B);rw[o1.length_eq,iR]at this;simpa[b7]using this,@iO,B,o1);let kY:(aj,@iO):=by
   rw[(@MC),cG];let e:((wo y.1 s).map @fi).sum=@oT:=by let:=PM @iO;rw[es]at this;delta gZ at this;rw[Ĕ]
   rw[e,<-KY];show(zq2 (by rw[<-oE @oT];assumption)).symm
  let Bu:(b!,@iO):=by
   rw[<-u];calc(AR x @FQ).symm;let i:=@ajl;let{b1,b2}:=d k i;let{N,hs}:=ak3 J B es b1 b2;rw[Ì,?_];.show ak0 _ _ s1 _ _ _ N hs i
   .let:=Vh y.1 0 G _ _ N i;rw[ê,oE]
  right;calc oN @iO @d J kY Bu (λq' h rJ S=>{?_,@Ź});rw[Â,B,o4 _ _ (EM h) @ar7 @acm]
  .rw[B]at e;let dM:@Et∈y.2:=(o2 _).2 {@ar7,(ŋ,@acm)};let v:Sd m @Et y.1 @u2:=by rw[e];calc ak1 _ _ @WF λj z b h1 h2 hz=>?_;calc f7 (Vi h h1) (λo I A=>?_);rw[PJ hm hz];let a:=zn h o;rw[I]at a;rw[a];rw[bB,qZ (d,h.len,o)]at h2;show cM h2
   let f:(0+(mS @u2).sum+@u4)%2=0:=by rw[tL H h @Ä,cG]at rJ;rw[PM,KY];delta gZ;omega
   let:=s3 _ dM _ v f;rw[PM]at this;rw[<-PM @iO,es];show this
def Vp[a4][Ő](hx:@pX):@Bp:=(yy,ayI H h0 hn hx,ayL H hn hx)
def  lQ:@h->@h->@h|[],_=>[]|c::cs,l=>@Kf::lQ cs @k9
def  g8[o][ĳ]:@h:=(ia,λj=>(i/fk j)%@Ö)
def ak4:∀(m:Nat)(l:@h)(i:Nat),@Ã=m->av1 m l (i%@ej)=lQ @ajm l:=by ext z_;cases z_ with|zero=>ext l i _;show@d|succ m M=>ext l i h;let hc:@asy:=@an4;let hf:@CR=@ej*@ü:=(af,@ait,B0);let hk:@Kb/@ej=@oD:=(u,hf,Nat.mod_mul_right_div_self);let hr:@Kb%@ej=i%@ej:=Nat.mod_mod_of_dvd _ {@ü,hf};let bK:(aF,@oD):=(d,h,fJ _ @C);rw[hc,aWZ];exact av1 @ü l @Kb=(eB,@oD)::lQ @ajm (l.eraseIdx @oD);delta av1;rw[(Ā,@j!,m),hk];dsimp only;rw[(@k0)];dsimp only;rw[hr,M _ i (by rw[aiI,aj bK];simp[*]),eY,(@k0)];rfl
def ak5:∀(l:@h)(c:Nat)(h:@wO),l.Perm (l[c]::@k9)|[],c,h=>@wP|a::l,0,_=>@u5|a::l,c+1,h=>by let hc:@wO:=@Ÿ;let ih:=ak5 l c hc;exact(a::l).Perm (l[c]::a::@k9);show(ih.cons a).trans (.swap _ _ _)
def ayM:∀(cs l:@h),@Ţ=@Ã->(∀j c,(Ë,cs,c)->(aF,c+j))->(lQ cs l).Perm l:=by ext z_;cases z_ with|nil=>ext l h _;rw[ab,l,by simpa using h.symm];subst this;show@á|cons c cs M=>ext l h hc;let h0:=hc 0 c @d;let bK:@wO:=@Ä;let hl:(l.eraseIdx c).length=@j!:=(u,aiI,aj bK);let ih:=M @k9 (by rw[hl];simp at h;omega) (λj d hd=>(Ŀ,hc @Ö d hd));exact(@Kf::lQ cs @k9).Perm l;calc(ih.cons _).trans ?_;rw[eY,(@k0)];show(ak5 l c bK).symm
def Vq(i n:Nat):(lQ (gI,i) @ô).Perm @ô:=by
 calc ayM _ _ (by simp[g8,iR]) ?_;ext j c h;rw[iR];let hj:j<n:=by let:=(gL.1 h).1;simpa[g8]using this
 rw[jb];simp only[g8,aw,nI,bB]at h;rw[(@F7)]at h;simp at h;rw[kJ];omega
def  ie(o s:@h):Row:=(lj,s,x.2==1)
def  AS[ei](p s:Nat):@h:=let l:=@QN;(kQ,(z+(@Kg+s)%2)%2)
def  mT[x][ï](p:Nat):@h:=l.set p ((@bE+(l.take p).sum+(l.drop @ģ).sum)%2)
def  qt(m i:Nat):@h:=((bP m).map @Nn).reverse
def ayN{β:@è}(f:(eH,β)):∀(o:@h)(k:Nat),o.zip (Bx,@ajo)=(Bx,(x.1,@ajo)):=by ext z_;cases z_ with|nil=>rw[ġ]|cons a o M=>ext k;rw[avX,cT,cT,TU,M @û]
def ak6[H]{p s:Nat}(hp:@acL):ie o (AS r o p s)=iY r o @arz:=by
 delta ie AS iY;dsimp only;let e:@apT=@au9:=by rw[eY,bB,aW0,cJ hp,eY,cJ hp];simp
 rw[e,b6];let e2:((λz=>(rX,z))∘(vb,@BO))=(vb,(λa b=>@aoG) x.1 x.2):=rfl;rw[e2,ayN (λa b=>@aoG) o 0,b6];rw[Î];ext x _;simp only[Gs];congr 1;let:(rX,@BO)=(b5 r x.1+@arz+x.2)%2:=by simp+arith[*]
 rw[Ã]
def ayO{m i:Nat}:qt m i=(ia,λj=>(i/2^(m-1-j))%2):=by
 delta qt;refine TH;ext j;by_cases hj:j<m;.rw[Gu @pc,bB,bB,Ay hj,Ay (by simp;omega(config:={}))];simp
 .rw[qg @cX,qg @cX]
def ayP(m i:Nat):sidesAt m i=(qt m i).map @FN:=(Ê,ayO,b6)
def ayQ:(aT,(∀z∈l,z<2)->((l.map @FN).filter λb=>b).length=l.sum):=by ext z_;cases z_ with|nil=>rw[ġ]|cons z l M=>ext h;rw[ũ,@Ae];let hz:=h z @A;rw[cT,mi,jB,<-ih];rw[Ś,z,z];rcases this with e|e;rw[b9];.subst e;simp;omega
def ayR[x][ï]:mT r (l++[0]) @Ã=l++[(@bE+l.sum)%2]:=by delta mT;rw[List.take_left,yP @A];simp
def ayS[c?][ð][e](hi:i<@eJ):nth r i=ie (f?,@cj) (AS r (f?,@cj) 0 (i%2)):=by let hp:=Vq @cj n;rw[de,@cj,@adM];delta nth;let hs:@ı=2:=KD hn;let hd:@cj%fk n=@cj:=iN (by delta xt at hi;rw[hs]at hi;omega);rw[nx,@cj,<-bK];rw[H.len,hs,(@bW),N,akS H hn,ak6 @C];congr 1;rw[D_];cases e:lQ (g8 (i/2) n).reverse (bQ n)with|nil=>rw[e]at b_;simp at b_;simp_all|cons a l=>rfl
def ayT[Ş][e](hi:i<@eJ):nth r i=ie (f?,@dP) (mT r @Nb @Û):=by
 let hp:=Vq @dP n;rw[de,@dP,@adM];let D:0<@ı:=(d,Pa hn,av2 @Ó);delta nth;let hd:@dP%fk n=@dP:=iN (by delta xt at hi;show aiE hi);rw[nx,@dP,<-bK];rw[H.len,(@bW),N];delta uI;rw[H.len,ag hn];dsimp only;let hl:@ajp=@Û:=@WH;let fB:=ayR r @Cz;rw[hl]at fB;rw[fB,ayP,ayQ _ (by ext z hz;delta qt at hz;rw[Ef]at hz;rw[À,hz,λj _ aW=>?_];subst aW;show@kd),KY];delta ie;let key:∀(o l:@h)(b:Bool)(c:Nat),b=(c==1)->(lj,@aqU,x.2)=(lj,l++[c],x.2==1):=by ext o l b c hb;let:@aqU=(l++[c]).map @FN:=(Ê,bF,hb);rw[this,List.zip_map_right,b6];rfl
 show key _ _ _ _ @d
def ayU:∀(l:@h)(a:Nat),a*@KD<=l.foldl (λn d=>(l0,n)) a:=by ext z_;cases z_ with|nil=>ext a;show@A|cons d l M=>ext a;rw[ũ,(l0,a)];rw[BX,eE,Gq];calc dw ?_ ih;rw[B0 @KD 10,<-NX,B0 a 10];show@adx
def ayV(hd:@Q_=@o)(h0:t.head?≠some 48)(hl:(ei,100)):@kT<=yY t:=by
 cases t with
 |nil=>simp at hl
 |cons d l=>
  let h1:@KL:=λe=>h0 @h0;let h2:Ek d=@o:=by rw[J8,eZ]at hd;show hd.1
  let h3:48<=d:=by delta Ek at h2;let:=cF h2;simp[*]
  delta yY;rw[BX];calc dw ?_ (ayU l _);let h4:1<=@ad5:=@e;let h5:@kT<=@KD:=aiJ @Ó @I3;show dw h5 (aW1 _ h4)
def Vr:(EV,@ï):=by let:(EV,n<53):=@ø;show λn h=>this n @lg
def  AU(t:As):@Ù:=! t.isEmpty&&@Q_&&@z7
def ayW[ů](t:As):aW2 @eJ t=(Š,AU t=@o/\yY t<@eJ,yY t):=by
 delta aW2 AU;cases t with
 |nil=>simp
 |cons d l=>
  let e1:(A,@ajq):=rfl;let e2:(d::l).head?=some d:=rfl;let e3:@ar9=d:=rfl;by_cases hd:@Al=@o
  .by_cases h1:d=48/\1<@xT
   .rw[aj (Ĕ,(as,(u,e2,h1.1),h1.2)),ag];rintro⟨h,_⟩;rw[hd,e1,e3,h1.1]at h;let:¬(48::l).length=1:=by let:=h1.2;ext z;rw[eE]at z this;simp_all
    simp at h this;show this h
   .by_cases h2:100<@xT;.rw[aj (Ĕ,@Qu),ag];rintro⟨_,h⟩;let:=ayV hd (by rw[e2];ext z;injection z with z;show h1 {z,@cL}) h2;let:=Vr n hn;omega
    .rw[ag (by
      rintro(h|h|h|h);rw[ò,<-ī,hd];.show h2 h
      .show h1 {by rw[e2]at h;injection h.1,h.2})];let h3:(Ģ,!@ajq&&@Al,(KG,@xT,@ar9≠48)):=by rw[hd,e1,e3];by_cases h4:@xT=1;rw[Ě,bN h4];.let:@KL:=λz=>h1 {z,by rw[eE]at h4⊢;omega};rw[bN this];simp
     by_cases h5:yY (d::l)<@eJ;.rw[ÿ,h5,⟨h3,h5⟩]
     .rw[ag h5,(ģ,h5 z.2)]
  .let U:(A,@Al):=jA.2 hd;rw[aj (l8,U),ag];rintro⟨h,_⟩;rw[U]at h;simp at h
inductive Wt where|par|orW|andW|notW deriving DecidableEq
def  gD:Wt->Nat|.par=>0|.orW=>1|.andW=>2|.notW=>3
inductive Cs where|claim[cG]|op(w:Wt)deriving DecidableEq
inductive CW where|claim|card[cG]|joint deriving DecidableEq
structure Cm where
 steps:@Č
 want:CW
 wait:@Ĕ
def  settle[õ]:@Č->@Ĕ->@ah'|S,[]=>(S,[])|S,w::W=>(Be,b<=gD w,w,W,(S,w::W))
def  Co(w:Wt):@Ù:=decide (w=@d2\/w=@Ņ)
def  kP[ĵ]:Nat:=(W.filter Co).length
def  lg[r]:Nat:=(P,k,2,2,1)
def  rb[İ][Ķ][ö][A]:@uV:=(pq,@mT,(P,@oi,@bP,some {@gV++[(eD,@ZV)],@d3,@c0},(r2,(g8,@ZV))))
def  mn[ö](w:As):@uV:=(ax,w,fu "not",(P,@Q!,tu,@u,some (Ž,@gV,@d2::@c0)),w,fu "up",(zW,0),(uI,"even",(zW,1),"like",(r2,@Mf)))
def  wq[ö](w:As):@uV:=(uI,"and",some (Ž,(JI,2),.andW::(KO,2)),"or",some (Ž,@tc,.orW::@Nw))
def  kf[c][ö][ñ]:@uV:=match m.want,t with|.card k cs,.num c=>rb n k cs m c|.claim,.word w=>mn m w|.claim,.sign c=>(Š,c=40/\@Q!≠tu,(Ž,@gV,@Ņ::@c0))|.joint,.word w=>wq m w|.joint,.sign c=>(Š,c=41/\(j2,@c0),{@tc,@d3,(settle 1 @gV @c0).2.tail})|_,_=>none
def  pG[c]:(eJ,Cm,gK,Cm)|m,[]=>@oL|m,x::l=>(E3,λm'=>pG n m' l)
def Hy[u]:∀{l1 l2:gK}{m m':Cm},(nF,l1)->pG n m @eq=pG n m' l2|[],_,_,_,h=>@pm|x::l1,l2,m,m',h=>by exact(E3,_)=_;cases e:kf n m x.1 with|none=>rw[cf,pG]|some m1=>rw[pG,e]at h;show Hy (l1:=l1) h
def zA{m m1:Cm}[ŭ](h:@arg):pG n m @eL=pG n m1 l:=(Ê,pG,h)
def  K0[ö]:@v:=@q2=@d3/\@q7∉@c0
def  mV(n e:Nat)[ö][ď](q:Nat):@v:=(u!,l=l1++@kM/\(nF,l1)/\kf n m' x.1=@u/\x.2=q,(nF,l),e,¬K0 m')
def mV.ahead{m m1:Cm}{l1:gK}{q:Nat}(h:pG n m l1=some m1)(b:@ae6):mV n e m @Z6 q:=by
 rcases b with⟨l2,x,r,m',a1,X,M,I⟩|⟨m',a1,X,M⟩;.show .inl (bO @eq x r m' @al_ (Aj,X) ⟨M,I⟩)
 rw[Ç,(AV,(Aj,a1))]
def mV.cons{m m1:Cm}[ŭ]{q:Nat}(h:@arg)(b:@ae6):mV n e m @eL q:=mV.ahead (l1:=[x]) (ic,h) b
def Vs{m:Cm}(he:¬K0 m)(hn:(Bs,kf n m x.1=@u)):mV n e m l @acW:=(Is,he,(ć,@apI))
def  EO[bq][cG]:@Ù:=(iQ,k,i @du,k,even @du,i @du==i @ki)
def  uZ[bq](s:Cs)(st:@Ō):Option @Ō:=match s,st with|.claim k cs,st=>(zh,cs)|.op .notW,b::st=>(lh,! b)|.op .andW,b::a::st=>(lh,@M2)|.op .orW,b::a::st=>(lh,@M3)|_,_=>none
def  j4[bq]:(eJ,@Č,@Ō,@Ō)|[],st=>@FT|s::r,st=>(Hr,r)
def K1[bq]:∀(a b:@Č)(st:@Ō),j4 i @Ž @b2 st=(j4 i @Ž a st).bind (By,b):=by ext z_;cases z_ with|nil=>ext b st;show@d|cons s a M=>ext b st;exact(Hr,@b2)=((uZ i @Ž s st).bind (By,a)).bind _;induction uZ i even s st with|none=>rfl|some st'=>show M b st'
def  ig:@Č->@h|[]=>[]|.claim _ cs::r=>cs++ig r|.op _::r=>ig r
def Cq:∀a b:@Č,ig @b2=ig a++ig b|[],b=>rfl|.claim k cs::a,b=>by exact cs++ig @b2=_;rw[Cq a b];simp[ig]|.op w::a,b=>Cq a b
def Vt:∀P:@Ĕ,ig @r6=[]:=by ext z_;cases z_ with|nil=>rw[Ø]|cons _ P M=>show M
def ayX:∀(S:@Č)(W:@Ĕ),@ahQ->(ul,W)=(S,W)|S,[],_=>rfl|S,w::W,h=>by delta settle;let hw:=h w @d;rw[av]
def ayY:∀(P:@Ĕ)(S:@Č)(W:@Ĕ),@Q?->(ul,@wS)=settle b @aaI W:=by ext z_;cases z_ with|nil=>ext S W _;show@A|cons p P M=>ext S W h;rw[aB,p];exact(Be,b<=gD p,p,@wS,_)=_;rw[(@cT),M _ W @Aj,gh];rfl
def Vu{P:@Ĕ}{S:@Č}{W:@Ĕ}(h:@Q?)(hW:@ahQ):(ul,@wS)=(@aaI,W):=(u,ayY P S W h,ayX _ W hW)
def  ky(u:Nat)[br]:@Ĕ:=(fF,F,(sD,.orW,.andW))
def  HA(u:Nat)(F a v:Bool):@Ù:=(V,F,(sD,a||v,a&&v),v)
def  Vv(u:Nat)[ď]:@v:=∀w p r,l=@KT->(u<=1->w≠@Ql)/\(u=0->w≠fu "or")
def  K2[c](x:AC):@v:=@pX
def ayZ(u:Nat)[br][ĵ]:kP @sF=@cE:=by
 delta ky kP;cases F;.rfl
 .by_cases h:u=0;.simp[h,Co]
  .simp[h,Co]
def Vw{S:@Č}[f]{cs:@h}{W:@Ĕ}[ď]:(eQ,∀c r,@ahv=.ok (c,r)->1<=c/\@jl/\∃p,l=(dn,.num c),@ahv,mV n e {S,(g8,cs),W} l q):=by
 delta aiK;split
 .next c p r=>
   by_cases h:@mT;.rw[aj h];rw[Á,λc' r' z=>?_,λq z=>@bt];injection z with z;injection z with z1 z2;subst z1 z2;show HD h.1 h.2 p @d
   .rw[ag h];calc(tl,@Ra);cases z;calc@w_;rw[ã,rb n k cs _ c];delta rb;rw[ag h]
 .next db=>rw[cn,@Ra];cases z;calc(z!,@awI);subst hx;let{t,p}:=x;cases t with|num c=>rw[ö,db c p r]|word w=>rfl|sign c=>rfl|wrong=>rfl
def  PN(n u:Nat)[br](S:@Č)[ĵ][ď](x:AC)(l2:gK):@v:=K2 n x/\Vv u l2/\∃l1 E P,l=@eq/\l1≠[]/\pG n @Ms l1=some (ux,@wS)/\(∀w∈P,@ah7)/\(Bz,@p1,@awe)/\(dH,ig E)
def  CR(n e u:Nat)(S:@Č)[ĵ][br][ď](r:av3):@v:=(eQ,∀x l2,(IJ,r,x,x),r,mV n e @Ms l q)
def ak7{n e:Nat}:∀(f u d:Nat)(l:gK)(S:@Č)(W:@Ĕ)(F:Bool),u<=2->4*@Ã+(2-u)<f->d+@cE=tu->(u=2->(A,F))->(u<=1->(vX,@kJ))->CR n e u S W F l (HN,f)
 |0,u,d,l,S,W,F,_,hf,_,_,_=>@Ä
 |f+1,u,d,l,S,W,F,MG,hf,hd,hF,hW=>by
  let A:=λ(Q d':Nat)(l':gK)(S':List Cs)(T:List Wt)(F':Bool)h1 h2 h3 h4 h5=>ak7 (n:=n) (e:=e) f Q d' l' S' T F' h1 h2 h3 h4 h5;generalize hG:(HN,@bJ)=G;delta av4 at hG;subst hG;by_cases h1:u<=1
  .rw[Ŗ];let O:=A @kJ d l S @sF @Å @C @e (d,ayZ,hd) @ę (λh2 w hw=>by let h0:u=0:=@e;subst h0;delta ky at hw;cases F with|true=>simp at hw;subst hw;decide|false=>simp at hw;let:=hW @C w hw;omega);rw[eS,ky @kJ @Å];delta CR PN at O;rw[ep,GF]at O;split;rw[ek,@ai7]
   .next x hx=>
     rw[ft,@apJ];let zZ:∀i even st,(so,@p1,st,@MG):=λi even st=>(n4,st);let X:∀w∈@rG,@ah7:=by
      ext w hw;delta ky at hw;cases F with
      |true=>
       simp at hw;subst hw;rw[œ];.rw[(@eQ),h0];decide
       .rw[ag h0];exact@kJ<=2;simp[*]
      |false=>simp at hw
     let J:∀i even st a v,(so,(ky u F).map .op,v::@OP,(si,v)):=by
      ext i even st a v;delta ky HA;cases F with
      |true=>
       rw[œ];.simp[h0,j4,uZ]
       .simp[h0,j4,uZ]
      |false=>simp[j4]
     let K:(Bz,@Di,@MG):=by ext i even st a;rw[bF,<-gh,K1,zZ];show J i @Ž st a _
     let plain:∀(vB:Vv u x.2),(∀y l2,(IJ,(a1b x:av3),y,y)):=by ext vB y l2 z;injection z with z;let z1:x.1=y:=dS avS z;let z2:x.2=l2:=dS Prod.snd z;subst z1 z2;calc u_ hR vB l1 E (P++@rG) e1 (dI B (hP,gh) @uX K e5);rcases bX.1 hw with h|h;rw[ā,e3 w h];.show X w h
     split
     .next w p r fV=>
       by_cases hw:w=(sD,fu "or",@Ql)
       .rw[aj hw];let ug:(aF,r.length):=by rw[fA];rw[fV]at this;let ym:0<l1.length:=BY.2 B;simp at this;omega
        let o:settle @kJ @n5 @afM=(@n5++@auG,W):=(K,gh,Vu (λw hw=>by rcases bX.1 hw with h|h;rw[ā,e3 w h];.show X w h) (hW h1));let R:(gK,(ux,@afM),@er,@amV):=by
         exact wq _ w=_;delta wq;rw[œ];.subst h0;rw[(@Þ)]at hw;rw[ag (ko,hw),aj hw];dsimp only;rw[o,<-gh];rfl
         .let m:u=1:=@e;subst m;rw[(@ag)]at hw;rw[aj hw];dsimp only;rw[o,<-gh];rfl
        let I2:=A u d r @axJ W @o MG @e hd @uK hW;let Bs:pG n @Ms @z2=some @amV:=(d,Hy e2,(ic,R));let N:l=@z2++r:=@agE;split;.next q U=>rw[an,@hw];cases z;rw[N];show mV.ahead Bs @ai8
        .next y hy=>
          rw[aS,λz l2 h=>?_];calc Cr @apK (λD V j E2 P2 g1=>jF λng1 g2 g3 g4 g5=>?_);injection h with h;injection h with ha hb;subst ha hb;calc u_ ?_ V (@z2++j) (@Di++E2) P2 ?_ (KJ,g3);.ext c hc;rw[œ,<-n5,@eQ,<-n5,@cS]
          .rw[N,g1];simp
          .rw[Hy Bs,g2];congr 2;simp[gh]
          .ext i even st a;rw[gh,gh,<-gh E,K1,K];exact j4 i @Ž (E2++P2.map .op) _=_;let:=g4 i @Ž st (si,@MG);rw[(@Þ)]at this;rw[Ã];delta HA;rw[œ];.rw[(@eQ),(@eQ),(@eQ)];induction F<;>simp[ir,h0,Bool.or_assoc]
           .rw[(@cS),(@cS),(@cS)];induction F<;>simp[ir,h0,Bool.and_assoc]
          .ext c;rw[Cq,Cq,Vt,iO,bX,e5 c,g5 c];rw[œ,<-ó,h0,bX.symm,<-ą,h0,bX.symm]
       .rw[ag hw];rw[iP];ext w' p' r' hz;rw[fV]at hz;injection hz with hz _;injection hz with hz _;injection hz with hz;subst hz;let hs:=fB w p r fV;rw[œ];.rw[(@eQ)]at hw;show{λ_=>hs.1 @C,λ_=>hw}
        .rw[(@cS)]at hw;show{λ_=>hw,(rp,h0)}
     .next db=>rw[iP];ext w' p' r' hz;show absurd hz (db w' p' r')
  .rw[ag h1];let h2:u=2:=@e;let hF0:=hF h2;subst h2 hF0;rw[eS,@adz];skip;let H:∀l2,Vv 2 l2:=λl2 w p r _=>{@uK,@uK};split
   .next w p r=>
     let ug:@WY=(@KT:gK).length:=rfl;by_cases w1:w=fu "not"
     .rw[aj w1];by_cases d0:d=0;.rw[aj d0];calc(tl,@hw);cases z;calc@w_;rw[ã,@lY];delta mn;rw[ÿ,w1,by exact@cE=tu;omega]
      .rw[ag d0];let b:kP @acP=@cE+1:=by simp[kP,Co]
       let I:=A 2 (d-1) r S @acP @Å @C @XI (Ú,b) @ę @uK;let R:(nr,@er,(Ž,S,@adz++@d2::W)):=by exact@lY=_;delta mn;rw[aj w1,ag (ht,¬@cE=tu)];rfl
       split;rw[it]
       .next x hx=>
         rw[aS,@Gz];calc Cr @Ah (λhR _ l1 E P e1=>@avn);injection z with z;injection z with za zb;subst za zb;calc u_ hR (H _) ((@er,p)::l1) E (P++[@d2]) @X3 (dI @A ?_ ?_ ?_ e5);rw[ä,zA R,e2,gh]
         .ext v hv;rcases bX.1 hv with h|h;.show e3 v h
          .rw[dt.1 h];decide
         .ext i even st a;rw[bF,<-gh,K1];let:=(n4,st);rw[eI];rw[(@ag),this];rfl
     .rw[ag w1];let one:∀(k:Nat)(g:Nat->AC),@bP=1->(∀i even c,EO i @Ž k [c]=(q9,g c))->(∀c,e9 (g c)=[c])->(nr,@er,{S,(g8,[]),W})->let G:av3:=(Lm,aiK n e r,.ok (g x.1,x.2));CR n e 2 S W @Å @KT G:=by
       ext k g hk hv l_ R;dsimp only;let C:=(oV,k,[],r);split;rw[k?]
       .next x hx=>
         rw[aS,@Gz];calc@ar_;injection z with z;injection z with za zb;subst za zb;let gd:(kI,(g8,[]),@uU,(m0,S++[@aat])):=by exact rb n k [] _ x.1=_;delta rb;rw[ÿ,@yj,(Q,hk)];rfl
         calc(ow,@eT,[(@er,p),(@uU,p')],[@aat],(Q,hr));.rw[l_]at hc;rw[dt.1 hc];show@yj
         rw[Ú,zA R,(ic,gd)];.ext i even st a;exact(zh,@nN)=some ((q9,g x.1)::st);rw[hv]
         .ext c;rw[l_];simp[ig]
      by_cases w2:w=fu "up";rw[ó,w2,(E6,0,.up,by exact@lY=_;delta mn;rw[ag w1,aj w2])]
      .rw[ag w2];by_cases w3:w=fu "even";rw[ó,w3,(E6,1,.even,by exact@lY=_;delta mn;rw[ag w1,ag w2,aj w3])]
       .rw[ag w3];by_cases w4:w=fu "like"
        .rw[aj w4];let R:(nr,@er,{S,@Mf,W}):=by exact@lY=_;delta mn;rw[ag w1,ag w2,ag w3,aj w4]
         let C:=(oV,2,[],r);split;rw[k?]
         .next x hx=>
           calc@ar_;let gd:(kI,@Mf,@uU,{S,@ady,W}):=by exact rb n 2 [] _ x.1=_;delta rb;rw[aj @yj,ag (c9,¬([]:@h).length+1=lg 2)];rfl
           let C2:=(oV,2,@nN,x.2);split;.next q U=>rw[an,@hw];cases z;rw[hr];show(kU,mV.cons gd (C2.2 q U))
           .next y hy=>
             rw[aS,λz' l2 z=>?_];calc ak8 (C2.1 y.1 y.2 hy) (λb1 b2 p2 M=>?_);injection z with z;injection z with za zb;subst za zb;let vC:(kI,@ady,@Qh,(m0,S++[@ajr])):=by exact rb n 2 @nN _ y.1=_;delta rb;rw[ÿ,@y1,(bD,[x.1].length+1,lg 2)];rfl
             apply(ow,@eT,[(@er,p),(@uU,p'),(@Qh,p2)],[@ajr],(Ê,hr,M))
             .let rJ:c=x.1\/c=y.1:=by simpa[e9]using hc
              rcases rJ with h|h;rw[Â,h,@yj,<-Â,h,@y1]
             rw[ä,zA R,zA gd,(ic,vC)];.ext i even st a;rfl
             .ext c;simp[ig,e9]
        .rw[ag w4];calc(tl,@hw);cases z;calc@w_;rw[ã,@lY];delta mn;rw[ag w1,ag w2,ag w3,ag w4]
   .next p r=>
     by_cases d0:d=0;.rw[aj d0];rw[cn,@hw];cases z;calc@w_;rw[Ũ,40,@acg];calc ag ?_;rintro⟨_,z⟩;show z @Ä
     .rw[ag d0];let b:kP @LF=@cE+1:=by simp[kP,Co]
      let I:=A 0 (d-1) r S @LF @Å @C @XI (Ú,b) @ę (λ_ w hw=>@aqT);let R:(nr,@cD,(Ž,S,@adA++@Ņ::W)):=by exact(LO,@acg)=_;rw[aM,@e];rfl
      split;rw[it]
      .next x hx=>
        rw[ft,@Ah];let o:settle 1 @n5 @Ns=(@n5++@r6,@LF):=Vu e3 (λw hw=>@aqT);split
        .next p2 s fV=>
          rw[aS,@Gz];injection z with z;injection z with za zb;subst za zb;let gd:(gK,(ux,@Ns),@fR,(m0,S++@p1)):=by exact(ŕ,41=41/\(j2,@Ns))=_;rw[aM,@A];dsimp only;rw[o,gh];rfl
          calc(ow,hR,(@cD,p)::(l1++[(@fR,p2)]),@p1,@agE);rw[ä,zA R,Hy e2,(ic,gd)];.ext i even st a;let:=(n4,st);rw[eI];rw[(@ag),At,iO,this];rfl
          .ext c;rw[Cq,Vt,iO,e5 c]
        .next s db=>rw[an,λy l2 z=>@bt];cases z;rw[e1];calc(kU,(wU,Vs (λz=>z.2 @A) @Rb));let{t,p3}:=y;cases t with|word w=>rw[oJ,p3,r2,hy]|sign c=>rw[fX,_];rw[ag];rintro⟨z,_⟩;subst z;show db p3 r2 hy|num k=>rfl|wrong=>rfl
   .next aJs aJt=>rw[cn,@hw];cases z;calc(z!,@Rb);subst hy;let{t,p3}:=y;cases t with|word w=>rw[ö,aJs w p3 r2]|sign c=>rw[Ũ,c,_];rw[ag];rintro⟨z,_⟩;subst z;show aJt p3 r2 @d|num k=>rfl|wrong=>rfl
def ay0(t:As):(eQ,(GI,pG n @oC @ax=some m/\K0 m/\@Nw=[]/\@ahW/\@aeU),@E!,mV n @Ú @oC @ax q):=by
 let R:=ak7 (n:=n) (e:=@Ú) (4*@awL+4) 0 tu @ax [] [] @Å @C @C (by simp[kP]) (λz=>@C) (λ_ w hw=>@WI);rw[eS,@adA++([]:@Ĕ)];delta CR PN at R;rw[ep]at R;delta TX;dsimp only;split;.next q U=>rw[an,λx z=>@bt];cases z;show@ai_
 .next x hx=>
   rw[ft,@Ai];rw[GF,iO]at e2;let f:@q7∉P:=λz=>by let:=e3 _ z;show(g7,this)
   rw[jp]
   .rw[aj h0];rw[kL];rw[hz,iO]at e1;rw[Á,λy z=>?_,λq z=>@bt];cases z;let o:settle 1 E P=(@p1,[]):=(d3,Vu (b:=1) (P:=P) (S:=E) (W:=[]) e3 (λw hw=>@WI),iO);let l_:∀y:AC,e9 y≠[]:=by ext y;cases y with|up c=>simp[e9]|even c=>simp[e9]|like c d=>simp[e9]|no a ih=>show ih|both a b ih _=>simp[e9,ih]|either a b ih _=>simp[e9,ih]
    calc ay1 hR (l_ _) _ @ac2 (Ì,f) (ø,o) @hY;.ext i even;let:=(n4,[]);rw[eI];dsimp only;rw[o,this];rfl
    .ext c;dsimp only;rw[o,Cq,Vt,iO,e5 c]
   .rw[ag h0];rw[cn,λy z=>@bt];cases z;cases fV:x.2 with|nil=>rw[fV]at h0;simp at h0|cons y r=>rw[e1,fV];calc(wU,.inl (ğ,[],y,r,@d,(ć,?_)));let{tk,p}:=y;cases tk with|word w=>rw[oJ,p,r,fV]|sign c=>rw[fX,(j2,P)];rw[ag (λz=>f z.2)]|num k=>rfl|wrong=>rfl
def  gP(no:Nat):@C3:=[(no,@o,@Å),(no,@o,@o),(ph,no),@amP]
def ay2[Ď][bp]:(a,e,u)∈gP a:=by induction e<;>induction u<;>simp[gP]
def ak9[Ď]:(vd,gP a):=by ext u hu;simp[gP]at hu;rcases hu with z|z|z|z<;>rw[z]
def  r_(cs:@dC)[A]:@dC:=cs.flatMap λp=>(gP c).map λu=>p++[u]
def  og[ß]:@dC:=m.foldl r_ [[]]
def ay3:∀(m:@h)(cs:@dC)(p:Profile),p∈m.foldl r_ cs↔∃a∈cs,∃b:Profile,p=@b2/\b.map @ê=m:=by
 ext z_;cases z_ with
 |nil=>
  ext cs p;constructor;rw[Ŕ,f6 p h ([]) @A @d]
  .apply Vx λa ha b aW hb=>?_;subst aW;let:b=[]:=by simpa using hb
   subst this;simpa using ha
 |cons c m M=>
  ext cs p;rw[BX,M];constructor;.apply Vx λa ha b bf hb=>?_;subst bf;rw[ŕ,ha,λJ pY h2=>?_,<-À,h2,@Q2];subst bu;show f6 J pY (u::b) @A (Ô,cT,ak9 c u hu,hb)
  .apply Vx λa ha b bH hb=>?_;subst bH;cases b with|nil=>simp at hb|cons u b=>rw[cT]at hb;injection hb with h1 h2;calc f6 (a++[u]) (lI.2 (ab a ha (ý,u,?_))) b @A h2;let{x,e,v}:=u;let:x=c:=h1;subst this;show ay2 _ _ _
def ay4[y]:p∈@u6↔@Ď:=by
 delta og;rw[ay3];constructor;.apply Vx λa ha b cb hb=>?_;subst cb;rw[dt.1 ha,GF];show⟨hb⟩
 rw[Ŕ,f6 ([]) @A p @d h.names]
def  oQ[x](x:@hZ):Nat:=(Ő,x.1,@aa7+aD @b4)
def  wr[x][bo]:@Ù:=(Bb,@ajv,(DB,(Ó,@a0,r.length)))
def Vy{g:@I2}:(wT,@QM=m->@apQ->y∈@Gs)
 |[],y,h,_=>by
  let:y=[]:=by simpa using h
  subst this;simp[AD]
 |a::m,[],h,_=>@ù
 |a::m,u::y,h,hg=>by rw[cT]at h;injection h with h1 h2;subst h1;exact u::y∈(oD,u.1);show lI.2 (ab u (hg u @A) (ý,y,Vy m y h2 λv hv=>hg v (í,hv)))
def ak_[G]:@ĸ<2:=@vF
def ala(s c:Nat)[bp](hc:c<2):(u=(yJ,s,e))↔(s+(aD (! e)+aD u))%2=c:=by rcases zq8 hc with rfl|rfl<;>rcases Ea s with h|h<;>induction e<;>induction u<;>simp[aD,tf,h]
def ay5[ê][y][cj]:@zs:=by
 delta wr nX;rw[H.len,(@dD),(@dD),j_];let bK:∀x,@N7<2:=λx=>@kd;constructor
 .ext h;apply lI.2 (ab @h9 ?_ (Ea,@k8))
  .let:@h9<2:=by cases p with|nil=>show Nat.zero_lt_two|cons x p=>show bK x
   let h2:@h9=0\/@h9=1:=@e;rcases h2 with z|z<;>rw[z]<;>simp
  .let:=cF (h _ (ý,u,hu));let{no,e,v}:=u;calc(a6,e,by induction e<;>simp,?_);let h2:=(ala @eh _ e v (K,this,bK _)).2 this;show(cr,(no,e,z),@i4)
 .ext h d hd;rw[ŕ,h,λc hc h=>?_];let dB:c<2:=by simp at hc;omega
  let{_,g2}:=PF (by ext a u hu;rw[À,hu,λe _ cB=>?_];subst cB;rfl) m p h;let all:∀x∈p,@N7=c:=by ext x hx;rw[À,g2 x hx,λe _ he=>?_];let{no,F,v}:=x;injection he with h1 h2;injection h2 with h3 h4;subst h3;show(ala @eh c e v dB).1 h4.symm
  rw[À,hd,λx hx cZ=>?_];subst cZ;let:@h9=c:=by cases p with|nil=>rw[ö,aQ]|cons y p=>show all y @A
  show bN (u,this,all x hx)
def ay6:(sP,@Gw=@t4):=by ext z_;cases z_ with|nil=>rw[Ø]|cons x p M=>rw[a5,M];cases x.2.2<;>simp[aD];omega
def ay7[Ş][y][Ĵ]:@zs:=by
 rw[(@N5)];delta wr;rw[m7];rw[H.len,ag hn,pk,cG,cG,fo,ay6];constructor
 .ext h;rw[Ì,(Ea,λu _=>?_)];.let{a,e,v}:=u;show@apR
  .rcases h with h|h;rw[Ä,h];.right;omega
 .rintro⟨_,h⟩;rcases h with h|h;rw[Ä,h];.right;omega
def Vz[B][y][cj]:@zs:=(yy,ay5 H hn G aQ,ay7 H hn G)
def alb[c]:(Bf,@qh,@hh):=by
 ext z_;cases z_ with
 |zero=>ext i h;rw[Į];subst this;delta zy;rw[yP @A];simp
 |succ k M=>
  ext i h;rw[Px @e,(@xj)];split;.rw[ę,@Q/2,@cj];rw[e,oE]
  .rw[ę,@Q/2,@cj+1];let g:@cj+1<=n/2:=(Ņ,Nat.div_le_div_right (fz,h));rw[e,Ar,Nat.sub_add_eq,Gj (Nat.sub_pos_of_lt g)]
def  AV[í](q:Profile):@Ù:=(rd,@P8,@Ì,@P8)
def ay8:(sP,(p.filter @aaS).length=@La):=by ext z_;cases z_ with|nil=>rw[Ø]|cons x p M=>rw[a5,M];cases x.2.1<;>simp[aD];omega
def ay9:(sP,(p.filter @Dw).length=@a0-@La/\@La<=@a0):=by
 ext z_;cases z_ with
 |nil=>show(Ì,@Â)
 |cons x p M=>
  let{h1,h2}:=M;rw[mi,cT,jB,eE];let hb:aD (!@Å)=1:=rfl;let hc:aD (!@o)=0:=rfl;cases x.2.1;.rw[(@ag),h1,hb];simp+arith[*]
  .rw[(@Þ),eE,h1,hc];omega
def alc[aS][Ű]:@zc=AV n i (p.filter @qB):=by
 delta iP AV;dsimp only;let e1:(BC,λi=>@dc)=(BC,λj=>@Eg):=rfl;let h1:@afp=@hh:=@ar';let h2:@afo=@sj:=by let:=akF n @Ř i @C;rw[(@ar')]at this;exact@qg=_;omega
 rw[h1,h2,ay8,(ay9 _).1,Bool.and_comm]
def  mW(m o:@h):@h:=(o.zipIdx.filter @aij).map @Ĥ
def  lS[Ć][à]:@h:=(wV,(L!,m.contains no))
def  j5[x](m o:@h)[bo]:Row:=(Bb,ie o (AS r o (JL,@de) @PT),match@N8 with|some j=>ie o @zK|none=>ie o @fZ)
def VA:∀(o s:@h),@xN->@GB->b7 @as=o/\gZ @as=s|[],[],_,_=>@Ű|[],_::_,h,_=>@ù|_::_,[],h,_=>@ù|x::o,b::s,h,hb=>by let{a,c}:=VA o s @Ÿ λz hz=>hb z (í,hz);let h1:=hb b @A;rw[Ì,(af,x::b7 @as,a)];exact aD (b==1)::gZ @as=_;rw[c];rw[Ś,b,b];rcases this with z|z<;>subst z<;>rfl
def ay_{q':Row}(h:@hP=gZ q'):@Gt=@u2:=by
 let key:∀l l':@Ō,l.map aD=l'.map aD->l=l':=by
  ext l;cases l with
  |nil=>ext l' h;cases l' with|nil=>rfl|cons b l'=>rw[ő]
  |cons a l ih=>ext l' h;cases l' with|nil=>rw[ő]|cons b l'=>rw[cT,cT]at h;injection h with h1 h2;rw[ih l' h2];congr 1;induction a<;>induction b<;>first|rfl|rw[Ř,h1]
 calc key _ _ ?_;rw[b6,b6];show h
def K3:(BD,@qq,j0 b a->a=b)
 |[],[],_,_,_=>rfl
 |[],_::_,h,_,_=>@ù
 |_::_,[],h,_,_=>@ù
 |x::a,y::b,h,h1,h2=>by
  let h':@ox:=@Ÿ;rcases h1 with h1|⟨e1,h1⟩
  .rcases h2 with h2|⟨e2,h2⟩;.omega
   .simp_all
  .rcases h2 with h2|⟨e2,h2⟩;.simp_all
   .rw[e1,K3 h' h1 h2]
def PP:∀{a b c:@h},@qq->j0 b c->@ox->@aY=@ő->j0 a c
 |[],[],[],_,_,_,_=>gA
 |[],_::_,_,_,_,h,_=>@ù
 |_::_,[],_,_,_,h,_=>@ù
 |[],[],_::_,_,_,_,h=>@ù
 |_::_,_::_,[],_,_,_,h=>@ù
 |x::a,y::b,z::c,h1,h2,l1,l2=>by
  rcases h1 with h1|⟨e1,h1⟩;.rcases h2 with h2|⟨e2,h2⟩;rw[Ä,@e,<-Ä,@Ä]
  .rcases h2 with h2|⟨e2,h2⟩;rw[Ä,@C,<-Ç,(aJ,PP h1 h2 (by simpa using l1) (by simpa using l2))]
def VB:∀(s t:@h)(p:Nat),@aB=@Ú->(∀j a b,(Ë,s,a)->(Ë,t,b)->b<2/\a<2/\(j<p->a=b\/a=0)/\(p<j->a=b))->s.sum%2=t.sum%2->j0 s t
 |[],[],_,_,_,_=>gA
 |[],_::_,_,h,_,_=>@ù
 |_::_,[],_,h,_,_=>@ù
 |a::s,b::t,0,h,hh,hs=>by
  rw[mS];let e:s=t:=by refine TH;ext j;rcases ft j s.length with hj|hj;rw[Ê,@kr,cJ @Ä,(fN,(hh @Ö _ _ (u,aiL,@kr) (u,aiL,cJ (lv,j<@Ú))).2.2.2 @C)];.rw[qg hj,qg @Ä]
  subst e;rw[o3];rw[jB,jB]at hs;show(gZ,KU s)
 |a::s,b::t,p+1,h,hh,hs=>by
  rw[mS,<-o3];rcases ft a b with z|z;rw[Ä,z]
  .let e:a=b:=by
    rcases h0.2.2.1 (by simp[*])with q|q;.show q
    .omega
   calc(as,e,VB s t p hl (λj x y hx hy=>?_) (by rw[jB,jB]at hs;omega));let:=hh @Ö x y hx hy;show bU @i1 this.2.1 (λz=>this.2.2.1 @C) (λz=>this.2.2.2 @C)
def VC[Ô][Ä]:j∈@l0↔@apC:=by
 delta mW;rw[bE];constructor;.rw[E,λd_ h fz=>?_];let{x,i}:=d_;subst fz;let{h1,h2}:=jk.1 h;show ab x (aW3.1 h1) @pb
 .rw[E,λx h1 h2=>?_];show ab (x,j) (jk.2 {aW3.2 h1,by exact@mS=@o;rw[h2];rfl}) @d
def ald[Ô][Ä](h:(dN,@N8)):@apC/\∀i x,j<i->(ai,o)->@cv=@o:=by
 let hm:j∈@l0:=aiM h;rw[Á,VC.1 hm,λi x hi hx=>?_];cases e:m.contains x with
 |true=>rfl
 |false=>
  exfalso;let g:i∈@l0:=@Rd;let hs:(mW m o).Pairwise @hp:=by let h1:(o.zipIdx.map @Ĥ).Pairwise @hp:=(d,List.zipIdx_map_snd,List.pairwise_lt_range');delta mW;show h1.sublist ((AB (l:=o.zipIdx) (p:=@aij)).map _)
  obtain⟨l,hl⟩:∃l,@l0=l++[j]:=by let{l,hl}:=El.1 h;show⟨l,hl⟩
  rw[hl]at hs g;rcases bX.1 g with z|z;rw[ā,(aW4.1 hs).2.2 i z j @A];.let:=dt.1 z;simp_all
def aza[Ô](h:@N8=@u):∀(i x:Nat),(ai,o)->@W8:=by let g:@l0=[]:=GH.1 h;ext i x hx;cases e:m.contains x with|true=>rfl|false=>let:i∈@l0:=@Rd;rw[g]at this;simp at this
def azb{D:Row}(J:@IM)[N][d5][Ĵ](h:(le,D,D)){x:AC}(hx:@afV):@jv=nV D x:=AR x λc hc=>h c @Me
def ale(N:o.Nodup)(hc:c∈o):@afw/\(ka,@ax1)=c:=by let h:@afw:=List.findIdx_lt_length_of_exists (ab c hc @A);rw[Ì,h];rw[eY,cJ h];let:=aW5 (w:=h);simpa using this
def alf[y][ŏ](aQ:@gD):@de∈m/\@Yk=@DH:=by
 let iB:@Re∈p:=by cases p with|nil=>rw[ö,aQ]|cons x p=>simp
 show{(yn,(ma,iB)),Py G hm iB}
def azc[ê][Ŧ](aQ:@gD)[aJ]:∃c,c<2/\@gf=@aO/\@anV/\(o4,q=@aO):=by
 calc q_ (Ig,hp) (λG c dB fU=>?_);let{h1,h2}:=alf G hm aQ;let jx:o.Nodup:=@avm;let{b1,b2}:=d _ h1;let j:@de∈o:=N.mem_iff.2 (kN.2 @y1);let{f1,f2}:=ale jx j;rw[gq];let i:∀c',eQ (iY r o c') @de=((b5 r @de+c'+@lR)%2==1):=by
  ext c';let h:=Hx (r:=r) N c';let hk:@lR<n:=by rw[N.length_eq,iR]at f1;show f1
  let e:=zn h hk;rw[EN f1]at e;let M:o[@lR]=@de:=by rw[eY,cJ f1]at f2;show f2
  rw[M]at e;show e
 let O:(b5 r (ka,@lR)+@lR+@PT)%2=c:=by rw[f2];let e:=@ajw;rw[h2,i c]at e;generalize@DH=b at e;cases b with|true=>show zpl dB (gy.1 @bi)|false=>show(dS (λz_=>z_%2) (D_ _)).trans (zpm dB (uH.1 @bi))
 calc eR c dB ?_ fU @GD;.delta j5;rw[H.len,(@dD),ak6 f1,O]
 .rw[Æ,Vm H f hn kY,λc' a _ U=>?_];rw[g]at U;rw[É,@Yk,eQ q @de,(cx,PJ (q:=q) hm h1,v)];rw[(@ajw),U,i c,i c']at e1;let:c=c':=by
   by_cases z:(b5 r @de+c+@lR)%2=1;.show(zpl dB z).symm.trans (zpl a (gy.1 (e1.symm.trans (gy.2 z))))
   .show(zpm dB z).symm.trans (zpm a (uH.1 (e1.symm.trans (uH.2 z))))
  rw[U,this]
def K4[y][Ä](h:(Ë,@fZ,a)):∃x,@nx/\a=(V,@cv,aD @ef,0):=by delta lS at h;rw[bB]at h;cases e:o[j]? with|none=>rw[fj]|some x=>rw[Ĵ];show(Ñ,x,(cM h).symm)
def sum_set:∀(l:@h)(j v:Nat),j<@Ã->@ajx=(l.take j).sum+v+(l.drop @Ö).sum|[],j,v,h=>@ù|a::l,0,v,_=>@A|a::l,j+1,v,h=>by let ih:=sum_set l j v @Ÿ;rw[aW6,jB,ih,List.take_succ_cons,jB,List.drop_succ_cons];omega
def azd[Ş][Ŧ][aJ]:∃s:@h,@aB=n/\@GB/\@gf=@as/\@vM/\(aj,@as)/\@anU/\(o4,j0 s @hP):=by
 let By:=(KZ H hn).1 hp;let G:=Vn By.1;rw[iC,<-m7,<-lj,m];let gd:∀z∈@fZ,z<2:=by
  ext z hz;rw[À,hz,λx _ bf=>?_];subst bf;split;.show ak_ _
  .decide
 let P:@iE:=@Ä;let K:∀s:@h,@IS->@GB->(∀(j x a:Nat),(Mi,a,a,aD @ef))->s.sum%2=@oj->@vM/\(aj,@as)/\@anU:=by
  ext s hl h2 A U;rw[jD,h2];let J:@vM:=(n',by delta ie;rw[aw,aiN];simp[*],@as,w1,N);calc aM J ?_ @Gu;.rw[tL H J P,cG];let:(vf,@fi)=s:=w2;rw[Ã];show U.symm
  .rw[dc];let{a1,X}:=ak3 J w1 @d b1 b2;let I:=Vh o 0 hc _ no a1 db;rw[oE]at I;rw[æ,I];let e3:(Æ,s,@Zn,aD @JJ):=by rw[bB]at X;let w3:=dS (λl:@h=>l[@Zn]?) w2;dsimp only[gZ]at w3;rw[bB]at w3;cases e:(ie o s)[placeOf (ie o s) no]? with|none=>rw[e]at X;cases X|some c=>rw[e]at X w3;let:@aA=@JJ:=cM X;rw[<-w3,<-this];rfl
   let e4:=A _ no _ a1 e3 db;generalize@JJ=b at e4;generalize@BG=c at e4;induction b<;>induction c<;>first|rfl|rw[Ř,e4]
 let t:∀q,@Ø->@ŧ=o->@a!=p->∀(j x b:Nat),@nx->(Ë,@hP,b)->x∈m->b=aD @ef:=by ext q f g v j x b hx hb C;let w:=Vi f (hl,g);rw[<-v,PJ hm C];let e2:=zn f w.1;rw[w.2.1]at e2;rw[e2];delta gZ at hb;rw[bB,qZ (to,w.1)]at hb;show(cM hb).symm
 let D:∀q,@Ø->@av->(gZ q).sum%2=@bE%2:=by ext q f kY;rw[tL H f P,cG]at kY;show kY.symm
 let u:∀(q:Row)(j b:Nat),(Ë,@hP,b)->b<2:=by ext q j b hb;rw[À,eD hb,@Rj];subst bu;show ak_ _
 let F:∀q,@Ø->(tt,q):=by ext q f;delta gZ;rw[aw,f.len]
 delta j5;rw[H.len,ag hn];cases hj:(mW m o).getLast? with
 |some j=>
  let{{x,hx,C},wW}:=ald hj;let FO:j<n:=(jV,@Gx);calc eR @zK ?_ ?_ @d ?_;.delta mT;rw[B1,gc]
  .ext z hz;delta mT at hz;rcases av5 hz with h|h;.show gd z h
   rw[fL]
  .let M:∀i,i≠j->(@zK)[i]?=(@fZ)[i]?:=by ext i hi;delta mT;rw[TY (λz=>hi @mj)]
   let U:(mT r @fZ j).sum%2=@bE%2:=by delta mT;rw[sum_set _ _ _ (d,gc,FO)];show zpk
   let{m1,O,m3}:=K _ (zO,gc) (by
    ext z hz;delta mT at hz;rcases av5 hz with h|h;.show gd z h
    rw[fL]) (by
    ext i y a hy ha k;let E:i≠j:=by ext e;subst e;rw[hx]at hy;cases hy;rw[(@QV)]at C;cases C
    rw[M i E]at ha;rw[h_];rw[hy]at S;cases S;rw[e,aj @QV]) U;calc bU m1 O m3 @GD;calc(GR,j,by rw[F q f];delta mT;rw[B1,gc]);apply bU @A1 ?_ @F9 @F9
   .let:=eD ha;delta mT at this;rcases av5 this with h|h;.show gd a h
    rw[fL]
   .rw[M i @e]at ha;rw[bt,@gr];cases k:m.contains y with|true=>left;rw[k,(@Þ)]at e;rw[e,(pd,k)]|false=>right;rw[k]at e;simpa using e
   .rw[M i @e]at ha;rw[bt,@gr];let k:=wW i y bK hy;rw[k,(@Þ)]at e;rw[e,(pd,k)]
 |none=>
  let fU:=aza hj;let Q:∀(i y a:Nat),(bz,o)->(H,@fZ,a)->a=aD @at6:=by ext i y a hy ha;rw[h_];rw[hy]at S;cases S;rw[e,(@aog),(@Þ)]
  let l_:@J_:=by
   let:@ĺ<=@ń:=by rw[Ķ,o,m,by ext y hy;rw[gP];show iW.1 @aoh,<-gk];show@k5
   simp_all
  let U:@apW%2=@bE%2:=by
   let h1:@apW=@m7:=by rw[O9];delta lS;congr 1;rw[Î];ext y hy;rw[gP];rw[(@aoh),(@Þ)]
   rw[h1,akY hm d l_ G N];rcases By.2 with z|z;.omega
   .omega
  calc f7 (K _ gc gd (λi y a hy ha _=>@asY) U) (λm1 O m3=>?_);calc iu @fZ gc gd @d m1 O {m3,@GD};calc(GR,0,(u,F q f,gc));rw[bt,λy hy _=>?_];let e:a=b:=(u,@asY,(pd,@aog));show bU @A1 (ŋ,@A1) (λ_=>@eI) (λ_=>e)
def alg[B][Ŧ][cj][aJ]:@Xg/\b7 @gf=o/\(aj,@gf)/\(le,@gf,@gf)/\(o4,j0 (gZ @gf) @hP):=by rw[Ą,<-ý,O6 (azc H hn hm d hp aQ N hc) (λc h2 e h3 h4=>?_),e,(BA,Hx N c,Vl r o c,akP H hn N h2,@asZ,KU _)];.apply aZM (azd H hn hm d hp N hc) (λs s1 s2 e h1 h2=>Fa λh3 h4=>?_);rw[iC,<-jD,s2];rw[e];show(BA,h1,w1,h2,w2,@asZ)
def aze[a4][Ő][N](l_:(dH,m))(aQ:m≠[])(d:@bb){l:@dC}(hl:(Hl,l)):(l=[]->@jP=@u)/\(@dz->(lc n m n 0 @ô l).1.Perm @ô/\(oP,l)≠[]/\∀q,q∈@atL->(∀q'∈@atL,@aoW)->(ň,@jP,q,@Ø)):=by
 let b:∀p,@Ď->@gD:=by ext p G e;subst e;show aQ G.names.symm
 let S:∀p,@Ď->iP n 0 @ô p=@ayA:=by ext p G;rw[alc @Gk];congr 1;calc oH.2 @k8;let:u.1∈m:=(co,G.names,u,hu);show iW.2 (kN.2 (d _ this))
 let t:∀q,@Ø->@av->(b!,q)->@a!∈l:=by
  ext q J kY hh;let G:=@ye;apply(hl _).2 (tM,G,(Vz H G (b _ G)).2 ?_)
  .rw[Ą];.show(GQ,kY)
   .show(HM,kY)
  .rw[<-S _ G];show Vj J hm
  rw[Â,(Mp,@N9),hh]
 let hx:@pX:=λc hc=>d c @N9;rw[Á,@Ź,λg=>?_]
 .rcases Vp H h0 hx with h|⟨q,_,J,kY,hh,_⟩;.show h.1
  .let:=@ae7;rw[Ğ];simp at this
 .apply r8 (pc,λp hp=>{@ajz,(d,S p @ajz,((hl p).1 hp).2.2.1)},g) @Gv;calc aM o1 M (λq U wX=>?_);generalize@OX=y at*;rw[À,U,λp hp bH=>?_];subst bH;let{fo,j}:=@N3;calc r8 ((hl p).1 fo) (λG hr _ ht=>?_);calc EQ (alg H hm d ((Vz H G @ajy).1 hr) G @ajy o1 j) (λa k s A _=>?_);let hZ:(b!,(pH,y.1)):=(K,azb a hm d G A (λc hc=>@N9),ht);rcases Vp H h0 hx with⟨_,h⟩|⟨q,U,J,kY,hh,h_⟩;.rw[h _ a s]at hZ;cases hZ
  .rw[U];let o:=h_ _ a s hZ;let v:=@ae7;let f:=o4 @ŧ _ (EM J) v @t_;let B:@ŧ=y.1:=by let z:=o.1;rw[k]at z;show K3 ((EM J).length_eq.trans o1.length_eq.symm) z f
   let V:@a!∈y.2:=(o2 _).2 {v,(K,B,@t_)};calc r8 ((hl _).1 v) (λi N _ _=>?_);calc EQ (alg H hm d ((Vz H i @afY).1 N) i @afY o1 ((o2 _).1 V).2) (λw I F E C=>?_);let m1:=wX _ (ma,V);let O:=C q J kY B @d;let yo:∀D,@IM->(tt,D):=λD J=>by delta gZ;rw[aw,J.len]
   let m3:=PP m1 O (n!,a,w) (n!,w,J);let m4:=o.2 @al';let es:=K3 (n!,a,J) m3 m4;apply{(fN,ayF @al' (ay_ es.symm)),a}
def  qu[c][ß][o](left:@h)(l:@dC)(x:Nat):@dC:=l.filter (jx,@a6,@dc,@rH)
def alh[N][ax](g h:@Ė)(hg:∀c∈m,g c=h c):((m.filter g).map @rQ)=(BE,@axE):=by
 let e:m.filter g=(BE,@ê):=by rw[<-G.names,J7];congr 1;refine TW;ext x hx;show hg x.1 (yn,bE.2 {x,hx,@d})
 rw[e,b6];rw[Î];ext x hx;exact aD (! cU p x.1)=@aa7;rw[(nB,@GE)]
def ali[aS][N][ax](g:@Ė)(hg:∀c∈m,g c=@QT):(rd,@ajA,@Rk,@ajA)=@zc:=by
 rw[alc hi];delta AV;let e:=alh hm G g (λc=>@QT) hg;let N:@Rk=(p.filter @qB).length:=by let:=(Ř,e);rw[eF,aw]
 rw[e,N]
def VD[e][N][ax]:@AX=AV n i p:=by delta AV;let e:=alh hm G @cq @cq @ļ;rw[(@cw),(@cw)]at e;let N:@ń=@a0:=@axQ;rw[e,N]
def alj:∀(l:@h)(k:Nat)(hk:@YC),l.Nodup->@Q8=l.filter @amJ|[],k,hk,_=>absurd hk @CT|a::l,0,_,h=>by let h1:=pd.1 h;exact l=(BF,(jj,a));rw[aiO @A];calc(oH.2 @k2).symm;rw[TK];ext e;show h1.1 (Ņ,hy)|a::l,k+1,hk,h=>by let h1:=pd.1 h;let jw:@YC:=@hW;exact a::@Q8=(BF,@amJ);rw[aiP (by rw[TK];ext e;show h1.1 (ŋ,@hD)),alj l k jw h1.2]
def azf[e][N]{l:@dC}(dM:@LO)[Ó](hs:@u1)(hl:@aof)(aQ:@dz):∃(k:Nat)(hk:@Jw),@xn≠[]/\(Bn,(kK,(lW,j)))/\(∀f,(H7,@fI::(LZ,@oV,@xn),@oV,@xn))/\@oV=(jn,@fI)/\(left.eraseIdx k).Pairwise @hp/\∀p∈@xn,@Ď/\(pn,@oV)=@o:=by
 rw[lY,<-jw,<-jz,<-oI,dM,hi];let g:(sE,(rr,@atx)):=by cases e:left.find? (λx=>!(qu n m i left l x).isEmpty)with|some x=>rw[ć,x]|none=>let h1:=@apD;let h2:I∈(kK,G):=jk.2 {u,(d,eZ,⟨d,s⟩)};exfalso;refine h1;rw[AA,<-N4,GB];ext h;rw[h]at h2;simp at h2
 let{x,hx}:=g;let{h1,k,hk,rfl,h2}:=List.find?_eq_some_iff_getElem.1 hx;let c:=alj @å k hk dJ;calc{k,hk,?_,?_,?_,c,?_,?_};.ext h;rw[h]at h1;simp at h1
 .ext j hj;let:=h2 j hj;simpa using this
 .ext f;rw[c];exact(E1,@atx)=_;rw[hx];rfl
 rw[Â,c,@QY];.ext p hp;let{a,b}:=jk.1 hp;rw[eZ]at b;rw[c];show⟨(hl p a).1,b.2⟩
def alk:∀(o s:@h),@ĺ=@aB->(vf,ic)=o|[],[],_=>rfl|[],_::_,h=>@ù|_::_,[],h=>@ù|x::o,b::s,h=>(af,x::(vf,ic),alk o s @Ÿ)
def VE{s:@h}[ô](h:@xN):@vM:=by let e:=alk o s h;rw[æ,(ŋ,N)];let:=(Ř,e);rw[aw]at this;rw[this,N.length_eq,iR]
def alm[H][y][ô]:@Xg:=by
 delta j5;let h1:(Mq,m)=@ĺ:=by delta lS;rw[aw]
 split;.show VE N @WJ
 rw[fq,VE N (zO,h1),VE N @mg]
def  jG[ø]:eA:=(Ī,@nP,@kC)
def  mX[r](s:eA):eA:=(bP (max (min k @aB) (@aB-k))).map λp=>@atq
structure fQ(h w:Nat)[ø]:@v where
 len:@bh=h
 wid:@ajB
def  mY[ø](i j:Nat):@hm:=(g.getD i []).getD j []
def iZ[ī]{d:α}(h:@XN):@xy=@eM:=(aW,cJ h)
def va[ī]{d:α}(h:@Ã<=i):@xy=d:=(aW,qg h)
def fQ.row[Ť][e][bs]:(wW,i)=w:=(d,iZ @ZU,@K5)
def fQ.ext{h:Nat}{a b:eA}(A:(eq,a))(B:(eq,b))(e:∀i j,i<h->j<w->mY a i j=mY b i j):a=b:=by rw[ĵ,(yk,A.len)];ext i h1 h2;let hi:i<h:=(K,A.len,h1);rw[ĵ,(u,@ajD,B.wid _ (xo h2))];ext j h3 h4;let hj:j<w:=(K,@ajD,h3);let:=e i j hi hj;delta mY at this;rw[iZ h1,iZ h2,iZ h3,iZ h4]at this;show this
def fQ.head[ë]:@nP=w:=by let:=R.row h0;cases g with|nil=>let:=R.len;simp at this;simp_all|cons r g=>show this
def wt[ë]:fQ w h @cF:=by delta jG;rw[(@hE)];rw[im,<-h?];subst aW;rw[aw,R.len]
def ER[ë][Þ](hi:i<w)(hj:j<h):mY @cF i j=mY g j i:=by delta jG mY;rw[(@hE),iZ (l:=(Ī,w,@kC)) @hz,jY,rR,(BG,@kC,hj),jY,iZ (l:=g) (tq,R.len)]
def aaa[ë][ķ]:jG @cF=g:=by rw[a2];calc fQ.ext (wt C U) R @Rn;rw[ER C U hi hj,(u0,hj)]
def HE{g:eA}(h:g≠[]):@apu:=by cases g with|nil=>rw[ö,h]|cons r g=>rfl
def aab:∀a b:@ű,(vW a b).length=max @b3 @aY|[],b=>@WK|p::r,[]=>by rw[vW,eE,aab r []];simp|p::r,q::l=>by rw[vW,eE,aab r l,eE,eE];simp[*]
def aac:ka []=[]:=@d
def aad:∀(a b:@ű)(p:Nat),(vW a b).getD p []=ka (a.getD p [])++b.getD p []|[],b,p=>by induction b<;>simp[vW,aac]|x::r,[],0=>@WL|x::r,[],p+1=>by let:=aad r [] p;rw[vW,N9,this,N9];simp|x::r,y::l,0=>@WL|x::r,y::l,p+1=>by let:=aad r l p;rw[vW,N9,this,N9,N9]
def azg[cH]:(GI k l).length=max (min k @Ã) (@Ã-k):=by delta GI;rw[aab,lK,f_,jC]
def aln(d:α)[ű]{k p:Nat}(hk:@YK):(l.take k).reverse.getD p d=if p<k then l.getD @ww d else d:=by
 by_cases h:p<k;.rw[(@f0),iZ @iA,iZ (Ò,(aF,@ww)),av6,avQ];congr 1;simp;simp[*]
 .rw[(@eH),va @cX]
def azh(d:α)[ű](k p:Nat):(l.drop k).getD p d=l.getD @Lq d:=(Ô,eY,N0,eY)
def azi[f]{l:@ű}(hk:@YK)(p:Nat):(Ek,(GI k l).getD p [],(sJ,@ww),(sJ,@Lq)):=by delta GI;rw[aad,aln [] l hk,azh]
def HF[Ų][as](hk:@f?):(CU,@Ro):=by rw[io,<-À,hr,@h'];subst bf;rw[azg,(@ajC),(@u8)]
def alo{f:@ahY}[Ť][Þ][bs]:mY @hj i j=(f @ajE).getD j []:=by delta mY;rw[(BG,@hj,hi),jY,iZ (l:=g) @ZU]
def zB[Ų]{s:eA}(R:@No)[aL]:fQ @ba h @Lb:=by
 delta mX;rw[R.len,(@u8)];rw[im,<-À,hr,λp hp bu=>?_];subst bu;let Jb:((s.headD []).map @x9).length=h:=(hR,@GF);rw[aW8];let h1:(((s.take k).reverse.map @ht).getD p @te).length=h:=by rcases ft p ((s.take k).reverse.map λl=>l.map ka).length with z|z;rw[Ö,iZ z,jY,aw,(dA,(qK,@hD))];.rw[va z,Jb]
 let h2:((s.drop k).getD p @te).length=h:=by rcases ft p (s.drop k).length with z|z;rw[Â,iZ z,(dA,aiQ @hD)];.rw[va z,Jb]
 rw[h1,h2,Nat.min_self]
def alp(l:@ű)[o]:(BH,@x9)=[]:=by
 rcases ft i l.length with z|z;.rw[iZ @pd,jY]
 .rw[va @pd]
def azj(l:@ű)[o]:(BH,ka)=ka (sJ,i):=by
 rcases ft i l.length with z|z;.rw[iZ @pd,jY,iZ z]
 .rw[va @pd,va z,aac]
def azk[Ų]{s:eA}(R:@No)[aL]{p i:Nat}(hp:p<@ba)[bs]:(Ek,mY @Lb p i,mY s @ww i,mY s @Lq i):=by
 let hr:=(zB R U hk).row hp;delta mY;rw[iZ (l:=@ar!) (Į,hr)];let e:@ar!=@atq:=by delta mX;rw[iZ (by simp[R.len];simp[*]),jY,rR]
 simp only[e,List.getElem_zipWith];rw[<-(@GH),<-(@GH)];congr 1
 .rcases ft p k with z|z;.rw[aj z,iZ (l:=@ajF) (by simp[R.len];omega),jY,azj,<-(wX,(s.take k).reverse),aln [] s (d,R.len,hk),aj z]
  .rw[(@gp),va (l:=@ajF) (by simp[R.len];omega),alp,aac]
 .rcases ft p (s.drop k).length with z|z;.rw[iZ (l:=@Rq) z,avP,<-(wX,s)]
  rw[ä,va (l:=@Rq) z,alp,va (l:=s) (by rw[jC]at z;omega)]
def aae[a1][aL]:(u',@Lc,@Ro):=by
 rw[a2];let M:=HF R hk;calc fQ.ext (zB C U hk) (wt M h0) λp i hp hi=>?_;rw[azk C U hk hp hi,ER M h0 hp hi,alo R hi,azi (d,@Rm,hk)];congr 1;.rcases ft p k with z|z;rw[ä,aj z,aj z,(u0,@cL)];.rw[(@gp),(@gp)]
 .rcases ft (k+p) w with z|z;rw[Ě,(u0,z)];.delta mY;rw[(wY,@cF,C.len),(wY,@ajE,@Rm)];rfl
def xH[Ť]:(eq,@mk):={(u,lK,R.len),λr hr=>R.wid r @PR}
def azl[Ť][Þ][bs]:mY @mk i j=mY g (h-1-i) j:=by delta mY;congr 1;rw[iZ (Ç,lK,R.len,hi),iZ (show h-1-i<@bh by rw[R.len];omega(config:={})),av6];congr 1;rw[R.len]
def PQ[Ť]:(eq,g.map av7):=by rw[io,<-À,hr,@u9];subst bH;rw[lK,(@ajC)]
def alq[ë]:(u',@CU,av7):=by rw[a2];let M:=PQ R;calc fQ.ext (xH C) (wt M h0) @Rn;rw[azl C hi,ER R h0 @cL hj,ER M h0 hi hj,alo R hj];delta mY;let hl:=R.row hj;rw[iZ (rE,w-1-i<(wW,j)),iZ (show i<(g.getD j []).reverse.length by rw[lK];simp_all),av6];congr 1;simp_all
def alr[a1][aL]:(u',@M5,@Rr):=by let M:=PQ R;rw[alq R h0,aae M h0 U hk,alq (HF M hk) h0,b6,b6];rfl
def aaf[Ų][as](hk:@f?):(CU,@Rr):=by let:=PQ (HF (PQ R) hk);rw[fN];show this
def  vc[ø](d k:Nat):eA:=(j4,d,jG (if@f7 then@Lc else@M5),if@f7 then@abQ else(Kr,@mk))
def als[a1][ķ](hd:d<=3)[cf]:(ň,En g d k,@un,∃h' w',0<h'/\0<w'/\@ahw):=by
 rw[dy,<-jr];delta En vc;dsimp only;rw[i,R.len];rw[ag @alJ];rw[a2];by_cases h1:d<=1
 .rw[(@cT)]at hk;let M:=HF R @Yg;let Lq:=aaf R @Yg;let hm:0<@ba:=@e;rw[Ŗ];by_cases h2:d=0;.rw[(@gq),(@FZ),aae R h0 U @e,aaa M h0 hm];show(Hm,M)
  .let h3:d=1:=@e;rw[(@aQ),aj h3,(@gp),alr R h0 U @e,aaa Lq h0 hm];show(Hm,Lq)
 .rw[(@Ĺ)]at hk;let hm:0<@aas:=@e;let tg:@apu:=HE a;rw[l!];let M:=@ajG;let Lq:=@ajH;let cc:=aaa R h0 U;rw[ag (Ò,¬d=0),ag (Ò,¬d=1),(@Ĺ)];by_cases h2:d=2;.rw[(@gq),(@FZ),tg,(@E?),<-aae C U h0 @e,cc];show(Gz,(BI,R))
  .rw[(@aQ),(@aX),tg,(@E?),<-alr C U h0 @e,cc];show(Gz,xH (BI,xH R))
def  vd[ø]:@h:=g.flatten.flatten.map ic
def alu(p:@hm):((ka p).map ic).Perm (p.map ic):=by delta ka;rw[b6];let:(ic∘λc=>NZ c @o)=ic:=rfl;rw[ê,N_];show aiT _
def aag:∀a b:@ű,((vW a b).flatten.map ic).Perm (a.flatten.map ic++b.flatten.map ic)|[],b=>@WK|p::r,[]=>by let ih:=aag r [];rw[vW,vX,bF,vX,bF,gh];show(alu p).append ih|p::r,q::l=>by let ih:=aag r l;rw[vW,vX,bF,bF,vX,bF,vX,bF];let h1:=((alu p).append_right (q.map ic)).append ih;calc@P7;rw[gh,gh];calc a1c _ ?_;rw[<-gh,<-gh];show@ajI
def aah[cH]:((GI k l).flatten.map ic).Perm @GI:=by delta GI;calc(aag _ _).trans ?_;let h1:((l.take k).reverse.flatten.map ic).Perm ((l.take k).flatten.map ic):=@ajJ;calc(h1.append_right _).trans ?_;rw[<-bF,<-aiU,Gw]
def alv[cH]:((aiR k l).flatten.map ic).Perm @GI:=by delta aiR;calc(((aiT _).flatten).map _).trans ((aah k _).trans ?_);show@ajJ
def PR{f:@ahY}(hf:∀l,((f l).flatten.map ic).Perm @GI):∀g:eA,(sQ,@hj):=by ext z_;cases z_ with|nil=>show@u5|cons r g M=>let ih:=M;delta vd at ih⊢;rw[cT,vX,aiU,bF,vX,aiU,bF];show(hf r).append ih
def azm(f:Nat->α)(t:Nat->@ß):(aT,(l.flatMap λi=>@eG::t i).Perm (@oQ++l.flatMap t)):=by ext z_;cases z_ with|nil=>show@u5|cons a l M=>let ih:=M;rw[Ei,cT,Ei,Oa,Oa];calc a1d _ ?_;calc(ih.append_left _).trans ?_;rw[<-gh,<-gh];show@ajI
def azn:∀g:eA,@ajB->((bP w).flatMap @Pm).Perm g.flatten:=by
 ext z_;cases z_ with
 |nil=>
  ext _;let:(l',w,([]:eA).map @auf)=[]:=by cases bP w with|nil=>rfl|cons a l ih=>rw[Ei,ih];rfl
  rw[Ã];show@u5
 |cons r g M=>
  ext h;rw[ũ,@aiz];let hr:=h r @A;let e:(Ī,w,@BI)=r:=by rw[ĵ,by simp[hr]];ext i h1 h2;rw[jY,rR,iZ h2]
  let:=azm (λi=>@BI) @Pm (bP w);rw[Ğ];rw[vX];show this.trans (ih.append_left r)
def PU[ë]:(sQ,@cF):=by delta vd jG;rw[(@hE)];let:=azn g R.wid;rw[List.flatMap_def]at this;show(this.flatten).map _
def azo[a1][ķ](hd:d<=3)[cf]:(sQ,@un):=by let o:=(als R h0 U hd l hk).1;rw[dy,<-jr];delta En at o;dsimp only at o;rw[i,R.len,ag @alJ,HE a]at o;rw[a2,<-l!];by_cases h1:d=0;rw[k_,@cT,@Rs];.rw[(@Ĺ)]at o;by_cases h2:d=1;rw[k_,@gq,@Rt];.rw[(@aQ)]at o;rw[(@aX)]at hk;by_cases h3:d=2;rw[k',aj h3,@ajG,@Rs,<-k',@j6,@ajH,@Rt]
def  rg:@À->@y5|a::b::r=>(a,b)::rg r|_=>[]
def  wu[ø][ų]:@Ù:=decide @xZ&&(D!,@AK)
def  tN:(eJ,eA,@y5,eA)|g,[]=>@PB|g,x::l=>(V,@anu,tN (vc g x.1.toNat x.2.toNat) l,@u)
structure GoodG[c][ø]:@v where
 rect:∃h w,0<h/\0<w/\@Ģ
 nos:(vd g).Perm @ô
def alw[ĸ]:(@xZ/\@v8/\b<@cQ)↔(Id,w):=by constructor;rw[nd,h.1.1,aW_ @Ó @š,{h.1.1,Int.natCast_nonneg _,JW.1 h.1.2,JW.1 @š,avF.1 @gU},<-nd,h.1,@š,{{h.1,JW.2 @e!},JW.2 h.2.2.2.1,avF.2 h.2.2.2.2}]
def K5[ë][ĸ]:(aN,@l_,(Id,(j4,@e',w,h))):=by delta wu;rw[eZ,cG,cG,(@hE),R.len];by_cases h1:a<=1;rw[Ê,@cT,aj @C,alw,<-Ê,@Ĺ,ag (λh2=>h1 (aW_ (Int.self_le_toNat a) (JW.2 h2))),alw]
def azp[ë][f](hn:¬(d<=3/\1<=k/\@wa)):En g d k=@u:=by
 delta En;dsimp only;rw[dy];rw[i,R.len,aj];by_cases h1:3<d;rw[Ä,h1]
 .by_cases h2:k=0;rw[Ç,@Qu]
  .right;right;by_cases h3:d<=1;.rw[aj h3]at hn⊢;omega
   .rw[(@j6)]at hn⊢;omega
def aai[c9][ĸ](h:@l_=@o):(eT,@zz)/\En g @e' @gW=some @zz:=by let{{h',w,h0,U,R},P}:=G;calc EQ ((K5 R h0).1 h) (λ_ _ C c4 c5=>?_);let{o1,o2}:=als R h0 U C c4 c5;show{{o2,(azo R h0 U C c4 c5).trans P},o1}
def azq:∀(l:@y5){g g':eA},@lN->tN g l=some g'->(eT,g'):=by
 ext z_;cases z_ with
 |nil=>ext g g' G h;show by cases h;show G
 |cons x l M=>
  ext g g' G h;rw[tN]at h;by_cases hx:@anu=@o;.rw[ô,hx];show M (aai G hx).1 h
  rw[b!,hx]
def alx[u]:∀(l:@À){g:eA},@lN->(vg,Ob l)=(P,@Ã%2,1,@u,tN g (rg l))
 |[],g,G=>rfl
 |[a],g,G=>rfl
 |a::b::r,g,G=>by
  let hl:@yd%2=r.length%2:=by rw[eE,eE];simp+arith[*]
  rw[hl];exact(vg,Ob (a::b::r))=(P,r.length%2,1,@u,(V,@l_,tN @zz (rg r),@u));delta Ob;calc lT G.rect (λh' w h0 U R=>?_);by_cases d:0<=a/\0<=b
  .rw[aj d];by_cases hx:@l_=@o;.let{i,hf}:=aai G hx;let ih:=alx r i;rw[aj hx,<-ih];cases e:Ob r with|none=>rfl|some f=>rw[oT]
   .rw[ag hx];let hf:En g @e' @gW=@u:=azp R h0 (λz=>hx ((K5 R h0).2 (aM d.1 d.2 z)));let:(vg,(Ob r).map (λl=>(@e',@gW)::l))=@u:=by induction Ob r with|none=>rfl|some f=>rw[oT]
    rw[Ã];split<;>rfl
  .rw[ag d];let hx:(fM,@l_):=λz=>d ⟨((K5 R h0).1 z).1,((K5 R h0).1 z).2.1⟩;rw[ag hx];exact(@u:Option eA)=_;split<;>rfl
def aaj[Ŵ]:∀(h:Nat)(r:Row),(tw w h r).length=h:=by ext z_;cases z_ with|zero=>rw[ġ]|succ h M=>ext r;show(Ô,tw,eE,M)
def aly[Ŵ]:∀(h:Nat)(r:Row)(i:Nat),i<h->(tw w h r).getD i []=@MH|0,_,i,hi=>@Ä|h+1,r,0,_=>by simp[tw]|h+1,r,i+1,hi=>by rw[tw,N9,aly w h _ i @Ä,J9];congr 3;rw[Oc];omega
def aak(w h:Nat)[x]:@w?=(Ī,h,@MH):=by rw[ĵ,(Ė,aaj)];ext i h1 h2;let hi:i<h:=@pb;rw[<-(@GH),aly w h r i hi,jY,rR]
def azr[Ŵ]:∀(h:Nat)(r:Row),r.length=h*w->((tw w h r).flatten.flatten)=r:=by
 ext z_;cases z_ with
 |zero=>ext r hr;rw[ab,r,by simpa using hr];subst this;rfl
 |succ h M=>
  ext r hr;rw[tw,vX,aiU,M _ (by rw[jC,hr,Oc];simp[*])];let:((r.take w).map @CQ).flatten=r.take w:=by cases r.take w with|nil=>rfl|cons a l ih=>rw[cT,vX,ih];rfl
  rw[ê,Gw]
def azs{h:Nat}[B](h0:0<h)[ķ](hn:h*w=n):(eT,@w?):=by
 rw[Ì,{h,w,h0,U,aaj w h r,@dw}];.rw[aak]at hx;rw[fn];subst aW;let g:=@gn;rw[aw,f_,jC,H.len,<-hn];let:@tU<=h*w:=GD w g;rw[Oc]at this;omega
 .delta vd;rw[azr w h r (tw,hn)];show@mc
def azt(G:(eT,[[q]])):@Ø:=by let:=G.nos;delta vd at this;simp at this;show{by rw[<-aw (f:=ic),this.length_eq,iR],this}
def azu[c9]:∀r∈g,∀p∈r,@Xr:=by
 ext r hr p hp;let h1:(vd g).length=n:=(u,G.nos.length_eq,iR);delta vd at h1;rw[aw]at h1;let h2:@a0<=g.flatten.flatten.length:=by let cP:p∈g.flatten:=List.mem_flatten.2 (ab r hr hp);show(List.sublist_flatten_of_mem cP).length_le
 simp_all
def  ET[Ŵ][x]:@h:=(wZ,@uI)
def azv[B][Ŵ]:(ET w r).Perm (T0 w r)/\@apY:=by
 let key:(GS,r,j):=by ext j c hc;let{hj,e}:=@Cd;subst e;show{@MY,Hq H hj}
 let hs:@apY:=by delta T0;rw[(@bW)];show(KS n).sublist AB
 rw[æ,hs];let par:∀a b c:Nat,∀u v:@Ù,((a+b+aD u+aD v)%2==0)=((aD u+a+b)%2==aD v):=by ext a b c u v;rw[Ô];rw[gy,gy];show zpg (g v)
 rw[É,@ajK,(r.map ic).filter @P6,by
  delta ET;rw[J7];let h1:∀(l:@hm)(k:Nat),(GS,l,k+j)->((l.zipIdx k).filter @Dx).map @uI=(l.filter (z9,@O4)).map ic:=by
   ext l;cases l with
   |nil=>ext k _;rfl
   |cons c l ih=>
    ext k hk;let f:=ih @û λj d hd=>by let:=hk @Ö d hd;show{@lg,@q1}
    let h0:=hk 0 c @d;rw[avX,mi,mi];let:(J2,k,k,@aA)=(@P6∘ic) c:=by simp only[Gs];rw[h0.1,h0.2,D_];show par _ _ 0 _ _
    dsimp only;rw[Ã];split;.rw[cT,cT,f]
    .show f
  show h1 r 0 λj c hc=>(d,oE,key j c hc)];rw[e1];delta T0;rw[(@bW)];show H.nos.filter _ where g(b:Bool):@ĸ<2:=@vF
def  restOf:@ĕ->Nat->az->az|[],_,h=>h|l::r,i,h=>match l.find? @K1 with|none=>h|some x=>restOf r @Q @fV
structure jq[Ú][Ĺ]:@v where
 len:@q8=n
 hand:(h6,cf n x.2)
 fix:(h6,(av,x.2))
 img:∀i x,i<n->@fG->@axI=@Ý
 lt:(h6,x.1.1<n)
 gen:(h6,@Jz)
 one:(nn,(oa,@c!))
 nodup:(nn,((U.getD i []).map @ê).Nodup)
def alz[Į]:U.drop i=@c!::U.drop @Q:=by let h:@I':=(Į,T.len);rw[yO h,eY,cJ h];rfl
def PV[R]:U.drop n=[]:=yP (d,T.len,@Â)
def HG[Į][D]:@ey=match(sR,i,@K1)with|none=>h|some x=>(C4,@fV):=(u,alz T hi,restOf)
def alA{l:fX}(hd:(l.map @ê).Nodup){x}(hx:@ps):(cm,l.find? (λz=>z.1==x.1)):=by
 cases l with
 |nil=>simp at hx
 |cons a l ih=>
  rw[cT,pd]at hd;rw[rT];rcases eJ.1 hx with e|e;rw[b9]
  .let:@amu:=by rw[uH];ext z;show hd.1 (d,z,(ý,x,e))
   rw[this];show ih hd.2 e
def alB[Į][k](hf:@ĵ=@Ý):(sR,i,@K1)=some (@Ý,@Õ):=(d,hf,alA @l4 @uh)
def EU[Į][J][bi]{x}(hx:@fG)(e:x.1=@ĵ):cf n @fV/\iq @fV @Q=@o/\h=aY @hd @fV:=by
 rw[bN];apply(Ø,kM X H,?_)
 .rw[mR];ext j hj;rw[ql @h3];by_cases u:j=i;.subst u;rw[Ć];show T.img j x hi hx
  rw[nY,@e,@ayE,@e]
 .rw[mm X.len H,xF X,lw]
def  Sg[cJ][o][D]:@v:=@à/\@bc/\@ey=@Õ
def tO[Į][k]:@gJ↔@à/\@bc/\∃x∈@c!,x.1=@ĵ/\Sg n U @Q @fV:=by
 constructor;.rw[Ü,λH hf hr=>?_];calc@amH;rw[(@xU)]at hr;cases e:(U.getD i []).find? λx=>x.1==at_ h i with|none=>rw[bO];let N:@wE:=hr;let:=alB T hi (h:=h) (u,N,uR);rw[this]at e;cases e|some x=>rw[bO];let hx:=@k3;rw[gm,<-a7,@u3];show oN x hx O a b hr
 .apply aZN λH hf x hx O _=>Fa λ_ hr=>?_;calc@amH;rw[(@xU),<-O,alA @l4 hx];show hr
def Ct[R][k]:(mV,n)↔@wE:=by
 constructor;.rw[Ü,λH hf _=>?_];show@qp
 .rintro rfl;show aM @bO @acR (Q,PV T)
def aal[R]:∀k i,@nf->(db,@Õ):=by ext z_;cases z_ with|zero=>ext i h;rw[Į];subst this;show(Ct T).2 @d|succ k M=>ext i h;rw[į];calc(nG,@bO,@xv,_,@uh,(uR n i).symm);rw[lw];show@xj
def alC[R][k]:(EU,@ga,@ey):=by ext z_;cases z_ with|zero=>ext _ _;show@JI|succ i M=>ext hi hf;let MJ:=Hm (J_ i) hf;rw[M @e MJ,HG T @e,alB T @e @ada];exact(C4,@YU)=_;rw[lw]
def alD[R][aS][k](s:@K0)[bi]:@gJ:=by calc(Ø,s.1,hf);rw[<-alC T i hi hf];let:=s.2.2;rwa[pj]at this
def PX[D]:(iD,0):=@Iw
def azw[R][aS][k](s:@gJ):@K0:=by calc(Ø,s.1,PX h);rw[pj,alC T i hi s.2.1];show s.2.2
def PY[Į]{x}(hx:@fG):(db,@hd):=by
 rw[bN];let hf:=@aoe;calc(nG,@PK,hf,x,hx,?_);.let e:=@ahp;rw[oO];rw[e,qm]at h1;show@mg
 rw[Â,UD X,aal T @nZ @Q @cL]
structure PZ[cJ](F:@È):@v where
 found:@anS
 two:(EX,@abp)
def azx[R](C:@yA):∀k i,@nf->∀g h,(db,g)->@gJ->@aaG:=by
 ext z_;cases z_ with
 |zero=>ext i hk g h hg hh;rw[Į];subst this;rw[lM];show hh
 |succ k M=>
  ext i hk g h hg hh;rw[į];let A:=λa b ha hb=>M @Q @e a b ha hb;let two:∀j x y,@gH->j<n->@amq->y∈@c!->(db,@xP):=by ext j x y E hj hx hy;rw[jl];let d:=PY T hi hy;rw[jn];let s:(av,@xP):=OT d.1.len @e D d.2.1;rcases C.found j x hj hx with e|e;rw[Ê,e,lw,d];.rcases C.found i y hi hy with e2|e2;rw[Ê,e2,xE c.1.len,alD T @e (azw T @e c) D];.show alD T @e (C.two _ _ e e2) s
  let one:∀j x,@gH->j<n->@amq->∀h,@gJ->(db,@cK):=by
   ext j x E hj hx h hh;calc(k_,hh,λH hf y hy m st=>?_);calc f7 (EU T hi H hf hy m) @u_;rw[jl,<-jn];let p:=T.hand i y hi hy;let sO:=two j x y E hj hx hy;calc(k_,sO,λW wf z hz f o=>?_);rw[É,@cK,aY @xP (aY y.2 h),by
    conv=>lhs;rw[l]
    show mm (qY p).len st.1];rw[È,@Yd,(Ħ,@xP),by rw[e1,ql (Į,st.1.len),(h4,st.2.1),qm]];calc(nG,kM c.1 H,OT H.len @e D hf,z,hz,(u,f,e2));rw[e1,mm W.len st.1];show A _ _ o st
  let all:∀k' j,j+k'=n->@gH->∀g,Sg n U j g->∀h,@gJ->@aaG:=by ext k';cases k' with|zero=>ext j hj E g hg h hh;let:j=n:=@Ä;subst this;rw[lM];show hh|succ k' ih=>ext j hj E g hg h hh;calc EV ((tO T @Yf).1 hg) (λG r x hx O st=>?_);calc f7 (EU T @Yf G r hx O) @u_;let:=one j x E @e hx _ (ih @Ö @e @e _ st h hh);rw[mm st.1.len hh.1]at this;rw[l];show this
  show all @Ř i @e @Â g hg h hh
def azy[ř]:(mi,@gJ->@ų):=by ext z_;cases z_ with|zero=>ext i hk h s;rw[Į];subst this;rw[(@aep)];show@d1|succ k M=>ext i hk h s;rw[į];calc@zO;rw[a7,@u_];rw[l];show(fO,(sS,@ahR),@ar5)
def alE[ř](C:@yA)(hS:@Pj)[D]:@K0↔@ų:=by
 constructor;.show azy v T n 0 @e h
 .ext hg;rw[eA,aal T n 0 @e,azx T C n 0 @e _ _ (hS _ hm) ih]
def  AW[cJ]:@XG|0=>[@Õ]|k+1=>(BK,@Bf)
def azz[R]:(m5,(AW n U k).Nodup/\(f6,AW n U k,(mV,@ř))):=by
 ext z_;cases z_ with
 |zero=>ext _;rw[Á,by simp[AW],@ķ];rw[J0,Ct T];simp[AW]
 |succ k M=>
  ext hk;let{e,c}:=@gm;let hi:@a_<n:=@cL;rw[É,@ř,@vJ,@e];rw[e1]at c;exact((U.getD @a_ []).flatMap @Bf).Nodup/\(f6,(BK,@Bf),(mV,@a_));generalize@a_=i at hi c⊢
  .let img:∀{x h},@fG->(mV,@Q)->@Yd=x.1:=by ext x h hx hh;rw[ql (Į,hh.1.len),(h4,hh.2.1),qm];calc(k_,PY T hi hx,λ_ _ y hy m _=>?_);rw[bN,<-oO];rw[(@ahp),qm]at h1;show h1
   constructor
   .rw[qT,avK];constructor;.ext x hx;rw[Av];calc@aeg;ext a b ha hb d he;show d (aj0 (qY @au3) ((c a).1 ha).1 ((c b).1 hb).1 he)
    .let hn:=@l4;rw[qT,Av]at hn;calc@aeh;ext x y hx hy f a ha b hb he;rw[À,ha,λJ pY aW=>?_];subst aW;rw[À,hb,λG ip bf=>?_];subst bf;refine f;rw[or]
   .ext h;rw[lI];constructor;.rw[E,@PQ,<-À,hm,@Ru];subst bu;let sa:=@aiM;rw[bN];calc(nG,kM @PK sa.1,OT sa.1.len @e @aoe (Hm @C sa.2.1),x,hx,(img hx sa).symm);rw[mm (qY X).len sa.1,UD X,lw];show sa
    .ext s;calc@zO;rw[a7,@u_];show ab x hx (bE.2 (ab _ ((c _).2 st) l.symm))
def azA[R]:∀k,@Ŋ->(AW n U k).length=(U.drop @ř).foldr @NZ 1:=by ext z_;cases z_ with|zero=>rw[Ę,(Ê,J0,PV T)]|succ k M=>ext hk;rw[alz T @aeF,avL,(Þ,@vJ,@ř),<-(@gm)];simp only[AW,aiw,aw];generalize(gm,@a_)=R;rw[lZ]
def azB[bj][ř](C:@yA)(hS:@Pj):(A6,@ajL):=by let{e1,e2}:=azz T n @Â;rw[J1]at e2;rw[axN hn v e1 (λh=>(u,e2 h,alE v T C hS)),azA T n @Â,J1,pj,aj1,aix]
def  cX[D]:Nat:=(w0,@x7)
def P0[D]:@dq<=@ħ:=by delta cX;let:=avW (xs:=@O?) (p:=@x7);rwa[nI]at this
def aam[D]:(iD,@dq):=by rw[mR];ext j hj;let hl:=P0 h;let:=aXa (xs:=@O?) (p:=@x7) hj;simpa using this
def aan[k](bK:@dq<@ħ):@abN≠@XC:=by let j:(w0,@x7)<(bP @ħ).length:=(d,nI,bK);let:=aW5 (w:=j);rw[rR]at this;let h2:(@abN !=@XC)=@o:=this;simpa using h2
def aao[J]:@dq=n↔@wE:=by
 constructor;.ext e;let:=aam h;rw[Ğ];show Cd H this
 .rintro rfl;let hl:=P0 @Õ;rw[rY]at hl;rcases ft (cX (same n)) n with z|z;rw[Í,uR n _,aan (d,rY,z)];.omega
def aap[k][Ä](hf:(iD,j))(hj:@X5)(aQ:@s'≠@fx):@dq=j:=by
 let h1:=P0 h;rcases Eb (cX h) j with z|z|z;rw[Í,mR.1 hf _ z,aan @e];.show z
 rw[Í,mR.1 (aam h) j z,aQ]
def azC[ř]:(mi,@à->@bc->@ų->cf n @ey/\(Ġ,@ey)/\(@ey=@Õ\/(i<=@u'/\@u'<n/\(uw,@u',at_ @ey @u')))):=by ext z_;cases z_ with|zero=>ext i hk h H hf hg;rw[Į];subst this;rw[PV T];show aM H hg (.inl @qp)|succ k M=>ext i hk h H hf hg;rw[į];rw[(@xU)];cases e:(U.getD i []).find? λx=>x.1==at_ h i with|none=>dsimp only;rw[oW,<-of,<-no];calc aM H hg (.inr ?_);rw[c];show aM @Â hi db|some x=>dsimp only;let hx:=@k3;rw[gm,<-a7,@u3,<-fh,(Et,(fO,@ahR,hg))];calc(Ø,G,r2);rcases r3 with r3|⟨r3,I,r5⟩;rw[Ä,r3,<-Ç,aM @e I r5]
def  oR[Ĺ](z:az):@ĕ:=U.set @ft (CQ,(gm,@ft))
def Cu[R][bt][o]:@A2=(P,i,@ft,(CQ,@c!),@c!):=by
 delta oR;rw[eY,aiz];by_cases h:@ft=i;.rw[(@f0),aj (hs,T.len),aj @mb,h];rfl
 .rw[(@eH),(fq,h @md),eY]
def azD[ř](D:@tI)(j:@Eh)[bt](db:(uw,@ft,@oz)):@JM:=by
 let c:∀i x,x∈@A2->@fG\/(i=@ft/\x=(@oz,@Dv)):=by
  ext i x hx;rw[(@lT)]at hx;split at hx;.next h=>rcases bX.1 hx with q|q;rw[Ä,q,<-Ç,{h,@Pq}]
  rw[Ä,hx]
 let old:∀i x,@fG->x∈@A2:=by
  ext i x hx;rw[(@lT)];split;.show@wv
  .show hx
 rw[i!,by delta oR;rw[B1,T.len],λi hi=>old i _ @uh,<-df,(JT,q),qY D]
 .ext i x hi hx;rcases c i x hx with q|⟨q1,q⟩;.show T.fix i x hi q
  rw[Ê,q,q1,OU D @e (aam z)]
 .ext i x hi hx;rcases c i x hx with q|⟨q1,q⟩;.show T.img i x hi q
  .rw[q,q1];exact cK @Dv @oz=_;rw[<-qm z,<-xD @act,xF D,zk]
 rw[df,T.lt i x hi q,D.lt _ hz,<-df,T.gen i x hi q,(sS,j)]
 .ext i hi;rw[(@lT)];split;.next h=>rw[bF,Gk];calc(Ø,@l4,@A);ext a ha b hb e;rw[À,ha,@u9];subst bH;rw[iJ,@oz];rw[h]at hx;show db x hx (e.trans this)
  .show@l4
def azE[R](d:@JM)[bt]:(mi,@gJ->@aq'):=by
 ext z_;cases z_ with
 |zero=>ext i hk h s;rw[Į];subst this;show(Ct d).2 @aep
 |succ k M=>
  ext i hk h s;rw[į];calc@zO;calc(Iz,@ar5);rw[(@lT)];split;.show@wv
  .show hx
def azF[R](d:@JM)(D:@tI)[bt]:(mi,@à->@bc->@ey=z->@aq'):=by
 ext z_;cases z_ with
 |zero=>ext i hk h H hf hr;rw[Į];subst this;show(Ct d).2 @qp
 |succ k M=>
  ext i hk h H hf hr;rw[į];rw[(@xU)]at hr;cases e:(U.getD i []).find? λx=>x.1==at_ h i with
  |none=>rw[bO];let N:h=z:=hr;subst N;rw[oW,<-of,<-no];calc(tO d hi).2 (HI H hf (@ĵ,@gl) ?_ @d ?_);rw[Ö,@lT,aj c.symm,c,@kR,<-Â,xF H,aal d @nZ @Q @e]
  |some x=>
   rw[bO];let hx:=@k3;rw[gm,<-a7,@u3];calc(Iz,(Et,hr));rw[(@lT)];split;.show@wv
   .show hx
def  both(z:az)(F:@È):@È:=F.flatMap λo=>[@NQ,@MS]
structure rh[c](S P:@È)[Ĺ](F W:@È):@v where
 tab:@ė
 fh:∀z∈F,@aig
 wh:∀z∈W,@aig
 found:@anS
 two:(EX,@abp\/@aw∈W)
 gens:∀g∈P,@EE\/g∈W
 count:@e?+n=@acT
def  start[c]:@ĕ:=(d4,@amg)
def zC[V]:(start n).getD i []=@amg:=by delta start;rw[eY,bB,Ay hi];rfl
def azG[Ú]:rh n S [] @Rw [] []:=by
 let T:jq n S @Rw:=by
  rw[i!,by simp[start],?_];all_goals ext i
  rw[a0,@bO,<-a0,@xv,<-a0,zk n _,<-a0,hi,<-a0,@d1,<-ky,<-ky]
 calc{T,@A,@A,?_,@A,@A,?_};.ext i x hi hx;rw[zC hi]at hx;rw[dt.1 hx];show .inl @apB
 .let:(d4,((start n).getD i []).length)=(cj,λ_=>1):=by rw[Î];ext i hi;rw[zC @gn];rfl
  rw[ê,UJ];simp
def alF{W:@È}(I:@LX):@e?<=@fX:=by
 let h1:@acT<=(hG,λ_=>2*n):=by calc UI _ @eF;let g:=@gn;rw[Ķ,(vh,i),@jC,by ext y hy;rw[À,hy,@Rx];subst cb;show EE.2 (I.tab.lt i x g hx)];let:=(I.tab.nodup i g).length_le_of_subset kT;rw[eF,Hk]
 rw[UJ]at h1;let:=I.count;omega
def P1{l:@ß}{x w:α}(hw:l.getLast?=some w)(hx:@ps):x∈l.dropLast\/x=w:=by let{r,hr}:=El.1 hw;rw[hr]at hx⊢;rw[Od];rcases bX.1 hx with q|q;rw[Ä,q,<-Ç,@Pq]
def azH{W:@È}(I:@LX){w:az}(hw:@abB)(hs:@cr=@Õ):(dx,P,W.dropLast):=by
 rw[lU];let s:(j8,w):=(aM @N_ @GJ (d,pj,hs));calc(Iu,(w1,z,hz),@n!);.rcases I.two a b ha hb with q|q;rw[Ä,q,<-ey,q,s]
 .rcases I.gens g hg with q|q;rw[Ä,q,<-ey,q,s]
def aaq{x:az}:x∈@afZ↔∃o∈F,x=@NQ\/x=@MS:=by delta both;rw[lI];constructor;rw[kM,<-kM]
def azI{W:@È}[v](I:@LX){w:az}(hw:@abB)(hs:@cr≠@Õ):@k!<n/\cf n @cr/\(uw,@k!,at_ @cr @k!)/\rh n S P @aa8 @KR (W.dropLast++both @cr @KR):=by
 rw[lU];let r:=azC v @i5 n 0 @e w @N_ @GJ (I.wh w c).2;rw[pj]at r;clear r;calc cy λD j r3=>?_;rcases r3 with r3|⟨_,hz,db⟩;rw[Í,r3,hs];let d:=azD v @i5 D j hz db;let mono:=λh(s:Sg n U 0 h)=>azE @i5 d hz n 0 @e h s;let f:Sg n @aa8 0 w:=azF @i5 d D hz n 0 @e w @N_ @GJ @JI;calc{hz,D,db,d,?_,?_,?_,?_,?_,?_};rw[iw,I.fh y q,⟨D,j⟩]
 .ext y hy;rcases bX.1 hy with q|q;.show(w1,y,q)
  .rw[x,aaq.1 q,λo N q=>?_];let t:cf n o/\(Ġ,o):=by
    rcases bX.1 N with p|p;.show I.fh o p
    rw[þ,p,⟨D,j⟩]
   rcases q with q|q;rw[û,{kM D t.1,(fO,j,t.2)},<-û,{kM t.1 D,(fO,t.2,j)}]
 .ext i x hi hx;rw[(@abR)]at hx;let old:@fG->(vP,@KR):=λq=>by
   rcases I.found i x hi q with p|p;.show .inl p
   rw[Ç,(ù,p)]
  split at hx
  .rcases bX.1 hx with q|q;.show old q
   .rw[dt.1 q];right;let:@aih=@cr:=Kz (qY D) D (xF D);exact@aih∈_;rw[Ã];simp
  .show old hx
 .ext a b ha hb;rcases bX.1 ha with pa|pa
  .rcases bX.1 hb with u|u;.rcases I.two a b pa u with q|q;rw[Ä,@ajM,<-lg]
   rw[kR,u,ab a ha @bN]
  rw[kR,pa,ab b hb @ì]
 .ext g hg;rcases I.gens g hg with q|q;rw[Ä,@ajM,<-lg]
 .let hc:=I.count;rw[eM,xu];let e:(aT,l.Nodup->(l.map λi=>((oR U @cr).getD i []).length).sum=(l.map @awx).sum+(g4,@k!∈l)):=by
   ext l;cases l with
   |nil=>ext _;simp
   |cons i l ih=>
    ext hd;rw[pd]at hd;rw[cT,jB,ih hd.2,cT,jB,(@abR)];by_cases q:i=@k!;.rw[aj q,ag (e7,hd.1),aj @ZM,eM,xu];omega
    .rw[ag q];by_cases q2:@k!∈l;.rw[ÿ,q2,(í,q2)];omega
     .rw[ag q2,ag (by ext z;rcases eJ.1 z with z|z;show q @mj;show q2 z)];omega
  rw[e _ aXb,aj (kt.2 hz)];omega
def azJ[v](I:@ac!)[Č](hg:@gc):(dx,P++[g],[g]):=by
 calc(Iu,(mC,hz,{@xu,(sG,hg)}),@k2);.rcases I.two a b ha hb with q|q;rw[Ä,q];.simp at q
 .rcases bX.1 hy with q|q;.rcases I.gens y q with p|p;rw[Ä,p];.simp at p
  rw[Ç,q]
def alG(I:@ac!):@yA/\∀g∈P,@EE:=by
 rw[Á,{I.found,@awM},@n!]
 .rcases I.two a b ha hb with q|q;.show q
  .simp at q
 .rcases I.gens g hg with q|q;.show q
  .simp at q
structure xI[aC](R W:@Đ):@v where
 nodup:R.Nodup
 lt:@Ry
 start:@Ý∈R
 reach:∀x∈R,∃h,@ų/\@eB=x
 wait:∀x∈W,@Jl
 closed:∀x∈R,x∈W\/∀g∈S,@LE
def azK[e]{R:@Đ}[ç](I:@ad1)(y:@Ü):y∈R↔@Af:=by
 constructor;.show I.reach y
 .rw[E,λh hg aW=>?_];subst aW;cases hg with
  |one=>rw[zk];show I.start
  |@mul g h hm hh ih=>
   rw[(@ab?)];rcases I.closed _ ih with z|z;.simp at z
   .show z g hm
def alH[v][D]:(de,@Rz)↔@ų:=by
 let k:eI n @Rz:=λg hg=>by rw[À,hg,@h'];subst bf;show qY (v x hx)
 constructor;.apply(w2,v);rw[À,hg,@Px];subst bu;show(sS,(sG,hx))
 .apply(w2,k);let:=Gen.back k (Gen.mem k @amF);rwa[Kz (qY @xu) @xu (xF @xu)]at this
def  wv[c](l:@Đ):@Đ:=(signed n).filter λx=>@RA
def azL[e]{ws:List tq}(v:eI n @GK)[Ó]{R:@Đ}(I:xI n i @GK R [])(y:@Ü):y∈comesTo n ws i↔y∈R:=by
 let k:eI n @ajN:=λg hg=>by rw[À,hg,@u9];subst bH;show qY (v _ @xE)
 delta comesTo;rw[(we k hi).mem_iff k hi,azK v hi I];let e:@ajN=(ws.map (du n)).map back:=(Q,b6);rw[e];constructor;rw[ng,(alH v h).1 hg,<-ng,(alH v h).2 hg]
def azM{l R:@Đ}(h:∀y,y∈l↔y∈R):(l',n,(ES,l.contains @Ý,l.contains @pV))=(w3,n,R):=by
 let hc:∀y,l.contains y=R.contains y:=λy=>by rw[Ô];rw[iW,iW];show h y
 delta wv signed;rw[List.filter_flatMap,List.flatMap_assoc];congr 1;funext i;rw[hc,hc];let e:(@anO:@Đ).filter @aii=(fF,R.contains @Ý,@Ý)++(V,R.contains @pV,[(i,@o)],[]):=by rw[mi,mi,aXc];cases R.contains (i,false)<;>cases R.contains (i,true)<;>rfl
 rw[e];cases R.contains (i,false)<;>cases R.contains (i,true)<;>rfl
def  Cv(a b:@Ü):@v:=a.1<b.1\/(a.1=b.1/\aD a.2<aD b.2)
def azN[c]:(signed n).Pairwise Cv:=by
 delta signed;rw[avK];rw[Ì,λi _=>?_];.simp[Cv,aD]
 .rw[rQ];ext a b ha hb d x hx y hy;rw[rR]at hx hy;left;let h1:x.1=a:=by simp at hx;rcases hx with z|z<;>rw[z]
  let h2:y.1=b:=by simp at hy;rcases hy with z|z<;>rw[z]
  simp[*]
def azO{R:@Đ}(hd:R.Nodup)(bK:@Ry):R.Perm @N'/\(wv n R).Pairwise Cv:=by
 let hs:=(azN n).sublist (AB (p:=@aii));rw[æ,hs];calc(avN hd ?_).2 @FL;.rw[qT];calc hs.imp λ{a b}h e=>?_;subst e;delta Cv at h;simp_all
 .delta wv;rw[jk,iW,EE];show(iU,{@aie,h},h.2)
def azP[e]{R W:@Đ}(I:@ad2):@acM:=(HA,I.lt x hx,I.nodup.length_le_of_subset kT)
structure wx[aC][Ý][r](R W:@Đ):@v where
 nodup:R.Nodup
 lt:∀y∈R,y.1<n
 start:@Ý∈R
 reach:∀y∈R,@Af
 wait:∀y∈W,y∈R
 closed:∀y∈R,y∈W\/y=x\/∀g∈S,cK g y∈R
 xin:@Jl
 part:∀j g,j<k->(Ë,S,g)->@LE
def azQ[e][ū][Ó]:(fo,@oJ,@oJ):={@A,λx hx=>(Į,dt.1 hx),@A,λx hx=>ab @Õ @d1 (u,dt.1 hx,zk),λx hx=>hx,λx hx=>.inl hx}
def xI.pop[e][œ](I:(fo,R,@Kk)):(ld,0):=by
 calc{@mm,I.lt,I.start,I.reach,λy hy=>I.wait y (ù,hy),@k2,I.wait x @A,λj g hj=>@ax4};rcases I.closed y hy with h|h;.rcases bX.1 h with h|h;rw[Ä,h,<-Ç,.inl @FO]
 rw[Ç,@uA]
def wx.old[Ů][œ][Č](M:@L_)(hg:@agX)(h:@LE):(ld,@û):=by calc{M.nodup,M.lt,M.start,M.reach,M.wait,M.closed,M.xin,λj g' hj u=>?_};rw[cj,<-mE,h];.show@arP
def wx.add[Ů][ç][œ][Č](M:@L_)(hg:@agX)(h:@sZ∉R):wx n i S x @û (R++[@sZ]) (W++[@sZ]):=by
 let d:=eD hg;calc{?_,?_,(ù,M.start),?_,?_,?_,(ù,M.xin),?_};.rw[Gk];calc aM M.nodup @A (λa ha b hb=>?_);rw[dt.1 hb];ext e;show h @J?
 rw[iw,M.lt y q,(v g d).lt' (M.lt x M.xin)]
 .ext y hy;rcases bX.1 hy with q|q;.show M.reach y q
  .rw[dt.1 q];rw[x,M.reach x M.xin,λh' u e=>?_,<-â,aY g h',Gen.mul d u];rw[(fp,(u.isHand v).len),e]
 .ext y hy;rcases bX.1 hy with q|q;.show(ù,M.wait y q)
  .show@aae
 .ext y hy;rcases bX.1 hy with q|q;.rcases M.closed y q with c|c|c;rw[Ä,(ù,c),<-Ç,.inl c,<-Ç,.inr λg' u=>(ù,c g' u)]
  rw[Ä,@aae]
 .ext j g' hj u;rw[cj,<-mE,@kR];.show(ù,@arP)
def wx.fin[e][œ](M:(ld,S.length)):@ad2:=by
 calc{M.nodup,M.lt,M.start,M.reach,M.wait,@k2};rcases M.closed y hy with c|c|c;rw[Ä,c];.right;subst c;ext g hg;let{j,hj,e}:=oC hg;show M.part j g hj @abE
 rw[Ç,c]
def aar[Ů][œ](M:@L_):@acM:=(HA,M.lt x hx,M.nodup.length_le_of_subset kT)
def alI:∀{A B:@Đ},A.Perm B->A.Pairwise @apG->A.Nodup->B.Pairwise Cv->A=B
 |[],B,p,_,_,_=>(ø,p.symm.eq_nil)
 |a::A,[],p,_,_,_=>by let:=p.eq_nil;cases this
 |a::A,b::B,p,h1,nd,h2=>by
  let nv:=avZ.1 h1;let kX:=avZ.1 h2;let e:a=b:=by
   by_cases e:a=b;.show e
   .exfalso;let c:a∈B:=by
     rcases eJ.1 (p.mem_iff.1 (pw:a∈a::A))with q|q;.show absurd q e
     .show q
    let S:@pE:=by
     rcases eJ.1 (p.mem_iff.2 (pw:b∈b::B))with q|q;.show absurd @md e
     .show q
    show nv.1 b S (kX.1 a c)
  subst e;rw[alI p.cons_inv nv.2 (pd.1 nd).2 kX.2]
def azR(g:az)[Ý]:(aD (l_,g)+@nc)%2=aD (cK g x).2:=by exact _=aD ((l_,g)!=x.2);cases(at_ g x.1).2<;>cases x.2<;>rfl
def aas:∀(l:@h)(j v:Nat)(h:j<@Ã),@ajx+l[j]=l.sum+v|[],j,v,h=>@wP|a::l,0,v,_=>by rw[List.set_cons_zero,jB,jB,List.getElem_cons_zero];omega|a::l,j+1,v,h=>by let ih:=aas l j v @Ÿ;rw[aW6,jB,jB,List.getElem_cons_succ];simp+arith[*]
def  qv[x]:Nat:=@bE
def alJ[da][V]:qv @dt%2=qv r%2:=by
 delta iE qv;dsimp only;let hl:=H.len;rw[cr];let E:@cB≠i:=by rw[hl];rcases ft (i+1) n with z|z;rw[aO,iN z];.rw[(cB,@Q),yT];omega
 generalize@cB=j at hj E;rw[yS,yS];let d:@Ky=r[i]'@C:=(aW,@eE);let b:r.getD j @mQ=r[j]:=(aW,@kr);let hb:∀c:dX,aD (c.turned @o).up=1-@uM:=λc=>by let{a,u}:=c;induction u<;>rfl
 rw[hb,hb,d,b];let e1:=aas ((r.map @fi).set i @afx) j (1-aD (nK,i)) @pc;let e2:=aas @FP i @afx @J!;rw[List.getElem_set_ne (λz=>E @mj)]at e1;rw[jY]at e1 e2;let b1:=Pe (nK,i);let b2:=Pe @kl;omega
def HJ[ê]:@av↔∃c,(GJ,c):=by
 delta fK;rw[H.len,(@dD),pk];constructor
 .rintro(h|h);.show{0,@ai3}
  .show{1,@ai3}
 .rintro⟨c,h⟩;let mk:∀c',(GJ,c')->(mB,c'):=by ext c' h';delta tj;rw[(@bW),j_];ext no db;let{a,b}:=@F4;rw[h' no a b];show TV c'
  rcases ft c 2 with z|z;.rw[Ś,c,c];rcases this with e|e;rw[Đ,.inl (mk 0 h),<-Đ,.inr (mk 1 h)]
  .left;calc mk 0 @GL;let:=h no a b;rw[m4];omega
def alK{a b c:Row}(A:aJ n a)(B:aJ n b)(C:aJ n c)(h1:(tN,b))(h2:fK b c=@o):(tN,c):=by
 rw[Ą];.rw[HJ A hn]at h1⊢;rw[HJ B hn]at h2;let{x,hx}:=h1;let{y,hy}:=h2;show{@e8,λno a b=>zpi (hx no a b) (hy no a b)}
 .let N:@iE:=@Ä;rw[tL A B N,cG]at h1;rw[tL B C N,cG]at h2;rw[tL A C N,cG];simp[*]
def azS{a:Row}(A:aJ n a):(tN,a):=by
 rw[Ą];.show(HJ A hn).2 {0,λno _ _=>@lg}
 .rw[tL A A @Ä,cG]
def azT[da][V]:(aj,@dt):=by
 rw[Ą];.show(HJ H hn).2 {0,λno a b=>(Ŀ,US H hn hi a b)}
 rw[Ê,tL H @pQ @Ä,cG,(alJ H h2 hi).symm]
def azU[cI]:qv @a?=qv r:=by delta qv e_;rw[bF,Gm,Ar,<-Gm,<-bF,Gw]
def azV[c?]:(m5,(aj,@a?)):=by
 ext z_;cases z_ with
 |zero=>rw[Ę,(d,KG,azS H)]
 |succ k M=>
  ext hk;let ih:=@gm;let e:e_ @û r=e_ 1 @a?:=by
   rcases ft 1 n with z|z
   .rw[Pr (Œ,z) @h3,H.len];rcases ft (1+k) n with y|y;.rw[iN y,Ar]
    .rw[(cB,1+k),yT,KG,(cB,@û)];delta e_;rw[yP @Y',Eg @Y',GF]
   .rw[(Ò,k=0),KG]
  rw[e];let K:=@aen;calc alK H K @QF ih ?_;rw[Ą];.apply(HJ K hn).2 {1,@GL};let:=UT K hn a b;exact(@Y8+(ő,(e_ k r).drop 1++(e_ k r).take 1))%2=1;omega
  rw[Ê,tL K @QF @Ä,cG,dS (λx_=>x_%2) (azU 1 @a?).symm]
def aat[E][Å]:(wN,(Ś,r),@av):=by ext z_;cases z_ with|zero=>ext r H h;rw[x,KI H J @e h,@DC,<-Ć];show azV H @e k @e|succ m M=>ext r H h;clear h;rw[E,@Gj];rw[H.len]at hi;let E:=@pQ;show alK H E J (azT H h2 hi) (M E h)
def aau:∀(l:@h){m:Nat}{r:Row},@T->@ku->(Ś,@JD)->R q (l6,m) r:=by ext z_;cases z_ with|nil=>ext m r _ _ h;show h|cons i l M=>ext m r H hl h;rw[gi,<-â,i,@n2];show M @pQ @ajb h
def azW[da]:∀k,k<=@Û->aJ n @zN/\(hb,cd @zN m,if m<@Û-k then@dQ else(P,m,@Û-k,@am6,(g3,m-1))):=by
 ext z_;cases z_ with
 |zero=>
  ext _;calc{by simpa[cQ]using H,@h?};let e:cQ r (Bp,0)=r:=by simp[cQ]
  rw[e];by_cases z:m<@Û-0;.rw[aj z]
  rw[Ö,ag z,aj @e,(Þ,m,@Û),(Pg _).symm]
 |succ k M=>
  ext hk;let{I,h}:=@gm;rw[UQ @e,Cg];rw[js,n=d+k+2,n-(k+2)];let j:@Û=d+k+1:=(Q,g);let s1:@Û-1-k=d:=(Ė,g);let s2:@Û-k=d+1:=(Ô,j,NU,tp);let s3:@Û-@û=d:=(Ô,j,qf,tp);rw[s1,s3];rw[s2]at h;generalize@zN=r' at I h;rw[nq];rw[et];let f:d+1<n:=by rw[g];simp[qf]
  rw[jm,(u,I.len,iN f),<-Á,qo I @e,@h?];rw[uT (Ú,I.len) (bB,I.len),b];by_cases z1:d+1=m;.let c1:cd r' d=cd r d:=(u,h _ @e,aj @kq);rw[aj z1,c1,(@aX),(@aX)];rw[<-z1,tp]
  .rw[ag z1];by_cases z2:d=m
   .let c1:cd r' (d+1)=@am6:=(Ô,h _ @e,ag @fJ,@Þ);rw[aj z2,c1,(@aX),aj @e];generalize cd r @Û=c;let{a,u}:=c;let:(@û%2==1)=!@axP:=by rcases Ea k with y|y;rw[ä,y,tf,y,<-ä,y,tf,y]
    rw[Ã];induction u<;>cases(k%2==1)<;>rfl
   .rw[ag z2,h m hm];by_cases z3:m<d+1;.rw[ÿ,z3,@e]
    .rw[ag z3,(ģ,z1 @mj),(@aX),(@aX)]
def  oS[Đ][x]:Row:=(bP r.length).map λm=>(P,m,j,@dQ,@p')
def AX[Đ][x]:(hE,(oS j r).length):=by simp[oS]
def P4{j m:Nat}[H](hm:(b',m)):cd @ov m=(P,m,j,@dQ,@p'):=by rw[lP (bB,AX)];simp[oS]
def azX{r s:Row}[Î](hl:@IS)(h:(hb,(cd s m).no,@tX)):@IL:=by
 rw[Ì,hl];let:s.map ic=@oK:=by rw[ĵ,by rw[aw,aw,hl,H.len]];ext i h1 h2;rw[jY,jY,<-lP,<-lP];show h i (yW,hl)
 rw[Ã];show@mc
def K6[B][Đ]:aJ n @ov:=by calc azX H (fV,AX) @h?;rw[(@af0)];split<;>rfl
def alL[Å](N:@iE)[B][Ĩ][ı](h:(Ś,@ov)):∃m',R q m' r:=by
 rw[Ń];let hk:@jV<n:=@cW;let p:=zw (k:=@jV) H;let{I,hd}:=azW p h2 @Û @Â;let K:(Bp,@Û)=@ug:=Eg (ż,Pb);rw[K]at I hd;let a:∀i,i<n->cd @En i=cd r ((i+@jV)%n):=λi hi=>(fV,@aem);let b:∀i,i<n->cd @aiW i=cd @aoV i:=by
  ext i hi;rw[hd i hi,wm (r:=@ov) (uS,jc @cW) (uS,hi),AX,H.len,P4 (Œ,@cW),iN hj,(@gp)];by_cases z:i=0
  .rw[(@FZ),a @Û @e,z,oE,iN hj,(@Þ)];rw[É,(@Û+@jV)%n,j,by
    revert N;rcases ft (j+1) n with y|y;.rw[iN y,(Þ,@Û+@Ö,j+n),Aw,iN hj]
    .rw[(@apH),yT,D_,(@gh)];omega];rw[e1,show(ŏ,@Û%2,1)by rw[(Ò,@Û%2=0)];rfl];show Pg _
  .rw[È,(i-1+@jV)%n,(i+j)%n,by
    revert N;rcases ft (j+1) n with y|y;.rw[iN y,(Þ,i-1+@Ö,i+j)]
    .rw[(@apH),yT,D_,(@gh),(Þ,i+j,i-1+n),Aw,(@gh)]];let e3:¬(i+j)%n=j:=by
    revert N;ext e;rcases ft (i+j) n with y|y;.rw[iN y]at e;simp_all
    .rw[(Ā,i+j,(i+j-n)+n),Aw,(@gh)]at e;omega
   rw[(@gp),a (i-1) @e,e2,ag e3]
 let c:cQ @En @ug=@aoV:=zv (by rw[I.len,oP,AX,H.len]) λi hi=>b i (by rw[I.len]at hi;show hi);let hR:(Ś,@aiW):=(d,c,(Hu h0 (zw @M6) @M6 (EK @M6 h0 @cW)).2 h);let:=aau @ug p @aib hR;show{_,Pu h0 _ H hk this}
def  rk(r q:Row):@h:=(bP r.length).filter λm=>@ah?
def azY[E][Å](N:@iE):∀(w:Nat){r:Row},@T->(hb,@tX,@B_)->(mj,r)=2*w->@P9:=by
 ext z_;cases z_ with
 |zero=>
  ext r H he hw;let:r=q:=zv (tw,J.len) λm hm=>by
   let ot:m<n:=(e8,hm);let g:@qi=[]:=rS.1 @C;let hu:@fW=@h5:=by let:¬m∈@qi:=(Ė,g);delta rk at this;rw[jk]at this;let h3:(fM,@ah?):=λz=>this {kt.2 hm,z};simpa using h3
   let db:=he m ot;generalize@dQ=a at*;rw[jF,<-bM];let{b1,b2}:=b;let h3:a1=b1:=db;let h4:X=b2:=hu;rw[h3,h4]
  show{0,by exact@eS=@ee;rw[Ã]}
 |succ w M=>
  ext r H he hw;obtain⟨i,j,t,ht⟩:∃i j t,@qi=i::j::t:=by match U:@qi with|[]=>rw[U]at hw;simp at hw|[x]=>rw[U]at hw;simp at hw;omega|i::j::t=>show K7 i j t @d
  let dJ:(rk r q).Nodup:=aXb.sublist AB;let mem:∀x∈@qi,x<n/\(mf,x)≠(cd q x).up:=by ext x hx;let{a,b}:=jk.1 hx;show{(e8,kt.1 a),by simpa using b}
  let hi:=mem i @JV;let hj:=mem j @JV;let E:i≠j:=by rw[ht,pd]at dJ;ext e;show dJ.1 @axB
  let A:=K6 H i;let B:=K6 A j;let kn:(hb,cd @uj m,if m=i\/m=j then@p' else@dQ):=by
   ext m hm;rw[P4 (uS,hm),(@af0)];by_cases z1:m=i;.rw[(@gp),aj z1,aj (.inl z1)]
   .by_cases z2:m=j;.rw[aj z2,(@uO),aj (.inr z2)]
    .rw[ag z2,(@uO),(@aX),U5]
  let db:(lY,@uj):=by ext m hm;rw[kn m hm,<-he m hm];split<;>rfl
  let o0:@acn=t:=by
   rw[É,@acn,(rk r q).filter λm=>decide (m≠i/\m≠j),by
    delta rk;rw[AX,AX,List.filter_filter];refine TW;ext m hm;let ot:m<n:=(e8,kt.1 hm);rw[kn m ot];by_cases z:m=i\/m=j
    .rw[aj z];let d:@fW≠@h5:=by rcases z with z|z<;>rw[z];show hi.2;show hj.2
     rw[(@oW),zd];generalize@dQ=c at d;let{c1,c2}:=c;generalize@h5=u at d;let f:c2≠u:=d;exact((c2 !=@o)!=u)=@Å;induction c2<;>induction u<;>first|rfl|rw[ö,f]
    .rw[ag z,(@ky),Eo]];rw[e1,ht];rw[ht]at dJ;rw[pd,pd]at dJ;rw[mi,(@kw),mi,(@kw)];calc oH.2 λm hm=>bN (lO,dJ.1 ?_,dJ.2.1 ?_);.rw[Ć];show(í,hm)
   .rw[Ć];show hm
  let hl:(mj,@uj)=2*w:=by rw[o0];rw[ht]at hw;simp at hw;omega
  let{m,hm}:=M B db hl;let{m',ot}:=alL h2 N A hj.1 hm;show alL h2 N H hi.1 ot
def azZ[Ã]:(mj,r)%2=(qv r+qv q)%2:=by
 let e:∀s:Row,@IS->qv s=(hG,(sN,(pi,s))):=by ext s hs;delta qv;congr 1;rw[ĵ,by simp[hs]];ext i h1 h2;rw[jY,jY,rR,lP @vG]
 rw[e r H.len,e q J.len];delta rk;rw[H.len,O9];let:(cj,λm=>aD (@fW !=@h5))=(cj,λm=>(aD @fW+aD @h5)%2):=by rw[Î];ext m _;show O_ _ _
 rw[Ã];show aka (sN,@fW) (sN,@h5) @uH
def az0[Ã][Å](h:@av):@P9:=by
 rw[Ń,<-Ą]
 .obtain⟨c,dB,hc⟩:(i!,(rq,((ő,@r4)+@jt)%2=0)):=by
   let{c,hc}:=(HJ H hn).1 h;by_cases z:c=0;.show ab 0 @C (λno a b=>(kn,KG,z,@Ak))
   .apply ab 1 @C @GL;let h1:=@Ak;let h2:(y',e_ 1 r):=UT H hn a b;rw[m4];omega
  let p:=zw (k:=c) H;rw[o4,p];rw[pj]at o1 o2;let T:=zm (ey,@r4) p o1;let hs:(zC,@ys):=by ext no a b;rw[akg hn _ p o1 a b];let:=@Ak;omega
  let e:@ys=q:=by calc zv (u,T.len,J.len) @h?;let ot:m<n:=(K,T.len,hm);let e1:=o2 m ot;rw[Ū,ot];let e2:=hs _ b1 b2;let e3:=pF T ot;let e4:=pF J ot;rw[e1]at e3;rw[e3,e4]at e2;generalize cd @ys m=a at*;rw[jF,<-bM];let{d1,d2}:=b;let h3:a1=d1:=e1;subst h3;revert e3 e4;induction X<;>induction d2<;>first|rfl|simp[aD]at e2;omega
  let hR:R q 0 @ys:=@h0;show{_,Pu h0 _ H @e (aau _ p o1 hR)}
 .let N:@iE:=@Ä;rw[o4,H];rw[pj]at o1 o2;let T:=zm @axH H o1;let o:qv @YX%2=qv r%2:=by
   let key:∀(l:@h){s:Row},@IL->@ku->qv (cQ s l)%2=qv s%2:=by ext l;cases l with|nil=>ext s _ _;rfl|cons i l ih=>ext s S hl;rw[gi];let:=ih (qo S hi) @ajb;exact qv (cQ (iE s i) l)%2=_;rw[ê,alJ S h2 hi]
   show key _ H o1
  let f:=azZ T J;rw[tL H J N,cG]at h;let h':qv r%2=qv q%2:=h;let{m,hm}:=azY J h2 N ((mj,@YX)/2) T o2 @e;show{_,aau _ H o1 hm}
def alM[Ã][Ĥ]:@av↔∃w,@p0:=by
 constructor;.ext h;let{m,hm}:=az0 H J h2 h;rw[x,U8 m hm,@QP];show{_,(akD J h2 h6 m' H hd).2.1}
 .rintro⟨w,hw⟩;show aat J h2 _ H @ahO
def K8[H][E][V]:(Ħ,@fF)=(@Kz,@pW !=eQ r @h4):=by let hl:(lM r q).length=n:=@aeQ;rw[iF @e];delta lM;rw[jY,(@afU)]
def K9[Ã]:cf n @fF:=by
 calc{@aeQ,@eF,@Qd};.rw[K8 J hi];rw[Ū,hi];show(place_lt H b1 b2).1
 .rw[K8 J hi,K8 J hj]at e;rw[Ū,hi];let{c1,c2}:=r9 J hj;let F:@Kz=(pt,j):=e;let h1:=(place_lt H b1 b2).2;let h2:=(place_lt H c1 c2).2;rw[F,h2]at h1;show(akd J hj hi h1).symm
def az1[Ã]:(å,@fF)=q:=by rw[dx];calc zv (by delta done;rw[aw,B.len,J.len]) @eF;rw[ď,by delta done at hi;rw[aw,B.len]at hi;show hi];rw[Pt @ac1,K8 J g];rw[Ū,g];let{W,p2}:=(qy,H);let hs:=zn H W;rw[p2]at hs;dsimp only;rw[hs];generalize cd r @Kz=a at*;generalize@sf=b at*;rw[bM];let{d1,d2}:=b;let h3:a1=d1:=p2;subst h3;induction X<;>induction d2<;>rfl
def alN[Ã][k](G:@à)(e:@eA=q):h=@fF:=by rw[dx];calc xC (yk,G.len) @eF;rw[ď,@aeI];rw[K8 J g];let h1:=Pt (h:=h) (r:=r) hi;rw[e]at h1;let hp:=G.lt i g;let h2:@h4=(c_,@lB):=(Q,h1);let h3:=Ch H hp @i4;let hs:=zn H hp;rw[<-h2]at hs;rw[h3,hs,h1];generalize cd r @lB=a;generalize@ĵ=x;rw[bM];let{j,D}:=x;exact(j,D)=(j,(X !=D)!=X);induction X<;>induction D<;>rfl
def  iU[İ]:az:=@avZ
def  gM[cK]:az:=ks.foldl @Fa @Õ
def  oh[cK]:@v:=∀k∈ks,k<n
def zD[cK][r]:gM n @or=aY @ke (iU n k):=by delta gM;rw[Gr];rfl
def K_[f][Å][Ï]:cf n (iU n k):=kM (lz @e @e) (tM h2)
def oh.snoc[f][ĺ](h:@e3)[Ï]:@aau:=λx hx=>by
 rcases bX.1 hx with z|z;.show h x z
 rw[þ,z,hk]
def oh.init[f][ĺ](h:@aau):@e3/\k<n:={λx hx=>h x @wv,@Ev}
def HL[ĺ](h:@b6=d+1):∃i k,ks=i++[k]/\i.length=d:=by
 obtain⟨i,k,e⟩:∃i k,ks=i++[k]:=by cases hk:ks.getLast? with|none=>rw[GH.1 hk]at h;simp at h|some k=>let{i,hi}:=El.1 hk;show wk i k hi
 calc fM i k e ?_;rw[Ĵ];simp at h;show h
def HN[Å]:∀(d:Nat)(ks:@h),@b6=d->@e3->cf n @ke:=by ext z_;cases z_ with|zero=>ext ks h _;rw[rS.1 h];show@bO|succ d M=>ext ks h hk;calc jH (HL h) (λi k aW hi=>?_);subst aW;rw[zD];show kM (M i hi hk.init.1) (K_ h2 hk.init.2)
structure HP[c][đ][ŵ]:@v where
 ok:@e3
 prod:@ke=M
 few:(oA,M,@b6<=@ő)
 first:(oA,M,@ő=@b6->j0 ks c)
abbrev je:=(ċ,az,@h)
def  P5(a b:@eO):@v:=j0 a.2 b.2/\a.2≠b.2
structure wy[bu](K u:je):@v where
 best:∀x∈K,@Fw/\(rn,d)
 all:∀ks,@e3->@b6<=d->@Ls
 nodup:@oX
 lvIn:∀x,x∈u↔x∈K/\@gX=d
 sorted:@RD
def  sf(i j a k:Nat):@v:=a<i\/(a=i/\k<j)
structure sg[bu](K u:je)(i j:Nat)(N:je):@v where
 base:@ahK
 new:∀x∈N,@Fw/\@gX=d+1/\∃a k y,@xJ/\k<n/\@ahG/\x.2=y.2++[k]
 nodup:(JF,K,N)
 proc:∀a k y,@xJ->k<n->@ahG->gM n (y.2++[k])∈(fR,K,N)
 sorted:N.Pairwise P5
def HQ:∀{a b:@h}{x y:Nat},@ox->@qq->(a=b->x<=y)->j0 (bj,a) (b++[y])
 |[],[],x,y,_,_,h=>by
  rcases ft x y with z|z;.show .inl z
  rw[Ç,{(Ŀ,h @d),gA}]
 |[],_::_,_,_,h,_,_=>@ù
 |_::_,[],_,_,h,_,_=>@ù
 |a::l,b::l',x,y,h,hl,hh=>by
  rcases hl with z|⟨z,hl⟩;.show .inl z
  rw[Ç,{z,HQ @Ÿ hl λe=>hh (dB,z)}]
def wy.start[c]:wy n 0 @ab2 @ab2:=by
 calc{@dw,λks _ h=>?_,@A,@FL,@A};rw[þ,hx,{{λk hk=>by simp at hk,@d,λ_ _ _=>@ð,λ_ _ _ _=>gA},@Â}];.rw[rS.1 (Nat.le_zero.1 h)];simp[gM]
 .constructor;.ext h;show{h,(Q,@FO)}
  rw[Ŕ,h.1]
def wy.mid(I:@ahK):(dT,0,0,[]):={I,@A,(tn,@mm),λa k y hp=>by rcases hp with z|⟨_,z⟩<;>omega,@A}
def sf.next{i j k:Nat}(h:@xJ):@adc:=(CC,J5 q.2)
def sf.back{i j k:Nat}(h:@adc)(e:¬@AZ):@xJ:=(CC,zq5 (λz=>e ⟨q.1,z⟩) q.2)
def sg.row[e](I:(dT,i,n,N)):(dT,@Q,0,N):=by
 calc(oc,@mn,@dw,λa k y hp hk hy=>I.proc a k y ?_ hk hy);.rw[f3,@N!];calc@Bq;delta sf at h1⊢;omega
 .delta sf at hp⊢;omega
def alO(h:@RD){x y:@eO}(d:a<b)(hx:@anM)(hy:(Æ,u,b,y)):P5 x y:=by let{ha,e1}:=@FU;let{hb,e2}:=gL.1 hy;rw[<-e1,<-e2];show rQ.1 h a b ha hb d
def P6{M:az}(h:@acb):∃x∈K,x.1=M:=by rw[aN,h];show@EV
def sg.old[Þ](I:@ae5)[e8](dM:@e2∈(fR,K,N)):(dT,i,@Ö,N):=by
 calc(oc,@mn,@dw,@RE);.rw[f3,@N!];calc@Bq;show h1.next
 .by_cases e:@AZ;rw[mF,dM];.show@ar0
def sg.add[Þ](I:@ae5)[bm][e8](dM:@e2∉(fR,K,N)):(dT,i,@Ö,N++[(@e2,@na)]):=by
 let B:=I.base;let dQ:y∈u:=eD hy;let{v,s}:=(B.lvIn y).1 dQ;let t:=(B.best y v).1;let A:@e2∉@np:=λz=>dM (d,bF,(ù,z));let b_:(bl,y.2,j)=d+1:=by simp[s]
 let few:(oA,@e2,d+1<=@ő):=by
  ext c h1 h2;rcases ft d c.length with z|z;.show z
  rw[Í,(K,h2,B.all c h1 z),A]
 let best:HP n @e2 @na:=by
  calc{t.ok.snoc hj,@d,λc h1 h2=>(d,b_,few c h1 h2),@PV};rw[b_]at h3;calc jH (HL h3) (λit k' bf wY=>?_);subst bf;let{o1,o2}:=h1.init;rw[m?,<-jH,<-lk,@e2,by rw[<-h2,zD,zD n it,f.prod,O]];let w:@gX=d:=by let:=few _ @GM p;simp at this;omega
  rw[ma,⟨g,w⟩,<-gS];let m:@anM:=@ao6;let h:¬sf i j a k':=λz=>dM (K,p,(Gd,z,m));let o:j0 x.2 it:=f.first it o1 O.symm @e;by_cases C:a=i;.subst C;rw[hy]at m;cases m;show HQ @e o (λ_=>@XJ)
  .let bK:i<a:=@XJ;let{s1,s2}:=alO B.sorted bK hy m;calc HQ @e (PP s1 o @e @e) @Ź;exfalso;rw[e]at s1 s2;show s2 (K3 @e s1 o)
 apply{B,@dw,?_,@RE,?_}
 .rcases bX.1 hx with q|q;.apply Cr (I.new x q) @N!;calc@Bq;show h1.next
  rw[þ,q,u_ best b_ i j y (lf,@kq) (aM hj hy @d)]
 .rw[<-gh,bF,Gk];calc aM @mm @A @RF;rw[iJ,@e2];rw[this]at e;show dM @J?
 .rw[<-gh,bF];by_cases e:@AZ;rw[mF,@kR];.show(ù,@ar0)
 .rw[aW4];calc aM I.sorted @A (λx hx b hb=>?_);rw[dt.1 hb];rw[f3,λf r a k z hp=>cy λhk hz fV=>?_];let jy:z.2.length=d:=((B.lvIn z).1 @k').2;rw[Ļ,x.2,@na,by
   ext e;refine dM;let:x.1=@e2:=by rw[<-e,f.prod]
   rw[<-this,bF];show(bb,@xE)];rw[æ,aQ];exact j0 x.2 @na;rw[fV];rcases hp with z1|⟨z1,z2⟩;.let{s1,s2}:=alO B.sorted z1 hz hy;show HQ @e s1 (λe=>absurd e s2)
  .subst z1;rw[hz]at hy;cases hy;show HQ @d (KU _) (λ_=>@e)
def sg.done(I:(dT,@fa,0,N)):wy n (d+1) (K++N) N:=by
 let B:=I.base;apply(oc,@dw,λks hk hl=>?_,@FL)
 .rcases bX.1 hx with q|q;.show{(B.best x q).1,(Ŀ,@ajP)}
  .show{(I.new x q).1,(d,(w5,q),@Â)}
 .rcases ft d ks.length with z|z;.apply jH (HL (Þ,@b6,d+1)) (λit k' bu wY=>?_);subst bu;rw[gQ,<-m?,<-jH,<-lk,gM n (it++[k']),@asz];rw[<-p];rcases ft x.2.length d with y|y;rw[Â,bF,(ù,B.all _ @GM @ŝ)];.rw[ma,(aK,g),<-gS];show(Gd,@kA,@ao6)
  rw[Â,bF,(ù,B.all ks hk z)]
 .constructor;.ext h;show{(bb,h),(w5,h)}
  .rintro⟨h1,h2⟩;rcases bX.1 h1 with q|q;rw[ā,@ajP];.show q
structure La[c](K:je):@v where
 best:@RC
 all:∀ks,@e3->@Ls
 nodup:@oX
def wy.full(I:wy n d K []):@M7:=by
 calc{λx hx=>(I.best x hx).1,?_,@mm};let key:∀(m:Nat)(ks:@h),@b6=m->@e3->@Ls:=by
  ext m;cases m with
  |zero=>ext ks h hk;show I.all ks hk @e
  |succ m ih=>
   ext ks h hk;calc jH (HL h) (λit k bH wY=>?_);subst bH;rw[gQ,<-ev,ih it wY o1];let{f,r}:=I.best x g;let p:gM n (x.2++[k])=gM n (it++[k]):=@asz;rw[<-p];let aQ:@gX≠d:=λe=>by let:=(I.lvIn x).2 ⟨g,e⟩;simp at this
   show I.all _ @GM @ŝ
 show λks hk=>key @b6 ks @d hk
def az2[Å](hb:@RC)(hd:@oX):K.length<=@xR:=by rw[Ķ,@np,@MT,by ext M hM;rw[À,hM,@Rx];subst cb;rw[<-(hb x hx).prod];show(HN h2 _ _ @d (hb x hx).ok).mem_all];let:=hd.length_le_of_subset kT;rw[eH]
def P7{k i:Nat}(hk:@Ŋ)[F][Ó]:(Ħ,@Ů)=@vU:=by rw[(@ai5),(@uG),jY,rR]
def aav[F](ha:a<=n)(hb:b<=n):aY (eg n a) (eg n b)=eg n (@gd%n):=by let A:=lz ha hn;let B:=lz hb hn;let hc:@gd%n<=n:=jc @e1;rw[ū,hc];calc(zD,B.len,C.len);rw[iN,B.len];rw[ql @ac1,P7 hb hn g,P7 hc hn g,qm,P7 ha hn @e1];congr 1;rw[yN,JX];congr 1;omega
def aaw[F]:eg n 0=@Õ:=by rw[ū,@Gk];calc xC (u,C.len,rY) @eF;rw[ď,by rw[C.len]at hi;show hi];rw[P7 @e hn g,uR,D_,iN g]
def az3[Å]:aY @ś @ś=@Õ:=by
 rw[jG];calc(zD,T.len,rY);rw[iN,T.len];rw[ql (hO,T.len),uR,KH h2 g];by_cases u:i=0;.rw[aj u];exact((at_ @ś 1).1,(at_ @ś 1).2 !=@o)=_;rw[KH h2 @e];simp[u]
 .rw[ag u];by_cases z1:i=1;.rw[aj z1];exact((at_ @ś 0).1,(at_ @ś 0).2 !=@o)=_;rw[KH h2 @e];simp[z1]
  .rw[(@uO),qm,KH h2 g,ag u,(@uO)]
def aax[Å][r][Ï]:∀(ks:@h),@e3->yW n @or=aY @ke @Ů:=by
 rw[fJ,<-ū,@hO];let left:∀(ks:@h)(a:az),@pp->@e3->ks.foldl @Fa a=aY a @ke:=by ext ks;cases ks with|nil=>ext a A _;show(xE A.len).symm|cons x l ih=>ext a A jw;let hx:=jw x @A;rw[l3];let S:=K_ h2 hx;rw[BX,ih _ (kM A S) hl];let e:@YO=@ah_:=(Gi,ih _ S hl);rw[e,mm S.len (HN h2 _ l @d hl)]
 ext ks;cases ks with|nil=>ext _;exact@Ů=aY @Õ @Ů;rw[lw]|cons x l ih=>ext jw;let hx:=jw x @A;rw[l3];let S:=K_ h2 hx;rw[É,yW n (@eL++[k]),aY @axx (yW n (l++[k])),(by rw[Oa];cases h:l++[k]with|nil=>rw[ő]|cons y l'=>rfl)];rw[e1,ih hl];rw[È,@YO,@ah_,(Gi,left l _ S hl)];rw[e2,<-mm (HN h2 _ l @d hl).len C]
def  mZ[c][đ][r]:az:=aY M (eg n @ř)
def az4[f]{M:az}[F][Ï](A:@I?):aY @Kq @Ů=M:=by rw[ū,@hO,<-gj];delta mZ;rw[<-mm D.len C,(@An),(cB,@ř+k),yT,(@GN),xE A.len]
def az5[f]{M P:az}[F][Ï](B:cf n P)(e:aY P @Ů=M):@Kq=P:=by rw[ū,@hO,<-gj];delta mZ;rw[<-e,<-(@ail),(@An),(cB,k+@ř),yT,(@GN),xE B.len]
def alP[Å][Ã](A:@M7){w:Way}(hw:@p0)[f][Ï]:@acc:=by
 rw[fJ];calc(Gr,@q6,@IP,@Pw);rw[e]at hw;rw[jE,hw.2.1,<-pa,hw.2.1,hw.2.2,<-mb,<-ū,jc o2,<-gj];let hc:@agW<n:=@e1;rw[jG];let j:=lz (jc hc) hn;let:@axL=gM n (it++[@agW]++[0]):=by
  rw[zD,zD];delta mZ;rw[<-hM,<-(@ail),(@An)];let e0:iU n 0=@ś:=by delta iU;rw[(@GN),lw]
  rw[e0];delta iU;rw[<-mm (kM j T).len T,<-mm T.len T,az3 h2,xE j.len]
 rw[Ã];show A.all _ ((o1.snoc hc).snoc hn)
def  Cw(a b:@h):@v:=@b3<@aY\/(@b3=@aY/\@qq)
def az6[Ã][Ĥ](hc:@av)(A:@M7){w:@h}(hw:@apm)(wX:@apn):@K7:=by
 rw[fJ,<-dx];clear hw;calc cw λk b hk hb cB=>?_;subst cB;let d:=A.best _ hb;let a:(jY,@C9):=by calc(Ø,@A,d.ok.snoc hk);rw[aax h2 k hk b d.ok,d.prod,az4 hn hk B];show az1 H J
 let i:∀w',@ED->Cw @C9 w':=by
  ext w' j;calc(Gr,@mh,@Xj,BY.2 j.1);rw[e]at j⊢;rw[jE,j.2.1,<-mb,<-pa,j.2.1,j.2.2];let c:=az5 hn o2 P hM;rw[ev,alP h2 H J A a o2];let f:=A.best x g;let h1:=wX l x.2 o2 (K,O,g);let wZ:gM n it=x.1:=(u,O,c);let f1:=f.few it o1 wZ;rcases ft x.2.length it.length with z|z;.delta Cw at h1⊢;simp only[eM,xu]at h1⊢;left;omega
  .let hl:it.length=@gX:=@e;let f2:=f.first it o1 wZ hl;let M:j0 (x.2++[l]) (it++[l]):=HQ hl.symm f2 (λ_=>@Â);delta Cw at h1⊢;rcases h1 with h1|⟨h1,nv⟩;.left;simp only[eM,xu]at h1⊢;omega
   .right;simp only[eM,xu]at h1⊢;show(aJ,PP nv M @ŝ @ŝ)
 rcases akE H J h2 h6 with⟨_,h⟩|⟨U,e0,i0,m0,f0⟩;rw[Í,a,h _]
 .rw[e0];let l1:=m0 _ a;let l2:=i _ i0;let hl:@q8=(bl,b,k):=by
   rcases l2 with z|z;.omega
   .show z.1.symm
  rcases l2 with z|⟨_,z⟩;.omega
  .show(fN,K3 hl (f0 _ a hl.symm) z)
def az7(h:@dR):@xR<=2985984:=by rw[akx,Hk];match n,h with|0,_=>decide|1,_=>decide|2,_=>decide|3,_=>decide|4,_=>decide|5,_=>decide|6,_=>decide
def  dP(p:Int):Nat:=(ax,p,17,2,p,18,2,(P,p,22,1,0))
def  rl(p:Int):@Ù:=decide (p=1\/p=10\/p=14\/p=18\/p=20\/p=22)
def az8{p k:Int}(h:¬@yo)(g:0<=k/\k<=22):¬p=k:=λe=>h (ŋ,g)
def az9(p:Int):(dz,uK p,¬@yo)\/(@yo/\uK p=some (dP p,(lQ,rl p))):=by
 by_cases h:@yo;.right;let q:∀k:Fin 23,uK @IT=some (dP @IT,(lQ,rl @IT)):=@ø;let e:=q (aK,p.toNat);rw[av_ h.1]at e;show⟨h,e⟩
 .left;rw[æ,h];delta uK;repeat rw[ag (az8 h @Ó)]
def az_[cU]{c:@gk}{t:@À}(h:@Ba):0<=p/\p<=22/\@ab'/\@asC/\((A,rl p)->∃k rest,(wr,k::@Į,k,@bj,c=[@EQ,rest.take @bj],@bj)):=by
 rcases az9 p with⟨e,_⟩|⟨hp,e⟩;.delta Oe at h;dsimp only at h;rw[Ĵ];cases h
 .delta Oe at h;dsimp only at h;rw[Ĵ];dsimp only at h;by_cases hl:r.length<dP p;rw[b',hl]
  .rw[ě,hl];calc dI hp.1 hp.2 @Ä @RI @RI;.rw[hn,(@Þ)]at h;injection h with h;injection h with h1 h2;show{@mg,@i4}
   .rw[hn,(@ag)]at h;exact∃k rest,_;delta a1e at h;cases hd:r.drop (dP p)with
    |nil=>rw[ż,hd]
    |cons k rest=>
     rw[hd]at h;delta a1f at h;dsimp only at h;by_cases hk:0<=k/\@bj<=@q9;.rw[ô,hk];injection h with h;injection h with h1 h2;show(é,k,@Į,hk.1,@d4,@mg,@i4)
     rw[b!,hk]
def aAa{f:Nat}[cU]{cs:@Ec}(h:(AP,@s0)):∃c t cs' f',@Ba/\B4 uK f' t=some cs'/\cs=c::cs':=by cases f with|zero=>cases h|succ f=>delta B4 at h;cases e:Oe uK (p::r)with|none=>rw[fj]|some x=>let{c,t}:=x;rw[Ĵ];dsimp only at h;cases e2:B4 uK f t with|none=>rw[ż,e2]|some cs'=>rw[e2]at h;injection h with h;show(â,c,t,cs',f,e2,@mb)
def aAb{f:Nat}{cs:@Ec}(h:(AP,[])):cs=[]:=by cases f with|zero=>rw[ln]|succ f=>rw[ln]
def  jQ[t](step:@xa):α->gK->α×@c9|s,[]=>@aed|s,x::l=>match@acX with|none=>(s,@PG)|some s'=>@agS
def EW{step:@xa}{s:α}[ŭ](h:step s x.1=@u):(iJ,@eL)=(s,@PG):=@ac5
def EX{step:@xa}{s s':α}[ŭ](h:@acX=some s'):(iJ,@eL)=@agS:=@ac5
def  oj(step:@xa)(d:@lx)(s:α)(t:As):α×Int:=if@jr then(s,-7)else(@ap1,match(BL,@ax)with|some q=>@jO|none=>(V,d @ap1,0,-1000-dU @Ú))
structure Rs where
 moves:@È
 mc:Mc
def  kg[aw](s:Rs)[ñ]:Option Rs:=match oO n s.mc t with|some m=>some ⟨s.moves,m⟩|none=>(Š,(FT,s.mc.want,s.mc.outer),{s.moves++[s.mc.mv],@en})
def  sh(s:Rs):@Ù:=@y6&&@KJ
def zE[b6]{m m':Mc}{t:Tok}(h:(ip,m,t,m')):@aoJ=some @J3:=by delta kg;dsimp only;rw[h]
def zF[b6]{m:Mc}{t:Tok}(h:oO n m t=@u)(hn:¬(FT,@q2,@i2)):@aoJ=@u:=by delta kg;dsimp only;rw[h];dsimp only;rw[ag hn]
def alQ[aw](s:Rs):kg n sv s @b7=@u:=by let{ms,m}:=s;calc zF ?_ (λh=>by cases h.2.2.1);let{mv,w,o}:=m;induction w<;>rfl
def AY[u][b6]:∀{l:gK}{m m':Mc}{l2:gK},@apa->jQ @wL ⟨ms,m⟩ @adr=jQ @wL ⟨ms,m'⟩ l2|[],m,m',l2,h=>@pm|x::l,m,m',l2,h=>by cases e:oO n m x.1 with|none=>rw[cf,jZ]|some m1=>rw[jZ,e]at h;rw[Oa,EX (zE e)];show AY h
def aAc[F](ht:@hC):(oM,(E0,@ep/\oj @wK sh @wZ t=(@abf,0)/\qV w=@ai9),@E',@wK,sh,@wZ):=by
 let{h1,h2}:=ayn hn t;delta oj;rw[ag ht];rw[b5,@uX];.rw[ļ,h1 w hw,<-go,@Å,[],b,<-aE];calc aM a ?_ c;rw[e];rfl
 .rcases h2 q U with⟨l1,x,r,m',a1,X,M,I⟩|⟨m',a1,X,M⟩;rw[lo,a1,AY X,zF M (λh=>by cases h.1),I];.rw[go,@Å,[],a1,<-aE];rw[e];exact(bF,sh ⟨[],m'⟩)=_;rw[ag,X];ext h;delta sh at h;rw[eZ,cG,cG]at h;let:=M h.1;let h3:=h.2;dsimp only at h3;omega
def aay[b5]:∀(f:Nat)(l:gK)(ms:@È),@KX->(eQ,(u3,(E7,@z8,({ms++@awP,@fP},@u))),@Do,(∃s,@z8=(s,@PE))\/∃s,@z8=@aed/\(A,sh s)/\q=e)
 |0,l,ms,h=>@Ä
 |f+1,l,ms,hl=>by
  calc f7 (U4 (e:=e) hn @bJ l hl) (λ_ h2 h3=>?_);rw[tp]at h2 h3;let semi:∀(w:tq)(p:Nat)(r:gK),jQ @kj {ms,@fP} @KU=jQ @kj {@LL,@en} r:=by ext w p r;calc EX ?_;exact kg n @o {ms,@fP} @hu=_;delta kg;let:(y9,@fP):=rfl;dsimp only;rw[Ã];dsimp only;rw[nX]
  rw[b5,λws hw=>?_]
  .apply alR (h2 ws hw) (λl1 w rest e1 e2 _ e4=>?_);rcases e4 with⟨rfl,rfl⟩|⟨p,r,a,rfl,rfl,hr⟩;.apply fM ([]) w @d ?_;rw[e1,AY e2];rw[At,iO];rfl
   .apply jH ((aay (e:=e) hn f r @LL @amx).1 a hr) (λwi w' aW e5=>?_);subst aW;calc fM (w::wi) w' @d ?_;rw[e1,AY e2,semi,e5,cT,gh];rfl
  .rcases h3 q U with hb|⟨l1,w,p,r,e1,e2,hr⟩
   .rcases hb with⟨l1,x,r,m',a1,X,M,I,a5⟩|⟨m',a1,X,M⟩;.left;rw[Ì,@J3];rw[a1,AY X,EW (zF M @ķ),I];let:=a5 @š @e!;rw[h.2.2.2]at this;show(ff,this)
    .right;rw[go,@o,ms,a1,<-aE];calc bC @J3 e ?_ X;cases hm:sh ⟨ms,m'⟩with|false=>rfl|true=>delta sh at hm;rw[eZ,cG,cG]at hm;let:=M hm.1;let h3:=hm.2;dsimp only at h3;omega
   .let:=(aay (e:=e) hn f r @LL @amx).2 q hr;rw[e1,AY e2,semi];show this
def aAd[F](ht:@hC):(oM,∀ws,aXd n t=.ok ws->@uW/\(E7,oj @kj sh @wZ t,(@agl,0)),aXd n t,@kj,sh,@wZ):=by
 let{h1,h2}:=aay (e:=@Ú) hn @W5 @ax [] @C;let h0:=(U4 (e:=@Ú) hn @W5 @ax @C).1;delta oj;rw[ag ht];rw[b5,λws hw=>(À,(h0 ws hw).2)];.apply jH (h1 ws hw) (λwi w e1 e2=>?_);calc fM wi w e1 ?_;rw[e2,GF];rfl
 .rcases h2 q U with⟨s,e⟩|⟨s,e,e2,e3⟩;.rw[e]
  .rw[e];exact(bF,sh s)=_;rw[e2,e3];rfl
def  zG[ö]:@Ù:=(E,@q2,@d3)&&! m.wait.contains @Ņ
def aAe[c][ö]:kf n m @b7=@u:=by let{s,w,o}:=m;induction w<;>rfl
def P8[u]:∀{l:gK}{m m':Cm}{l2:gK},(nF,l)->jQ @kD m @adr=jQ @kD m' l2|[],m,m',l2,h=>@pm|x::l,m,m',l2,h=>by cases e:kf n m x.1 with|none=>rw[cf,pG]|some m1=>rw[pG,e]at h;rw[Oa,EX e];show P8 h
def alS{m:Cm}:(aN,zG m,K0 m):=by delta zG K0;rw[eZ,cG,AA,<-N4,iW]
def aAf(ht:@hC):(oM,(GI,@arx=(m,0)/\@Nw=[]/\@ahW/\@aeU),@E!,@kD,zG,@oC):=by
 let{h1,h2}:=ay0 (n:=n) t;delta oj;rw[ag ht];rw[b5,@dw];.apply EV (h1 x hx) (λa1 X m M I a5=>?_);let e:=P8 (l2:=[]) M;rw[aE];calc n0 a1 X m ?_ a5;rw[e];exact(m,(V,zG m,@a3,_))=_;rw[aj (alS.2 I)]
 .rcases h2 q U with⟨l1,x,r,m',b1,b2,T,R⟩|⟨m',b1,b2,T⟩;rw[lo,b1,P8 b2,T,R];.let e:=P8 (l2:=[]) b1;rw[aE];rw[e];exact(bF,zG m')=_;rw[(md,T (alS.1 h)),b2]
def aAg:(aT,Az l<@F8):=by ext z_;cases z_ with|nil=>show@Ó|cons x l M=>let ih:=M;exact@aiU*fk @Ã+Az l<@ana;let h1:(h',@aiU):=@m1;let h2:=GD @F8 h1;rw[Ec,aix];omega
def aAh:∀(l:@Ō)(a k:Nat),a<2^k->l.foldl (λn b=>2*n+@ĸ) a<2^(l6,k):=by ext z_;cases z_ with|nil=>ext a k h;show h|cons b l M=>ext a k h;let hb:@ĸ<=1:=@vF;let:=M (2*a+@ĸ) @û (Ú,Gq);rw[BX,eE];rwa[(Þ,k+@oh,(l6,@û))]
def aAi(H:@Ø)[K]:GK q<@ı:=by
 delta GK fY;dsimp only;rw[Œ];by_cases h:@Ċ;.rw[ÿ,h,h];cases(q.map mj).headD false<;>decide
 .rw[(@eH),ag h];let:=aAh (q.map mj).dropLast 0 0 @Ó;rw[oE,awa,aw,H.len]at this;show this
def aAj(H:@Ø)[K]:rank q<@eJ:=by delta rank xt;rw[Œ];let h1:=aAg @ŧ;rw[show@lm by delta b7;rw[aw,H.len]]at h1;let h2:=aAi H h0;let h3:(Az @ŧ+1)*@ı<=fk n*@ı:=GD _ h1;rw[Ec,aix]at h3;rw[B0 @ı];omega
def aAk[f](h:k<@kT):k.log2<1920:=by
 let h2:k<2^400:=TJ h @Ó;by_cases hk:k=0;.rw[hk];decide
 rw[ā,(aXe hk).2 h2]
def alT[k](G:@à):(h.map @ê).Perm @uH:=by
 calc O7 ?_ ?_ (by rw[nI,aw,G.len];show@Â);.rw[Ž];ext i j hi hj E e;rw[aw]at hi hj;rw[jY,jY]at e;let:=G.inj i j @aeI (rH,hj) (Ç,@oI,iF hj,e);simp_all
 .ext x hx;rw[fm];subst aW;show kt.2 (qp G y hy)
def alU[Ī]:(cj,λi=>@Ky)=r:=by rw[ip];ext i h1 h2;rw[jY,rR,eY,cJ h2];rfl
def Lb[c'][c0]:aJ n @eA:=by
 rw[Ì,(rN,G.len)];let e:(BM,ic)=(h.map @ê).map λi=>(gO,i):=by delta done;rw[b6,b6];rfl
 rw[e];calc((alT G).map _).trans ?_;rw[kb,(gO,i),@oK,<-Ã];show@mc
def alV[c'][c0][A]:tj c r @eA=((bP @ħ).map λj=>let x:=@s';j+(x.1+@nc)).all λz=>z%2==c:=by
 let J:=Lb H G;let key:∀j,j<n->(Ő,@N1,b5 @eA @N1)=(j+(@bU+aD @iG))%2:=by ext j hj;let kn:=Pt (h:=h) (r:=r) (i:=j) (tq,G.len);let hx:=G.lt j hj;let e1:=pF J hj;let e2:=pF H hx;let e3:@N1=(c_,@bU):=(Q,kn);let e4:(cd @eA j).up=((mf,@bU)!=@iG):=(Q,kn);rw[e1,e3,e2,e4,O_];show zpj
 delta tj;rw[(@bW)];rw[Ô];rw[j_,j_];constructor;.ext ha z hz;rw[À,hz,λj hj bf=>?_];subst bf;let g:j<n:=(rH,kt.1 hj);let:=ha _ (kN.2 (r9 J g));rw[key j g]at this;show this
 .ext ha no db;let{b1,b2}:=@F4;rw[cu];let:=ha _ (ma,kt.2 (d,G.len,W));dsimp only at this;rw[<-key _ W,p2]at this;show this
def aAl:∀h:az,(h.filter λx=>x.2).length=@adE:=by ext z_;cases z_ with|nil=>rw[Ø]|cons x h M=>rw[a5,M];cases x.2<;>simp[aD];omega
def aAm:∀(h:az)(f:@Ė),(lk,f x.1 !=x.2)%2=((lk,f x.1)+@adE)%2:=by ext z_;cases z_ with|nil=>ext f;show@d|cons x h M=>ext f;rw[ũ,f];rw[cT,cT,cT,jB,jB,jB,O_];show zpc ih
def aAn[c'][c0]:fK r @eA=aiV h:=by
 let J:=Lb H G;rw[Ą];.delta fK aiV;rw[H.len,(@dD),alV H G,alV H G];dsimp only;rw[G.len,aj hn]
 .rw[(@MC)];delta aiV;dsimp only;rw[G.len,ag hn,aAl];rw[É,(BM,@fi),h.map (au,@s1 !=x.2),by delta done;rw[b6];rfl];let e2:=aAm h (λi=>@wy);let e3:(lk,@s1)=@bE:=by
   let p:(h.map (au,@s1)).Perm @FP:=by let q:=(alT G).map λi=>aD @wy;rw[b6]at q;calc q.trans ?_;rw[kb,aD @wy,@FP,<-Ã]
   show p.sum_nat
  rw[e1];rw[e3]at e2;rw[Ô];rw[cG,gy,e2];show zpb
universe _M
namespace PySem
open Sem(wp)
section
variable{prog:dz}{w:dc}{K:@è}[@PZ](knd:@Ao)
inductive ItemsNest[Æ]:(Å,@az,@X)|nil:(sU,[],[])|cons{k:List K}[ù][bv][Ļ]:aXf knd h k b->(sU,ks,vs)->(sU,k::ks,@î::vs)
def  IsNestKey[Æ](ks:@az)[Ē]:@v:=∃o items n,(nE,@jU,@a1=@tS/\(kb,h,ks,@mo))
variable{knd}
def ItemsNest.inj[Ç][bw][Ļ](hx:(uY,x))(hy:(uY,y)):x=y:=by induction hx generalizing y with|nil=>cases hy;rfl|cons h1 _ ih=>induction hy with|cons h2 J=>rw[h1.inj h2,ih J]
def ItemsNest.keeps{h h':cH}[bv][Ļ]{d:aa}[ú]{es ep}(x:(uY,ks))(N:@vT)(hd:@dU)(hs:@anF):(kb,h',ks,vs):=by cases x with|nil=>rw[ñ]|cons h1 _ ih=>rw[Ż,h1.keeps N hd hs]
def IsNestKey.typeIs[S][cR](x:@Mz):s.TypeIs @Î "tuple":=let⟨o,_,_,N,hc,_⟩:=x;(hX,hc)
def IsNestKey.inj[Ç][X][bw](hx:(fc,h,x))(hy:(fc,h,y)):x=y:=by clear hx;calc dF @RK;clear hy;calc dF λo' b z j _ U g=>?_;obtain rfl:o=o':=cM (N.symm.trans j);rw[hd]at U;injection U with h1 _;subst h1;show hi.inj g
def IsNestKey.keeps{h h':cH}[bv]{a d:aa}[ú]{es ep}(x:(fc,h,ks))(N:@vT)(hd:@dU)(hs:@anF):(fc,h',ks):=by
 clear x;calc dF λo' items n j hc U hi=>?_;let aQ:a≠d:=by rintro rfl;obtain rfl:o'=o:=cM (j.symm.trans N);rw[hd]at U;show nomatch U
 show cj o' @œ n ((hs.2 a aQ).trans j) hc U (hi.keeps N hd hs)
def  nestDraws(ks:@az):Nat:=(ks.map λk=>@W2).sum
def  nestKeyHash(knd:@Ao)(ks:@az):Int:=aXg (Of (ks.map @auw))
variable{A:fG}{E:@É}{s:aK}
def wpAny_pyHash_nest[cR]{Q:(Ķ,Int)}[bx](hk:@Mz)(h:Q (nestKeyHash knd ks) (Lq,@W6)):(Ă,pyHash @Î):=by
 let hT:=hk.typeIs;clear hk;calc dF @RK;delta pyHash;first|delta pyHashByItsType|skip
 first|apply bg (wpAny_cRoomFor_or (.inr @e) ?_)|skip
 rw[ig,<-c8,(bF,some (Value.builtin "tuple.__hash__")==some AF)];rw[ag (ir,beq_builtin_none)];rw[ig,<-c8,callSpecialIfBoundUnlessNone? @Î "__hash__" _>>=_,<-Q,wpAny_callSpecialIfBoundUnlessNone?_slot hT aiW (Kc aiW hT F.entry_tuple_hash ?_ (F.args_tuple_hash_1 _)),<-ŋ,a1g @Î,<-aL,N,hd,<-Þ];rw[<-awb];apply(eb,λrest(b:Array Int)s'=>∃done left,ks=done++@å/\(nh,@å,@Į)/\b.toList=@auK/\s'=@af2,(ű,[],ks,hi,@d,@d))
 .ext x rest b s';calc g9 λdone left aW hl hb bf=>?_;subst aW;subst bf;induction hl with
  |@cons k d c _ h1 j=>
   let e:nestDraws @J5=@awR+@W2:=by delta nestDraws;rw[bF,Gm];simp
   rw[Q,wpAny_pyHash_tuple (s:=@af2) (by first|show hu|omega|simp[a1h];omega) h1 ?_];first|show cO (gN @J5 c @A j @Iz @WM)|show bg (eU,{@J5,c,@A,j,@Iz,@WM})
 .ext b s';calc g9 λdone left bu hl hb bH=>?_;subst bu;subst bH;cases hl;rw[iO]at h;rw[ĺ,retInt (Of b.toList)];rw[hb];calc aXh ?_;exact bn _ _ (bF,(Ŷ,@aiQ,@va)&&(Ó,@va,@dA)) Q E _;delta nestKeyHash aXg at h;by_cases hr:(Ģ,(Ŷ,@aiQ,@va),(Ó,@va,@dA));.rw[aj hr];rw[ô,hr];show@ajS
  .rw[ag hr];rw[ě,hr];show bg (T4 @ajS)
def nest_eq_tree[bw]{a b:aa}{P:(Ķ,Fin)}[bz][eZ](h:(sV,@xC,s)):(jo,Builtin.«tuple.__eq__» ⟨[@Î,@î],[]⟩,P):=by
 let F:=hy.typeIs;clear hx;calc dF λU xs J I _ D z=>?_;clear hy;calc dF λob ys H p _ j t=>?_;rw[cl,@î,<-cE,F];simp only[Ep,qh,nR];rw[aL,I,D,<-aL,p,j,<-Þ];apply(eb,(oF,∃d B g c,@Į=List.zip g c/\(nh,d,g)/\(nh,B,c)/\(bq,d,B,x,y)/\(@bh==@ő)=@NT),jI @d @d x y xs.toList ys.toList (ı,z,t,@d,@A))
 .rintro⟨u,v⟩;ext rest r s';calc si λhr cb d B g c=>@ajs;subst cb;cases C with
  |nil=>simp at hz
  |@cons k1 b1 i m h1 o=>
   cases S with
   |nil=>simp at hz
   |@cons k2 b2 e k h2 n=>
    simp only[TU,a1i,a1j]at hz;let{{rfl,rfl},rfl}:=hz;rw[Q,aXi (x:=k1) (y:=k2) hu h1 h2 ?_];by_cases hk:k1=k2
    .subst hk;rw[(@dh)];simp only[Ep,qh,nR];calc cO (jI @d @d i e m k (ı,o,n,?_,by simpa using b_));rw[<-l];by_cases f:i=e;.simp[f]
     .simp[f]
    .rw[dE hk];simp only[awc,ku];let hf:(A,@xC):=by rw[<-l];simp[hk]
     rw[hf]at h;show@Mh
 .rintro⟨G,r2⟩;ext s';calc si λhr cB d B g c=>@ajs;subst cB;simp only at hr;subst hr;calc@aK;let afv:@NT=(E,x,y):=by
   rw[<-l,<-b_];cases C with
   |nil=>cases S with|nil=>simp|cons _ _=>simp
   |cons _ _=>cases S with|nil=>simp|cons _ _=>simp at hz
  exact(sV,@NT,s');rw[afv];show h
def wpAny_eqBool_nest[bw]{a b:aa}{Q:@vZ}[bx][eZ](h:Q @xC s):(Ă,eqBool @Î @î):=by
 delta eqBool;try with_reducible apply AG ?_
 rw[c8,(bF,@fo==dk b)];by_cases d:(aE,@fo,dk b)
 .rw[aj d];let e:a=b:=by let:=eq_of_beq d;injection this
  subst e;obtain rfl:=@RP;show bg (T4 (cO @Ÿ))
 rw[ą,d,bg (aXj (op:=.Eq) hx.typeIs hy.typeIs aiZ (Kc aiZ hx.typeIs F.entry_tuple_eq (nest_eq_tree (by first|show hu|exact@dS;show hu|omega) hx hy (Ą,@tn,Er h)) (F.args_tuple_eq_2 _ _)) @e)]
def wpAny_eqIsQuiet_tupleN{ks:List K}[X][u]{Q:@vZ}(hk:aXf knd @ä ks a)(h:@Z7):(yA,@pg):=by
 let hT:=hk.typeIs;clear hk;calc(w7,?_);delta ai0;rw[ii,<-cl,@Î,<-cE,hT];simp only[Ep,qh,nR];rw[kU,<-Þ,<-mP];rw[<-awb];calc(eb,(oF,∀v∈rest,carriedByValue v=@o),(Ł,hi.byValue));.ext v rest r s';calc cy λhr cZ fU=>?_;subst cZ;rw[eqIsQuiet_byValue _ (fU v pw)];rw[Ĩ];simp only[Ep,qh,nR];show cO (Ł,λu M=>fU u (í,M))
 .rintro⟨G,r2⟩;ext s';calc cy λhr d_ _=>?_;subst d_;simp only at hr;subst hr;show cO h
def wpAny_eqIsQuiet_nest[cR]{Q:@vZ}(hk:@Mz)(h:@Z7):(yA,8):=by
 let hT:=hk.typeIs;clear hk;calc(w7,?_);delta ai0;rw[ii,<-cl,@Î,<-cE,hT];simp only[Ep,qh,nR];rw[kU,<-Þ,<-mP];rw[<-awb];calc(eb,(oF,∃c,(nh,c,@Į)),HD @d @d ks hi);.ext v rest r s';calc P9 λhr fz c fU=>?_;subst fz;induction fU with|cons h1 t=>rw[Q,wpAny_eqIsQuiet_tupleN (n:=6) h1 ?_];simp only[Ep,qh,nR];show cO (HD @d @d _ t)
 .rintro⟨G,r2⟩;ext s';calc cy λhr jM _=>?_;subst jM;simp only at hr;subst hr;show cO h
universe z
def  nestKind[ĩ]{K:@è}[@PZ](knd:@Ao):HeapKind @ţ w @az where
 is:=IsNestKey knd
 hash:=nestKeyHash knd
 draws:=λks=>@W6
 room:=λA=>@dS
 inj:=λhx hy=>@RP
 keeps:=λx N hd hs=>x.keeps N hd hs
 pyHash:=λhu hk h=>wpAny_pyHash_nest hu hk h
 eqBool:=λhu hx hy h=>wpAny_eqBool_nest hu hx hy h
 quiet:=λhk h=>wpAny_eqIsQuiet_nest hk h
universe PySem
section
namespace _L
open PySem PySem.Spec PyProof.Rows
abbrev a_:=Sum Int au
def  AZ:a_->ai->@Ù|.inl k,v=>aXk k v|.inr x,v=>aXl x v
def  i7(w:dc):a_->Int|.inl k=>hashInt k|.inr x=>hashStr w x
def zH:∀{k:a_}{v:ai},(nu,v)->(∃i t,k=kc i/\v=@xA)\/(∃x t,k=xx x/\v=@yf)|.inl i,v,h=>(yc,Value.isInt_shape (k:=i) (v:=v) h,.inl (C6,i))|.inr x,v,h=>(yc,Value.isStrOf_shape (x:=x) (v:=v) h,.inr (C6,x))
def aAo[ē][ñ]:AZ @Qt @kc=@o:=by simp[AZ,aXk]
def aAp[c5]:AZ @FK @aeq=@o:=by simp[AZ,aXl]
def aAq[ų]:(E,@Yz,kc b)=@xb:=by by_cases e:a=b;rw[b9];.let h:¬(kc a:a_)=kc b:=λq=>e (ze q);rw[(@hQ)];show(uH.mpr e).symm
def aAr(a b:au):(bq,@YA,xx b,a,b):=by by_cases e:a=b;rw[b9];.let h:¬(xx a:a_)=xx b:=λq=>e (ai2 q);rw[(@hQ),dE e]
def aAs(a:Int)(b:au):(A,(E,@Yz,xx b)):=dE @fC
def aAt(a:au)(b:Int):(A,(E,@YA,kc b)):=dE @fC
def  jr[aP]:PySem.KeyKind @ţ w a_ where
 is:=AZ
 hash:=i7 w
 inj:=λv a b ha hb=>by
  rcases zH ha with⟨i,t,rfl,rfl⟩|⟨x,t,rfl,rfl⟩;.rcases zH hb with⟨j,u,rfl,e⟩|⟨y,u,rfl,e⟩;rw[j5];.show@mp
  .rcases zH hb with⟨j,u,rfl,e⟩|⟨y,u,rfl,e⟩;.show@mp
   rw[j5]
 byValue:=λk v h=>by rcases zH h with⟨i,t,rfl,rfl⟩|⟨x,t,rfl,rfl⟩<;>rfl
 pyHash:=λhv h=>by
  rcases zH hv with⟨i,t,rfl,rfl⟩|⟨x,t,rfl,rfl⟩;.show wpAny_pyHash_int h
  .show wpAny_pyHash_str h
 eqBool:=λhu hv h=>by rcases zH hu with⟨i,t,rfl,rfl⟩|⟨x,t,rfl,rfl⟩;rw[mB,aAq,wpAny_eqBool_int h,aAs,aXm i t y u _ _ _ _ h,<-mB,aAt,aXn x t j u _ _ _ _ h,aAr,wpAny_eqBool_str h]
 «strs»:=λk x t v h=>by
  rcases zH h with⟨i,u,rfl,e⟩|⟨y,u,rfl,e⟩;.show@mp
  .injection e with e1 _;subst e1;induction v<;>rfl
def aAu[aP][ē][ñ]:(zI,@Qt,@kc):=aAo i t
def aAv[aP][c5]:(zI,@FK,@aeq):=aAp x t
universe _L
namespace _L
open PySem PySem.Spec PyProof.Rows
inductive V where|non|bl[G]|int[ē]|str[M]|byt(b:@GT)|flt(b:UInt64)|ref[Ē]|ty(n:String)deriving DecidableEq
def  RelV:(Å,V,ai)|.non,u=>u=AF|.bl b,u=>u=GO b|.int i,u=>∃t,u=@xA|.str x,u=>∃t,u=@yf|.byt b,u=>∃t,u=aXo b t|.flt b,u=>∃t,u=aXp b t|.ref a,u=>u=@fo|.ty n,u=>u=AH n
abbrev bG:(Å,@P,@X):=Paired RelV
def bG.length[dC]:(rl,@gY):=@RS
def bG.get:∀{xs:@P}{us:@X}{i:Nat}{x:V},@Ų->@au->∃u,(H,us,u)/\@h2|_,_,_,_,.nil,e=>by simp at e|_,_,0,_,.cons r _,e=>by simp at e;subst e;show@XM|_,_,i+1,x,.cons _ t,e=>(hN,bG.get (i:=i) (x:=x) t @IA,λu h1 h2=>?_,ab u @vG h2)
def bG.set{x:V}[c!]:(E9,xs.set i x,us.set i u)|_,_,_,.nil=>@á|_,_,0,.cons _ t=>(mk,t)|_,_,i+1,.cons q t=>.cons q (bG.set r i t)
def bG.append:∀{xs ys:@P}{us ws:@X},@Ų->bG ys ws->bG @avU (us++ws)|_,_,_,_,.nil,s=>s|_,_,_,_,.cons r t,s=>(mk,bG.append t s)
def bG.take:(E_,xs.take n,us.take n)|_,_,0,_=>@á|_,_,_+1,.nil=>@á|_,_,n+1,.cons r t=>(mk,bG.take n t)
def bG.drop:(E_,xs.drop n,us.drop n)|_,_,0,r=>r|_,_,_+1,.nil=>@á|_,_,n+1,.cons _ t=>bG.drop n t
def  mq:(Å,@Ñ,@ea)|some v,some u=>@ż|none,none=>True|_,_=>False
def  KV{κ:@è}:(Å,@ah,@iH):=Paired λ(p:κ×V)(q:κ×ai)=>p.1=q.1/\RelV p.2 q.2
def  kV:a_->V|.inl i=>@þ|.inr x=>@aT
inductive HO where|lst[T]|tup[T]|dK[bA]|dT(kvs:@ź)|dN(kvs:@dM)|set(S:Int->@Ù)[c]|ins(C dx:aa)(fs:@Ŷ)|own(x:aa)|xd(fs:@Ŷ)|met(f x:aa)|rng(lo hi:Int)|frz(o:bS)(u:HO)|tbl(ps:@ŀ)|ext(φ:(ú,cH))
abbrev Hp:=aa->@Ge
def  ah[a7](o:HO):Hp:=λb=>(P,b,a,some o,H b)
def aq[a9][À]:(X,ah H a o a):=by delta ah;rw[aj @d]
def aF[cP][À](h:b≠a):ah H a o b=H b:=by delta ah;rw[ag h]
def sj[a9]{o u:HO}:ah @ls a u=ah H a u:=by funext b;delta ah;split<;>rfl
def EY[cP]{o u:HO}(h:@hM)(h':(ŧ,u))(d:o≠u):a≠b:=by ext e;subst e;rw[h]at h';show d (cM h')
def eT[cP][À](h:@hM)(h':@ŋ):a≠b:=by ext e;subst e;rw[h]at h';cases h'
def  sk[df](ks:@cn):@v:=(zV,@anY)
def  alW:=@λ{I W p2}G j r=>@id (@sk I W p2) ⟨G,j,r⟩
section
variable(P:dz)(w:dc)
def  gE[i][Æ][Ē]:(ú,HO)|.lst xs=>(iS,(sW,@hN/\(bn,@fO)))|.tup xs=>(iS,∃aG:@X,@hN/\Ol h a @ò)|.dK kvs=>@zC|.dT kvs=>(IY,@e5,λ(p:List a_×V)(q:List a_×aa×ai)=>@aoO,@awV)|.dN kvs=>(IY,@lJ,λ(p:List (List a_)×V)(q:List (List a_)×aa×ai)=>@arL,@R6)|.set S n=>h.SetOf (intKind P w) a S n|.ins C dx fs=>@alV/\@Zf/\dx≠a/\(bn,@Ld)/\∃mA,@M8/\@Am/\@af5|.own _=>@QJ|.xd fs=>∃mA,h.Ns1 a mA/\@Am|.rng lo hi=>∃t u v,(bn,@CN)|.frz o u=>@jU/\gE H h a u|.tbl ps=>(bn,@Ob)|.met f x=>(bn,awf @ņ @dk)|.ext φ=>φ h/\@QJ/\∀h1 h2:cH,φ h1->(∀o,(X,h1.get? a)->(X,h2.get? a))->φ h2
def  iw[i][Æ]:@v:=∀a o,@hM->@MO
universe z
section
variable{P:dz}{w:dc}{H H':Hp}{h h':cH}{a:aa}{o:HO}
def gE.lt(x:@MO):@aai:=by cases o with|lst xs=>rw[ï,@R8,@Ľ]|tup xs=>rw[ï,Cy λ_ _ _ p=>?_,p.lt]|dK kvs=>rw[bm,@Ľ]|dT kvs=>rw[bm,@Ľ]|dN kvs=>rw[bm,@Ľ]|set S n=>rw[ï,@R9,@Ľ]|ins C dx fs=>rw[ï,@ajt,@Ľ]|own y=>let{_,e}:=x;show@Ľ|xd fs=>clear x;rw[E,λ_ aW _=>?_];let{_,_,_,e,_}:=aW;show@Ľ|rng lo hi=>rw[ï,aaz λ_ _ _ e=>?_,@Ľ]|frz ob u=>let{e,_}:=x;show@Ľ|tbl ps=>rw[j4]|met f y=>rw[j4]|ext φ=>rw[iV,λ_ bf _=>?_,bf,@Ľ]
def Paired.mapP[dO]{F G:@alP}:∀{n:@ß}{l₂:@uD},(vi,F)->(∀a b,F a b->G a b)->(vi,G)|_,_,.nil,_=>@á|_,_,.cons r t,f=>.cons (f _ _ r) (Paired.mapP t f)
def gE.stay(x:@MO)(k:(sg,b=a\/(ŧ,@tv),@fn))(N:∀b,(kv,@tv,@tv))(ht:@Ap):(AS,o):=by cases o with|lst xs=>rw[ï,EZ @DN,mr z aG n r @dv]|tup xs=>rw[ï,aZO λz aG r ob e c=>?_,aAw z aG r ob @dv c]|dK kvs=>rw[ï,Cz λz y vs r ob es=>@ayK,jR z y vs r ob es @OM]|dT kvs=>rw[n8,@ade]|dN kvs=>rw[n8,let⟨ps,u,v⟩:=z.2.1;(ab ps @add @ap2)]|set S n=>rw[ï,pH λob es ep t e c=>?_,aAx ob es ep t @dv c]|ins C dx fs=>clear x;calc aAy λd z ne e mA bu r=>?_;let{od,es,ep,e2,c}:=bu;show rm (N _ d) z ne @dv mA (DL,(cq,.inr d,e2)) r|own y=>let{ob,e}:=x;show{ob,@dv}|xd fs=>clear x;rw[E,λmA bH r=>?_];let{od,es,ep,e,c}:=bH;show ab mA (DL,@dv) r|rng lo hi=>rw[ï,aaz λt u v e=>?_,K7 t u v @dv]|frz ob u ih=>let{e,q}:=x;show{@dv,ih q}|tbl ps=>rw[my,@Ob,@Ob]|met f y=>rw[my,@af6,@af6]|ext φ=>clear x;rw[Ü,λp cb st=>?_];let{o,e}:=cb;show aM (st _ _ p λo q=>(cq,@ì,q)) {o,@dv} st
def iw.lt[Ŷ](e:@hM):@aai:=(x a o e).lt
def iw.fresh[Ŷ](e:@Mc):@pn:=by cases q:H a with|none=>rfl|some u=>rw[Ò,qe (x.lt q) e,@fJ]
def iw.kept[Ŷ](k:@xI):iw P w H h':=λa o e=>(x a o e).stay (λb u _ q=>@xr) @DO @n?
def iw.laid[Ŷ](k:@xI)(hp:@Mc)(new:gE P w @ls h' a o):iw P w @ls h':=λb u e=>by let hn:=x.fresh hp;rw[bP,a,<-lE];.rw[(@ak)]at e;show(x b u e).stay (λc v _ q=>k c v q) @Sc @Se
universe z
def  Rd[a7](u:HO):@v:=(ak,u)\/∃o,(ak,@s3)
def Rd.ok[æ][dn][X][Ĕ](r:@abI)[Ŷ]:@ad!:=by
 rcases r with r|⟨o,r⟩;.show x a u r
 .let{_,q}:=x a _ r;show q
def  A0:(ú,@Ge)|some (.lst _)=>True|some (.dK _)=>True|some (.dT _)=>True|some (.dN _)=>True|some (.set _ _)=>True|some (.ins _ _ _)=>True|some (.ext _)=>True|_=>False
section
variable{P:dz}{w:dc}{H:Hp}{h h':cH}{x e:aa}{o':HO}
def iw.write[á][co](k:@ahq)(D:@Oa)(new:gE P w @amd h' x o'):iw P w @amd h':=λb u q=>by
 let n:∀c y,(Ö,c,.own y)->c≠x:=λc y r z=>(oq,r);let F:(BU,c≠x):=λc xs r z=>(oq,r);rw[bP,x];.subst hb;rw[aq]at q;cases q;show new
 .rw[(@ak)]at q;by_cases B:b=e
  .let q':(ŧ,@m'):=by
    rcases he with z|z;.show absurd (B.trans z) hb
    rw[Â,B,z]
   rw[q]at q';cases q';let{v,hv}:=D;show{v,(d,B,hv)}
  .apply(ok b u q).stay (λc v hc r=>k c v ?_ r) (λc r=>(C,n c b r,r)) λc xs r=>(C,F c xs r,r);rcases hc with rfl|hc;.show B
   .rintro rfl;rcases he with z|z;.show n c b hc z
    .rw[hc]at z;cases z;show hb @d
universe z
structure Un(fs ex:@Ë)[ļ](h h':cH):@v where
 keep:(Ge,b∉fs,@ok)
 slot:(Ge,b∈fs,@ajW)
 free:∀b o,@dy->@ŋ->@tT->@ne
 there:(zF,@dy,@tT)
 tups:@Ap
 frzs:@ap3
 tbls:@ap4
section
variable{fs fs' ex Ss:@Ë}{H H1 H2:Hp}{h h1 h2 h':cH}{a x e:aa}{o:HO}
def Un.any(u:(ja,H1,h1))[ù]{ob:bS}(q:@fn=some ob)(n:@ŋ)(hx:@tT):∃D,h1.get? b=some {ob with slots:=D}:=by
 by_cases hb:b∈fs;.show u.slot b ob q n hb hx
 .show{ob.slots,u.keep b ob q n hb hx}
def Un.kept(k:@xI):(ja,H,h'):={λb ob q _ _ _=>@LC,λb ob q _ _ _=>{ob.slots,@LC},λ_ _ _ n _=>n,λb ob q _=>{ob,@LC},@n?,λ_ _ _ q=>q,λ_ ps q=>{#[],@ZM}}
def Un.refl:(ja,H,h):=Un.kept @n?
def Un.laid(k:@xI)(hp:@Mc)(hn:@pn):(ja,@ls,h')where
 keep:=λb u q _ _ _=>@xr
 slot:=λb u q _ _ _=>{u.slots,@xr}
 free:=(w_,jD (sy,q,hp))
 there:=λb u q _=>{u,@xr}
 tups:=λb xs q=>@tj
 frzs:=λb u xs q=>@tj
 tbls:=(BV,aF (eT q hn))
def Un.write[co](k:@ahq)(D:@Oa):(ja,@JE,h'):=by
 let hx:(mo,b≠x):=λb n z=>(oq,n);let hb:(mo,b≠e):=λb n z=>by
  subst z;rcases he with r|r;.show hx b n r
  .rw[n]at r;cases r
 let hm:∀b u,(ŧ,u)->¬@tw->b≠x:=λb u q nm z=>by subst z;rw[q]at j;show nm j
 calc{λb u q n _ _=>@ahL,λb u q n _ _=>{u.slots,@ahL},(w_,hx b n),λb u q _=>?_,λb xs q=>@acw,λb u xs q=>@acw,(BV,aF @OW)};by_cases B:b=e;.subst B;show D
 .show{u,k b u B q}
universe z
def  P_[dj]:@Ë:=(bP @c2).filter λa=>(H a).isSome
def  A5[dj]:cH:=a1k h @yg
def aAz[dj]:(A5 h H).objs.size=@c2:=a1l _ _
def aAA[Ç][a][Ţ](e:@dy)(n:@ŋ):@Xz:=a1m _ e λhm=>by let q:(H b).isSome=@o:=(jk.mp hm).2;rw[n]at q;simp at q
def aAB[Ç][a][Ţ](e:@Xz):@dy/\@ŋ:=by let F:@dy:=a1n @yg e;rw[Ì,F];cases q:H b with|none=>rfl|some x=>let hm:b∈@yg:=jk.mpr {kt.mpr (fL F),by simp[q]};let z:(r9,h)=@u:=a1o @yg hm;rw[z]at e;cases e
universe _L
namespace _L
open PySem PySem.Spec PyProof.Rows
structure Mod[d4]:@v where
 kin:@G0
 glob:@au6
 blt:∃S,base.Ns awg S/\@arQ
 nolimit:base.NoLimit
structure Cx where
 prog:dz
 w:dc
 K:aZ
 mg:@ñ
 base:cH
 A:fG
 N:@â
 s_0:aK
 H_0:Hp
 env:lu
 outer:@aW
 stack:@aW
 ex:@Ë
 fn:au->@Ù
 calm:@Ù
 pn:@Ç
 xe:@É
def  xJ(l:@aW):@Ë:=l.filterMap (λx_=>x_.frame)
abbrev Cx.fs[l]:@Ë:=xJ @i7
def  HR(j:lN)[M]:@v:=(ls,@jI)\/(fK,@jI,@jI)
def  Loc(j:lN)[M]:@v:=@O2
def  Look(env:lu)[Æ](m:@ñ)[M](u:ai):@v:=(ň,@G2,@fc,(ū,m x))\/((fK,@G2,@G2)/\∃c,(ek,env.cells.lookup x)/\h.IsCell c @BR)
structure Cx.Ok[l]:@v where
 mod:@ap5
 kind:(sw,X.env.scope.kind)
 glob:X.env.globals=ke
 blt:X.env.builtins=awg
 above:(hg,@aC)
 inj:(BW,@rN,@wH)
 has:∀x,(fK,@G3,@G3)->∃c,@rN
 cab:∀x c,@Cl->@rN->(hg,c)
 hd:@ai->X.A.handled=@u
 frames:X.A.frames=some @bk
 stk:@bk=@i7\/(@bk=@Ĉ::@i7/\X.env.frame=some @aC)
 exf:∀b∈X.ex,@j?/\@ua
 bs:(nl,@Xy/\X.H_0 b=@u)
 bsz:X.base.objs.size<=X.s_0.heap.objs.size
 noex:(nl,@Z1)
 exfs:∀b∈X.ex,@wB
 funs:(w!,@i7)
 frf:∀b∈X.fs,X.H_0 b=@u
structure Inv[av](σ:@uE)[dh]:@v where
 ok:X.Ok
 os:s.os=X.s_0.os
 bare:@Sj
 base:Un @d6 X.ex X.H_0 H X.s_0.heap @ä
 loc:∃m,@ajX/\∀(i:Nat)(x:au)(v:V),@gG->@Nc->@xW->∃u,@ż/\Look @Ĉ @ä m x u
 cell:(e5,∃v,@ajY)
 free:(Á,@aC)
 freeC:(e5,@ol)
 pin:(qz,@atR)
 hok:(ze,@ä)
 len:@q?=X.N.length
section
variable{X:Cx}{pins:@Ç}{σ:@uE}{H H':Hp}{s:aK}{h':cH}
def Cx.Ok.nofr(ok:X.Ok)[Ţ](e:(X,@auM)):@wB:=λhb=>by let:=(ok.funs.mem hb).1;rw[Ğ];cases this
def Inv.bs[d]:(nl,@afF):=λb o e=>{I.base.keep b o @ap6 @ap7 (I.ok.nofr e) @ap8,(kj,@ap6,@ap7,@ap8)}
def Inv.bk[d]:(nl,@cx):=λb o e=>(I.bs b o e).1
def Inv.mod[d]:@ap5:=I.ok.mod
def Inv.kIn[d]:X.K.In @ä:=I.ok.mod.kin.keeps I.bk
def Inv.fr[d]:∃m,Fr @b9 @aC @ä m:=let⟨m,hn,_⟩:=I.loc;{m,hn,I.bk,@adk}
def Inv.lt[d]:(br,@aC):=let⟨_,hn,_⟩:=I.loc;hn.lt
def Inv.sz[d]:(hg,@Ò):=dw @i8 (jc I.lt)
def Inv.nofs[d][X](h:@adj):a∉@d6:=λhb=>by calc q_ @G6 @G7;show(h?,(sy,N,dw I.sz h))
def Inv.cne[d]:(e5,c≠@aC):=λx c e z=>by rw[kh,<-Ű,λm cB _=>?_];let{o',es,ep,j,U,_}:=cB;rw[z,j]at N;cases N;rw[U]at hd;cases hd
def Inv.funs[d]:(sX,@i7):=by
 let all:∀(l:@aW),(∀b∈xJ l,@ZE)->(w!,l)->(sX,l):=by ext l;cases l with|nil=>ext _ _;trivial|cons env r ih=>ext hs hl;clear hl;calc cy λhk cZ hr=>?_;let{Lq,o,hf,hn,N,hd}:=cZ;let hL:Lq∈@d6:=(GU,Lq,pw);let{D,e}:=I.base.slot Lq o N (I.ok.frf Lq hL) hL (u?,Lq,hL);show aM hk (gN Lq _ hf hn e hd) (ih (λb hb=>(GU,b,@El)) hr)
 show all @i7 (λ_ hb=>hb) I.ok.funs
def Inv.stack[d]:(sX,@bk):=by rcases I.ok.stk with e|⟨e,hf⟩;rw[Ē,I.funs];.rw[e];rw[Ű,@Sm];calc .cons (lu,I.ok.kind) hf hn ?_ I.funs;show Heap.get?_none_of_le @adk
def Inv.stkSub[d]:∀b∈@DP,b∈@aC::@d6:=λb hb=>by
 rcases I.ok.stk with e|⟨e,hf⟩;.rw[e]at hb;show@El
 .rw[e]at hb;delta xJ at hb;rw[ai3,hf]at hb;show hb
def Inv.stkFree[d]:∀b∈@DP,@ŋ:=λb hb=>by rcases eJ.mp (I.stkSub b hb)with e|hb;rw[Ē,@bl];.apply q_ @G6 @G7;show(kj,N,(xa,b),(u?,b,hb))
def Inv.step{g':@RR}[e7][aW](B:@as2)(keep:(Hn,@wB,@ok))(slot:(Hn,@ZE,@ajW))(free:∀b o,@jY->@cx->@ŋ->@ne)(there:(zF,@jY,@cx))(tups:@Ap)(frzs:@ap3)(tbls:@ap4)(ns:∀m,@ajX->h'.Ns @aC m)[eL]:@asB:=by
 let j:(hn,@awX,@j?):=λb o e=>(pU,@i8);let M:∀b o,@Xy->@Z1->@jY:=λb o e hx hb=>by
  rcases(B b hb).1 with z|z;.show hx z
  rw[Í,qe @Ľ z,@fJ]
 let J:(e5,∀v,@ajY->h'.IsCell c v):=λx c e v=>bj λo N hd=>by
  let F:c∉ch:=@atI;by_cases hc:c∈@d6;.let{D,q}:=slot c o @ap_ hc F N @iS;show ab _ q hd
  .show ab o (keep c o @ap_ hc F N @iS) hd
 calc{I.ok,I.os,hg,(v_,@So,λb xs e=>tups b xs @aoj,λb o xs e=>frzs b o xs (zY,xs),@Sq),?_,@vg,?_,@vg,@Ŝ,hok,I.len};.show keep b o @ad7 hb @yL @Bd @qW
 .rw[gG];let{S,e2}:=slot b _ @ad7 hb @yL e1 @qW;show⟨S,e2⟩
 .rw[eC];show free b o' @yL e1 @qW
 .rw[eC];show there b o' @yL e1
 .let{m1,e1}:=(vk,e);let{O,e2}:=tbls b _ e1;show{m1++O,(u,e2,Array.append_assoc)}
 .rw[Ű,@vh];calc ab m (ns m hn) (λi x v e1 e2 e3=>?_);rw[x,hl i x v e1 e2 e3,@Sr,<-â,u,r];rcases l with l|⟨k,c,e,z⟩;rw[Ä,l,<-Ç,fH k c e (J x c e _ z)]
 .let{v,z}:=@E2;show{v,J x c e v z}
 .rw[Ű,λm d_ _=>?_];let{o,_,_,N,_}:=d_;show free _ o @ar4 N @bl
 .rw[kh];show free c o @atI N @iS
 .rw[du];let F:p.1∉ch:=λz=>(B p.1 z).2.2.2 p hp @d;show dI (keep p.1 p.2 ne G F e n) (free p.1 p.2 F e n) ne G d
def Inv.un[Ĭ](u:(z2,@d6,h'))(hok:@Nm):(gD,@BY):=(FS,λm fz _=>?_,fz,@A,I.step (g':=@mq) (d':=@ra) (ch:=[]) (λ_ z=>nomatch z) (λb o _ hb _ e n=>u.keep b o e n hb @A) (λb o _ hb _ e n=>u.slot b o e n hb @A) (λb o _ e n=>(GV,@A)) (λb o _ e=>(E!,@A)) u.tups u.frzs u.tbls @atw hok @b_)
def Inv.call{g':@RR}[e7][aW](u:(D7,h'))[eL](B:∀b∈ch,@Fv/\@j?/\@ua/\@E3):@asB:=(FS,λm jM _=>?_,jM,@ar4,I.step (ch:=ch) B (λb o hL hb hc e n=>u.keep b o e n (λz=>(eJ.mp (I.stkSub b z)).elim hL hb) hc) (λb o _ _ hc e n=>u.any e n hc) (λb o hc e n=>(GV,hc)) (λb o hc e=>(E!,hc)) u.tups u.frzs u.tbls @atw hok hg)
def Inv.turned[Ľ]{it:aa}[d](k:(nw,it,@hf))(hn:(Á,it))(hL:it≠@aC)(h1:it∈X.ex\/(hg,it))(h2:(e5,c≠it))(h3:(qz,p.1≠it)):@IX:=by
 rw[gD,b≠it,(CB,hn)];calc I.step (g':=@mq) (d':=@ra) (ch:=[it]) @dp (λb o _ _ hc e _=>@K') (Mr,@K') @Sv (Lr,@K') @Sw @R_ @ajZ @h? @GY @b_;.rw[ŉ,it];subst e;show bU h1 hL h2 h3
 rw[gE,tD hL,<-o7]
def Inv.tok[d][Ĳ]:(bQ,{s with toks:=t}):=I.un (h':=@ä) (t':=t) Un.refl @Ŕ
def Inv.kept[Ĭ](k:@adb):@IX:=I.un (Un.kept k) (I.hok.kept k)
def Inv.laid[X][À][Ĭ](k:@adb)(hp:@adj)(new:(ci,@ls,h',a,o)):(mK,@ls):=I.un (Un.laid k hp (I.hok.fresh hp)) (I.hok.laid k hp new)
def Inv.write{x e:aa}[À][Ĭ][co](k:(sg,b≠e,@jm))(D:@Oa)(new:(ci,@JE,h',x,o)):(mK,@JE):=I.un (Un.write j he k D) (I.hok.write j he k D new)
def Inv.weak{σ':@uE}[d](hl:σ'.length=@q?)(w:∀(i:Nat)v,(H,σ',@a5)->@Nc):(ec,σ',H,s):={I.ok,I.os,@b_,@mn,let⟨m,hn,j⟩:=I.loc;(ab m hn (λi x v e1 e2 e3=>j i x v e1 (w i v e2) e3)),@rb,@bl,@rc,I.pin,@Ŕ,hl.trans I.len}
def Inv.pins_of{j:@Ç}[d](h:∀p∈j,@atR):(nH,j):=(ov,@mn,@bl,@rc,λp hp=>(BX,(eV,Au _ z),h p),@Ŕ)
def aaA{N:@â}(S:N.Nodup)[Þ][s](a:(ai,N))(b:(Ë,N,x)):i=j:=by let{h1,e1}:=gL.mp a;let{h2,e2}:=gL.mp b;show(List.getElem_inj S).mp (e1.trans e2.symm)
def alX{M:Om}[bV][Ŝ][ba][c8][a6](r:@ż)(h:∀s',@aq0->(∃a,Ka a @ä @c3/\(a=@aC\/X.env.cells.lookup x=some a))->Q () s')[bB]:@arD:=by
 rw[ă,@i9,@vh];let aJX:(A,X.env.scope.kind==.class||(X.env.scope.kind==.module&&@aC !=X.env.globals)):=(Q,I.ok.kind);let N:i<@q?:=(d,I.len,(gL.mp hi).1);let B:=I.cne;let J:∀{a:aa}{h':cH},(∃o,(dP,a)/\@pn)->@aeZ->(ze,h'):=λ{a h'}ha hs b ob e=>by
  clear ha;calc bj λ_ _ Je=>?_;calc(q7,ob,λc w' hc q=>(hs.2 c ?_).trans q,@DO,@n?);rintro rfl;rcases hc with rfl|hc;.rw[Je]at e;cases e
  .rw[Je]at hc;cases hc
 rcases hx with hk|hk
 .apply wpAny_storeName_local hk hn (λh' U hs=>?_) aJX;calc aZP (id hn) (λoL _ _ hoL _=>?_);calc h _ (I1,ab _ U @Sx,@G9,oL,hoL,@bl) (ab _ hs @ì);.show(k',@i8,@Bd)
  rw[ld,@i8,<-lc,@i8]
  .by_cases hj:j=i;.subst hj;rw[hi]at e1;cases e1;rw[ai4 N]at e2;cases e2;show ab u r (b0,hk,@A)
   .rw[TY (tD hj)]at e2;rw[lB,e3,@Sy,<-â,F,r'];rcases q with⟨k,e⟩|⟨k,c,e,z⟩;.apply .inl (À,k);let:y≠x:=λe=>(BY,e▸hi);simp[this,e]
    rw[Ç,fH k c e @ap']
  .let{w',z}:=I.cell y c e;show{w',@ap'}
  .rw[du];show(GF,ne)
 .let MP:@Cl:=by
   rcases hf with z|z;.show z
   .rw[z]at hk;cases hk
  let{c,hc}:=I.ok.has x @Qw;let{w',z}:=I.cell x c hc;calc wpAny_storeName_cell I.ok.kind hk hc z (λh' rJ hs=>?_);rw[ă,z,λW FQ aJZ=>?_];calc h @fr (I1,ab m (hn.sameBut hs (tD (B x c hc))) @Sx,λy c' e=>?_,W,FQ,(JB,hc)) (ab c hs (.inr hc));.show(k',@A3,@Bd)
  rw[ld,@A3,<-lc,@A3]
  .by_cases hj:j=i;.subst hj;rw[hi]at e1;cases e1;rw[ai4 N]at e2;cases e2;show ab u r (bg,@Qw,c,hc,rJ)
   .rw[TY (tD hj)]at e2;rw[lB,e3,@Sy,<-â,F,r'];rcases q with q|⟨k,c',e,z'⟩;rw[Ä,q];.apply(bg,k,c',e,z'.sameBut hs ?_);rintro rfl;show(BY,I.ok.inj _ _ _ e hc▸hi)
  .by_cases O:c'=c;.subst O;show{_,rJ}
   .let{w2,z2}:=I.cell y c' e;show{w2,z2.sameBut hs O}
  .rw[du];calc(GF,?_);ext q;rw[q,FQ]at e;let q':W=p.2:=cM e;show d w' (K,q',aJZ)
def alY{M:Om}[bV][Ŝ][ba][c8][a6](r:@ż)(h:(hi,@aq0,()))[bB]:@arD:=alX I S hi hx r (λs' O _=>h s' O) hf
def Inv.call'{s':aK}[aW](N:s'.os=s.os)(u:(D7,@c3))(hok:(KH,@c3))(hg:@G4)(B:@as2):@gK:=by let{h',g',d',t',o'}:=s';let e:o'=s.os:=N;subst e;show I.call (g':=g') (t':=t') (d':=d') u hok hg B
universe z
abbrev XK:=ai->(a2,@aP)
abbrev St:=@uE
abbrev VK:=@IN
abbrev TE:=(jk,St)
abbrev TT:=(mN,@cC)
abbrev TA:=(mN,@IO)
structure Ends where
 nx:@aN
 rt:VK
 bk:@aN:=@f1
 ct:@aN:=@f1
abbrev TS:=Ends->St->@ec
def  EP[a'][û](u:ai)[ľ]:@v:=∃v H',@gK/\@ż/\@IZ
def  oT:=@λ{I W p2 p3 p4 p5}G j D B r=>@id (@EP I W p2 p3 p4 p5) ⟨G,j,D,B,r⟩
def  TP[a'](Q:@cC)[G][ľ]:@v:=∃H',@gK/\Q b H'
def  AP[a'](Q:@IO)[ŷ][ľ]:@v:=∃vs H',@gK/\@f'/\Q vs H'
def  SP[av](D:Ends)(f:Flow)[ľ]:@v:=match f with|.next=>(hJ,@af9)|.brk=>(hJ,D.bk σ' H')|.cont=>(hJ,D.ct σ' H')|.ret u=>∃v σ' H',@B3/\@ż/\D.rt v H'
abbrev PE0[di](t:TE):@v:=(xb,@V->@aup->(cg,@he))
universe _L
@[irreducible,local semireducible]def  _root_._L.PE[cl](t:_L.TE):@v:=@ap!
namespace _L
open PySem PySem.Spec PyProof.Rows
abbrev PT0[di](t:TT):@v:=(Eb,T6 e @Ĉ @he)
universe _L
@[irreducible,local semireducible]def  _root_._L.PT[cl](t:_L.TT):@v:=_L.PT0 X e t
namespace _L
open PySem PySem.Spec PyProof.Rows
abbrev PW0[di](t:TT):@v:=∀(tE:qj ai)(pins:@Ç)(s:aK)(σ:St)(H:Hp)(Q:@cC),(wk,@ahy)
universe _L
@[irreducible,local semireducible]def  _root_._L.PW[cl](t:_L.TT):@v:=_L.PW0 X e t
namespace _L
open PySem PySem.Spec PyProof.Rows
abbrev PA0[l](es:@Ġ)[â]:@v:=∀(pos:dO)(pins:@Ç)(s:aK)(σ:St)(H:Hp)(Q:@IO),(k6,spliced @af_,AP X @Æ σ Q)
universe _L
@[irreducible,local semireducible]def  _root_._L.PA[ã](es:List Et)(t:_L.TA):@v:=_L.PA0 X es t
namespace _L
open PySem PySem.Spec PyProof.Rows
abbrev PS0[l](st:bi)(t:TS):@v:=(GW,exec st @Ĉ)
universe _L
@[irreducible,local semireducible]def  _root_._L.PS[ã](st:aXr)(t:_L.TS):@v:=_L.PS0 X st t
namespace _L
open PySem PySem.Spec PyProof.Rows
abbrev aAG[l](st:@gi)(t:TS):@v:=(GW,execs st @Ĉ)
universe _L
@[irreducible,local semireducible]def  _root_._L.bw[ã](st:List aXr)(t:_L.TS):@v:=_L.aAG X st t
namespace _L
open PySem PySem.Spec PyProof.Rows
def bY[t][et][bf](h:(lU,t))(hQ:@ap?):@anB:=(ig,h,hQ)
abbrev PC0[l](op:Oo)(a b:cq)(t:TE):@v:=(xb,(k6,@v9,(GX,(hA,px op v u,@rJ,z))))
universe _L
@[irreducible,local semireducible]def  _root_._L.PC[ã](op:PySem.CmpOp)(a b:Et)(t:_L.TE):@v:=_L.PC0 X op a b t
namespace _L
open PySem PySem.Spec PyProof.Rows
universe _L
namespace _L
open PySem PySem.Spec PyProof.Rows
section
variable{X:Cx}
def  E1[o]:TE:=λσ H Q=>∃v,(H,σ,@a5)/\@tJ
def Vo[e][ą][ü]{v:V}(h:@Nc)(r:@tJ):E1 i σ H Q:=⟨v,h,r⟩
def  tC(v:V):TE:=(fS,v)
def al0[Ŝ][Õ](S:@gG)(hv:@xW)[ea]:@al8:=by
 ext pins s σ H Q I h;clear h;rw[E,λv e h=>?_,<-Ű,@vh,<-x,hl i x v S e hv,@Sr];let fin:(gU,u,s):=@aoD;rcases l with⟨hk,hm⟩|⟨hk,c,hc,j⟩;.show awh (wpAny_loadName_local I.ok.kind hk hn hm fin) hd
 .rcases hk with hk|hk;.show awh (wpAny_loadName_cell I.ok.kind hk hc j fin) hd
  .show awh (wpAny_loadName_free I.ok.kind hk hc j fin kn) hd
def aH{i j pos}:(oj,@þ,@þ):=λ_ _ _ H _ I h=>wpAny_Constant_int (DT,@þ)
def js{b j pos}:(oj,@GR,@bR):=λ_ _ _ H _ I h=>Constant_bool (qr,@bR,h)
def dY{x j pos}:(oj,@aT,@aT):=λ_ _ _ H _ I h=>Calls.Constant_str (DT,@aT)
def  Gl[l][M]:@v:=@G3=some .globalImplicit
def Qa[Ŀ][Ũ][s][Ð][Õ][ś][ŀ](hm:@Y3)(h:Q u s)[Ł]:@acK:=(E?,Calls.loadGlobal_global @alM hm h)
def zI[Ŀ][Ũ][s][Ð][Õ][ś][cb](hv:(ū,Ke x))(h:Q u s)[e_][Ł]:@acK:=(hN,I.mod.blt,λS h1 h2=>?_,(E?,Calls.loadGlobal_builtin @alM hm (d,I.ok.blt,h1.keeps I.bk) ((h2 x hn).trans hv) h))
def CA[s][ba][Õ][ŀ](hm:@Y3)(r:@ż)[Ł]:(np,v):=λ_ _ _ H _ I h=>Qa I hg hm @aoD hd
variable{a b:cq}{ta tb:TE}{pos:dO}
def  uB[dm](Q:@cC):@v:=(r5,Q c H1)
def  a8:=@λ{I W p2}G j r=>@id (@uB I W p2) ⟨G,j,r⟩
def  tB(t:TE):TT:=(b?,λx H1=>uB x H1 Q)
def aAI[Ÿ]{t:TE}[d7]:PE X @yM t:=λpins s σ H Q I hw=>aXt @L6 h1
def CB[Ÿ]{t:TE}[d7]:PT X @yM @SB:=by ext pins s σ H Q I hw;calc aXu (bY @L5 (xd,λu s2 h2=>bY h2 λc s3=>@wI)) h1;clear q1;rw[E,λd M q=>?_];subst M;cases G;show@ajT
def kh[ĕ]{t:TE}(h:@JX)(he:∀tE,@ahy=(do
 let v<-tE;
 Kg e.pos;
 zg [v] (truthy v)):=by ext _;rfl):PT X e @SB:=by ext pins s σ H Q I hw;calc isTrue_plain (g2,@L5) (he _);clear q1;rw[E,λd J q=>?_];subst J;cases G;show@ajT
variable{tA Sw:TT}{rest:@Ġ}
def  al1(t u:TT):TT:=(uW,@anG,Q @Å H1)
def  tOr(t u:TT):TT:=(uW,Q @o H1,@anG)
def  aAK(t:TT):TT:=(b?,λc H1=>@aaK)
def xK[Ź]:(ut,[a],tA):=(uX,aXv @aqb,isTrue_and_nil e,e)
def rn[Ź]:(uu,[a],tA):=by ext wh pins s σ H Q I h;calc aXw @aqb;cases c with|false=>show isTrue_or_nil e|true=>show e
def wz[Ź](hb:(ut,@si,Sw)):(ut,@wx,al1 tA Sw):=(uX,aXv @aj0,@atT,@ae')
def qw[Ź](hb:(uu,@si,Sw)):(uu,@wx,tOr tA Sw):=(uX,aXw @aj0,@ae',@atT)
def oU[Ź]:PT X (vm,.Not) (aAK tA):=(iq,isTrue_not (pD,λc H1=>@aaK))
def  al3[bC]:TE:=(AI,@MI,Q @SA H1)
def  al4[bC]:TE:=(AI,Q @c' H1,@MI)
def  aAL[ź]:TE:=(fJ,(r5,Q @acY H1))
def ve{op}{t:TE}(h:PE X a t):PE X (eY,op,[a]) t:=λpins s σ H Q I hw=>BoolOp_one @L6
def wA[Ż](hb:(yX,.And)):PE X (eY,.And,@wx) (al3 ta tb):=by ext pins s σ H Q I h;calc BoolOp_and @w8;clear q1;rw[E,λc D q1=>?_];subst D;cases G;calc@GS;rw[pN,(h9,Q),(oL,@SA)]
def aaB[Ż](hb:(yX,.Or)):PE X (eY,.Or,@wx) (al4 ta tb):=by ext pins s σ H Q I h;calc BoolOp_or @w8;clear q1;rw[E,λc z q1=>?_];subst z;cases G;calc@GS;cases c with|false=>show(h9,Q)|true=>show(oL,@c')
def aAM[Ż]:PE X (vm,.Not) (aAL ta):=by ext pins s σ H Q I h;calc UnaryOp_ @w8;clear q1;rw[E,λc j q1=>?_];subst j;cases G;show not_of (Er (oL,@acY))
def  tIf(t:TT)[bC]:TE:=(uW,ta σ H1 Q,@MI)
def rw{c:cq}(hc:PT X c tA)[ĥ]:PE X (.IfExp c a b pos) (tIf tA ta tb):=by ext pins s σ H Q I h;calc wpAny_IfExp @atN;cases d with|true=>show(oN,Q,q1)|false=>show(h9,Q)
universe z
universe _L
namespace _L
open PySem PySem.Spec PyProof.Rows
def  ak[bc][T]:@v:=(A',@G_,@qr/\@i6=@m4/\o.dict=@u/\@a1=@J1/\aG.size<=bq/\@N?)
def  cS[bc][T]:@v:=(A',@a4,(nE,@qr,@a1=@J1/\@XW/\@N?))
def  aAN:ai->@Ñ|.none=>some @ŕ|.bool b=>some @bR|.int i _=>@sB|.str x _=>some @aT|.bytes b _=>some @G'|.float b _=>some (.flt b)|.ref a=>@Ě|.type n=>some (.ty n)|_=>none
def RelV.abs{x:V}[c!]:(cm,aAN u):=by cases x with|non=>rw[ŵ]|bl _=>rw[ŵ]|int _=>rw[Ŷ]|str _=>rw[Ŷ]|byt _=>rw[Ŷ]|flt _=>rw[Ŷ]|ref _=>rw[ŵ]|ty _=>rw[ŵ]
def RelV.inj{x y:V}[c!](q:@al):x=y:=cM (r.abs.symm.trans q.abs)
def bG.inj:∀{xs ys:@P}{us:@X},@Ų->(ļ,ys)->xs=ys|_,_,_,.nil,.nil=>rfl|_,_,_,.cons r t,.cons r' t'=>(u,@G!,bG.inj t t')
section
variable{X:Cx}{pins:@Ç}{σ:St}{H:Hp}{s:aK}{a:aa}{xs ys:@P}
def ak.of[Á](h:(bo,a)):@ŉ:=@QC
def cS.of[Á](h:(ak,@a4)):@bV:=@QC
def Inv.list[d](h:@ahb):(Aa,PlainL @ä a @ò):=by
 rcases h with h|⟨o,aG,n,hk,hc,hd,hs,hz,r⟩;.apply E3 @SH @DN;show bC aG r (gN _ n e @d @d @d) z
 .apply bC @mr r (gN o n @afb hc hd @Ix) ?_;let e:=r.length;simp only[AI]at e;simp[*]
def Inv.tuple[d](h:@ag'):(Aa,(ie,a,@ò)):=by
 rcases h with h|⟨o,aG,n,hk,hc,hs,hz,r⟩;.apply q_ @SH (λz aG r p=>?_);show bC aG r p z
 .apply bC @mr r (HU o @afb hc n @Ix) ?_;let e:=r.length;simp only[AI]at e;simp[*]
def Inv.list_inj[d](h:@ahb)(h':ak X.K H a ys):xs=ys:=by rw[é,h,@SI];let{o,n,e,_,_,d}:=B;rw[é,h',@SJ];let{o',z,F,_,_,d'}:=j;rw[e]at F;cases F;rw[d]at d';injection d' with d1 _;rw[mK];subst this;show@G!
def Inv.tuple_inj[d](h:@ag')(h':cS X.K H a ys):xs=ys:=by rw[ü,h,@SI];let{o,e,_,n,d}:=B;rw[ü,h',@SJ];let{o',F,_,z,d'}:=j;rw[e]at F;cases F;rw[d]at d';injection d' with d1 _;rw[mK];subst this;show@G!
universe z
abbrev Cx.wish[l](E:@É):Cx:={X with xe:=E}
abbrev Cx.nox[l]:Cx:=X.wish @f1
def Cx.Ok.wish[ý](ok:X.Ok)(E:@É):@SK:=@atZ
def Cx.Ok.unwish[ý][Ŀ](ok:@SK):X.Ok:=@atZ
section
variable{X:Cx}{pins:@Ç}{σ:St}{H:Hp}{s:aK}{E:@É}
def Inv.wish[d](E:@É):@as1:=(IX,I.ok.wish E)
def Inv.unwish(I:@as1):@V:=(IX,I.ok.unwish)
def SP.unwish{D:Ends}{f:Flow}{s':aK}(h:SP @awZ @Æ D f s'):(A4,f):=by cases f with|next=>rw[dH]|brk=>rw[dH]|cont=>rw[dH]|ret u=>clear h;calc om λv σ' H' I r q=>?_;show zq v σ' H' I.unwish r q
def bw.nox{st:@gi}{t:TS}(h:bw X.nox st t):bw X st t:=λpins s σ H D I hw=>(BZ,(qg,D,I.wish _),λ_ _ q=>q.unwish)
universe z
section
variable{X:Cx}{st:bi}{rest:@gi}{t u:TS}{e:cq}{te:TE}{pos:dO}
def  vf:TS:=λD σ H=>@BB
def  ax(t u:TS):TS:=λD σ H=>@ae0
def cE:bw X [] vf:=λ_ _ σ H _ I h=>ai5 @ahJ
def ay(h1:@Ni)(h2:bw X @Į u):bw X (st::@Į) (ax t u):=by ext pins s σ H D I h;calc aXx (vl,h1 @Æ s σ H @aw0 I h);cases f with|next=>clear q;calc fb λσ' H' O q=>?_;show h2 @Æ s1 σ' H' D O q|ret v=>show q|brk=>show q|cont=>show q
def aA(h1:@Ni):bw X [st] t:=by ext pins s σ H D I h;calc aXx (vl,h1 @Æ s σ H D I h);cases f with|next=>show ai5 q|ret v=>show q|brk=>show q|cont=>show q
def Inv.quiet[Í][d]:(A,aXy @Ĉ):=by simp[aXy,I.ok.kind]
def  aAO[Ė]:TS:=(xe,λ_ H1=>(c2,H1))
def eP[È](hs:Oq e @u @rd @Ĉ=pure @Å:=by show tG (pure false)):PS X (.Expr e pos) (aAO te):=(yd,wpAny_Expr_any (yD,fM σ H1 O q1) I.quiet hs)
def  aaC[Ė]:TS:=(xe,D.rt)
def aV[È]:PS X (.Return @PC pos) (aaC te):=(yd,wpAny_Return_some (yD,zq x σ H1 O G q1))
def  bZ(c:TT)(t u:TS):TS:=λD σ H=>(K7,t D σ H1,u D σ H1)
def cv{c:cq}{a b:@gi}{tc:TT}(hc:@agN)(ha:bw X a t)(hb:bw X b u):PS X (.If c a b pos) (bZ tc t u):=by ext pins s σ H D I h;calc wpAny_If @atN;cases d with|true=>show(oN,D,q1)|false=>show(h9,D)
universe z
abbrev TG:=V->St->(Å,Hp,@aN)
abbrev A6:=@P->St->(Å,Hp,@aN)
abbrev PG0[l](target:cq)(t:TG):@v:=∀(pins:@Ç)(s:aK)(σ:St)(H:Hp)(v:V)(u:ai)(Q:@aN),(DD,@ż,v,(s0,@ms,u))
universe _L
@[irreducible,local semireducible]def  _root_._L.PG[ã](target:Et)(t:_L.TG):@v:=_L.PG0 X @ms t
namespace _L
open PySem PySem.Spec PyProof.Rows
abbrev aAQ[l](j:@Ġ)(t:A6):@v:=∀(pins:@Ç)(s:aK)(σ:St)(H:Hp)(vs:@P)(us:@X)(Q:@aN),(DD,@f',vs,assignInOrder (nM,j) us)
universe _L
@[irreducible,local semireducible]def  _root_._L.Qe[ã](j:List Et)(t:_L.A6):@v:=_L.aAQ X j t
namespace _L
open PySem PySem.Spec PyProof.Rows
abbrev Qb:=@aoB
abbrev aAR[l](t:Qb):@v:=∀(pins:@Ç)(s:aK)(σ:St)(H:Hp)(o i v:V)(z F u:ai)(Q:@ec),@V->RelV o z->RelV i F->@ż->t o i v H Q->(ao,ai6 z F u,λ_ s'=>∃H',@gK/\Q H')
universe _L
@[irreducible,local semireducible]def  _root_._L.aAU[ã](t:_L.Qb):@v:=_L.aAR X t
namespace _L
open PySem PySem.Spec PyProof.Rows
section
variable{X:Cx}{pos:dO}
def  mw[o]:TG:=λv σ H Q=>Q @Fb H
def b8[Ŝ][a6][bB]:PG X @r9 @G?:=by ext pins s σ H v u Q I r h;show aXz (alY I S hi hx r (λs' O=>fM _ H O h) hf)
def  Qc:A6:=λvs σ H Q=>vs=[]/\Q σ H
def  CD(t:TG)(u:A6):A6:=λvs σ H Q=>∃v r,vs=v::r/\t v σ H λσ' H'=>u r σ' H' Q
def  qx:=@λ{I W p2 p3 p4 p5}G j D r=>@id (@CD I W p2 p3 p4 p5) ⟨G,j,D,r⟩
def mB:Qe X [] Qc:=by ext pins s σ H vs us Q I r h;let{e,h}:=h;subst e;cases r;show assignInOrder_nil @ahJ
def ga[ĕ]{es:@Ġ}{t:TG}{u:A6}(h1:PG X e t)(h2:Qe X es u)(hs:(nM,@cd)=Kh e @Ĉ::(nM,es):=by rfl):Qe X @cd (CD t u):=by ext pins s σ H vs us Q I r h;clear h;calc fb λv n e1 h=>?_;subst e1;induction r with|cons r D=>rw[hs];calc assignInOrder_cons (bY (h1 @Æ s σ H _ _ _ I r h) λ_ s1=>fb λj H1 O q1=>?_);show h2 @Æ s1 j H1 _ _ Q O D q1
def  HV[b][c](t:A6):TG:=λv σ H Q=>∃a xs,v=@Î/\@bV/\@Ï=n/\t xs σ H Q
def  qy:=@λ{I W p2 p3 p4 p5 U}G j D B n r=>@id (@HV I W p2 p3 p4 p5 U) ⟨G,j,D,B,n,r⟩
def aAS{es:@Ġ}[f]{t:A6}[u][É](h:@ag8)[ee]:(Hj,X.K):=by ext pins s σ H v u Q I r hw;clear hw;calc g9 λa xs e1 U hl hw=>?_;subst e1;cases r;rw[ü,U,λaG rv ht hz=>?_];calc assign_Tuple_tuple @ł ht (by simp[hn,<-hl,rv.length]) fB λh' hx=>?_;rw[hY,λb o e=>hx b o @oZ e];show h @Æ _ σ H xs _ Q O (by simpa using rv) hw
def  aAT(to ti:TE)(t:Qb):TG:=λv σ H Q=>to σ H λo H1=>ti σ H1 λi H2=>t o i v H2 λH3=>Q σ H3
def Lc{o i:cq}{to ti:TE}{t:Qb}[ż](hi:PE X i ti)(hs:aAU X t)(ha:∀v,(s0,@anc,v)=(do
 let z<-zg [v] (de o X.env)
 let F<-zg [v,z] (de i X.env)
 Kg pos
 zg [v,z,F] (ai6 z F v)
 release [v,z,F] []):=by ext _;rfl):PG X @anc (aAT to ti t):=by ext pins s σ H v u Q I r h;rw[ha];rw[aK,bY @tl λz s1=>@wI,<-aK,(sv,(rt,?_)),<-Q,awj (bg (AG (bY (hs @Æ s2 σ H2 x y v z F u _ I2 G r2 r q2) λ_ s3=>bj λH3 I3 q3=>?_)))];show wpAny_release (fM σ H3 I3 q3)
def  Qg[Ė](g:TG):TS:=λD σ H=>@asM
def Ld{tg e:cq}[Ž]{g:TG}[È](hg:@anx)(hs:swapsWithSole [tg] e @rd @Ĉ=pure @Å:=by show tG (pure false))(hw:swappedStores [tg] e @Ĉ=pure @u:=by show tG (pure none))(h1:(nM,[tg])=[Kh tg @Ĉ]:=by rfl):(lX,tg,e,Qg te g):=by ext pins s σ H D I h;calc wpAny_Assign_stores @abt hs hw;rw[h1];show bY (hg @Æ s1 σ H1 x v _ O G q1) λ_ s2 q=>q
def a9[Ŝ][ĕ][Ž]{vD:dO}[a6][È](hs:(sh,e,@Zw):=by show tG (pure false))[bB]:(lX,@Zw,e,Qg te @G?):=by ext pins s σ H D I h;calc wpAny_Assign_Name (tR,cw λy H1 O G q1=>?_) hs;show alY O S hi hx G (λs2 I2=>fM _ H1 I2 q1) hf
universe z
section
variable{X:Cx}{pos:dO}
def  sn(c:TT)(tb:TS):TS:=λD σ H=>∃W:Nat->@aN,(∃m,@aqd)/\∀m σ H,@aqd->(o8,@aN,(gr,W m' σ' H'))
def wB{c:cq}[dP]{tc:TT}{tb:TS}(hp:@asb)(hc:@agN)(hb:@anH):PS X (.While c body [] pos) (sn tc tb):=by
 ext pins s σ H D I h;clear h;rw[E,λW B turn=>?_];let{m0,U}:=B;calc wpAny_While (codeAny_whileLoop (λn s'=>(hJ,W n σ' H')) ?_ m0 (fM σ H I U));ext n s1;calc fb λj H1 O w1=>?_;calc(d!,hc @Æ s1 j H1 _ O (turn n j H1 w1),λb s2=>bj λH2 I2 q2=>?_);cases b with
 |true=>clear q2;rw[E,λN S q2=>?_,<-Ų];calc(d!,hb @Æ s2 j H2 _ I2 q2,λf s3 q3=>?_);cases f with|next=>rw[o6]|cont=>rw[o6]|brk=>show q3|ret v=>show q3
 |false=>rw[ag jP];show ai5 (fM j H2 I2 q2)
universe z
structure It where
 go:@fl
 yld:Nat->Hp->@IN
 stop:@fl
def  on[av][df]:@v:=@ŋ/\@j?/\@wB/\@Fv/\@ua/\@E3
def Inv.fpOk[ý][ž][ſ][p][S][ù][d](hb:@Ò<=b)(hn:@ne):@K2:=by
 calc im hn (Gv (qe I.lt hb)) (I.nofs hb) (.inr (dw I.sz hb)) (λx c e z=>?_) (λp hp z=>?_);.let{v,q}:=@E2;show(h?,qe q.lt @agm)
 rw[Í,(sy,(I.pin p hp).1,@agm),@fJ]
structure xL[Ù][b](tg:cq)(J:It)(B:@Ë)[aa](G:@Ly):@v where
 mem:it∈B
 obj:∀i h,G i h->∀b∈B,(DN,@dy)
 keep:∀i h h',G i h->(xf,@dy,@ok)->G i h'
 item:(Ii,@Od,∃u,(ū,r)/\bn @wt X.A @aqe (λ_ s2=>∃x H',(gD,s2)/\@h2/\@A4/\G @Q s2.heap/\@nS) E s1)
 done:(Ii,@Oe,(dz,r,(bQ,s1)))
 self:∀(A:fG)(i:Nat)(s:aK)(Q:@É)(E:@É),@axW->Q @cI s->bn (bV P w) A (T7 @cI) Q E s
abbrev TI:=(mN,@pk)
def  PIE[a'](tg:cq)(R:@pk)(itv:ai)(s2:aK):@v:=∃(it:aa)(B:@Ë)(G:@Ly)(J:It)(H':Hp),itv=@cI/\(gD,s2)/\(Ij,B,it)/\G 0 s2.heap/\(∀b∈B,@K2)/\R J H'
abbrev PI0[l](tg iter:cq)(wi:TI):@v:=∀(pins:@Ç)(s:aK)(σ:St)(H:Hp)(R:@pk),@V->wi σ H R->(ao,@X9,λv s1=>(hA,T7 v,@as4,s1))
universe _L
@[irreducible,local semireducible]def  _root_._L.PI[ã](tg iter:Et)(wi:_L.TI):@v:=_L.PI0 X tg iter wi
namespace _L
open PySem PySem.Spec PyProof.Rows
def E4[bf]{tg:cq}{it:aa}[Ð][ú]{n:String}{vs:@ŀ}[ab](N:(dP,it))(hc:@i6=.type n)(hd:@a1=.fields vs)(hn:(A,(o',n)))(hQ:Q () s):(lU,@aqe):=by delta ai7;cases tg<;>first|show cO hQ|(cases u<;>first|show cO hQ|rw[Q,wpAny_load N ?_];rw[hc,hd];exact bn M A (bF,(o',n)&&vs[0]?==some (GR _)) Q E s;rw[ag (by ext h;rw[hn,zd]at h;cases h)];show cO hQ)
def  qz[Š]:It:=(ny,∃xs x,@acd,@Np,∃xs,@acf)
def  Le[Š]:It:=(ny,∃xs x,@bV/\@au,∀xs,@bV->@au,∃xs,@bV/\@Es)
def  vg(lo:Int)[c]:It:={λi _=>i<n,λi H x H'=>H'=H/\x=@DK,@RB}
def aAW[cZ]:(fL,@aj2,(uM,it))where
 mem:=@A
 obj:=@zX
 keep:=@aes
 item:=by ext X B hw J hc i pins s σ H E I hf st hg;subst B hw J;clear hg;rw[fI,<-aW,<-aY];calc@aV;calc wpAny_pyNext_list_item st @fe (x:=u) @pe @vi;rw[fy,<-Ÿ,@sN];show(Ib,st')
 done:=by ext X B hw J hc i pins s σ H E I hf st hg;subst B hw J;clear hg;rw[ff,<-aW];calc@aV;let hl:=rv.length;show wpAny_pyNext_list_end @ł st @fe @cX @l8
 self:=λ_ _ _ _ _ st h=>wpAny_pyIter_listiter st h
def aAX[cZ]:(fL,@aj3,h.IsTupleIter it a i)where
 mem:=@A
 obj:=@zX
 keep:=@aes
 item:=by ext X B hw J hc i pins s σ H E I hf st hg;subst B hw J;clear hg;rw[fI,<-ü,U,@nq,<-aY];calc@aV;calc wpAny_pyNext_tuple_item st @aj4 (x:=u) @pe @vi;rw[fy,<-Ÿ,@sN];show(Ñ,u,(l5,d,x,W,(Ì,(rv,I.tuple_inj hy U)),st'))
 done:=by ext X B hw J hc i pins s σ H E I hf st hg;subst B hw J;clear hg;rw[ff,<-ü,U,@nq];calc@aV;let hl:=rv.length;show wpAny_pyNext_tuple_end @ł st @aj4 @cX @l8
 self:=λ_ _ _ _ _ st h=>wpAny_pyIter_tupleiter st h
def aAY[b4][aa](lo:Int)[c]:(fL,vg lo n,aXB h it (lo+@nD*1) (@ö-@nD) 1)where
 mem:=@A
 obj:=λi h st b hb=>by rw[ŉ,it];subst e;show{_,st,λv z=>by let z':Data.fields _=Data.cell v:=z;cases z'}
 keep:=λi h h' st k=>(iR,it,st)
 item:=by ext X B hw J hc i pins s σ H E I hf st hg;subst B hw J;calc@aV;let W:=Walks.range (prog:=@Ğ) (w:=X.w) @ł it lo 1 n;calc@atr;let{t,rfl}:=hv;rw[pw,<-Å,E4 (s:=@kg) (n:="range_iterator") st' @d @d @Ó (qf,@DK,(À,t),@Ű,st')];rw[Int.mul_one]
 done:=by ext X B hw J hc i pins s σ H E I hf st hg;subst B hw J;calc@aV;show wpAny_pyNext_range_end @ł st (by let:n<=i:=hg;omega) @l8
 self:=λ_ _ _ _ _ st h=>wpAny_pyIter_rangeiter st h
universe _L
namespace _L
open PySem PySem.Spec PyProof.Rows
section
variable{X:Cx}{tg:cq}
def  aAZ[b](tl:TE):TI:=(Fb,@s5,@aj2)
def  aA0[b](tl:TE):TI:=(Fb,cS K H1 a xs,@aj3)
def gn{l:cq}{tl:TE}(hl:@al7):PI X tg l (aAZ X.K tl):=by ext pins s σ H R I h;calc(Df,H,I,h);clear q1;rw[hK];let{xs,U}:=j;subst e;cases G;rw[bk,U,@nq];calc awk @fe ?_;calc(GC,aAW a _,@gg);rw[hP];subst e;show@Of
def al6{l:cq}{tl:TE}(hl:@al7):PI X tg l (aA0 X.K tl):=by ext pins s σ H R I h;calc(Df,H,I,h);clear q1;rw[hK];let{xs,U}:=j;subst e;cases G;rw[Æ,O.tuple U,@nq];calc wpAny_pyIter_tuple (show s1.heap.IsTuple a @ò from p) ?_;calc(GC,aAX a _,@gg);rw[hP];subst e;show@Of
def al7[Í]{R:@pk}[Ŀ]{lo hi:Int}{t u v:Tok}{tk:Nat}[d](h1:@n6<=lo)(h2:lo<2^62)(h3:@n6<=hi)(h4:hi<2^62)(q:R (vg lo @Fc) H):bn @ei X.A (T7 @Ū) @as4 E @ahe:=by
 calc wpAny_pyIter_range (a1p ..) @asc ?_;let O:(bQ,@ahe):=I.kept @kH;calc{@Ha,[@Ha],_,_,H,@d,O.kept (t':=tk) @kH,aAY _ lo @Fc,?_,@dp,q};.rw[É,lo+@vR*1,lo,@A,<-È,@adX,a1q lo hi 1,@alY];exact aXB _ _ (lo+@vR*1) @adX 1;rw[e1,e2];show@ad
 .rw[ŉ,@Ha];subst e;show@Of
def  aA1(ta:TA):TI:=(i7,∃j:Int,vs=[@kG]/\@n6<=j/\j<2^62/\R (vg 0 j.toNat) H1)
def  aA2(ta:TA):TI:=(i7,∃i j:Int,vs=[@þ,@kG]/\@ato/\R (vg i @qD) H1)
def tQ{a:cq}[b7](hg:@Zq)(hm:@abY)(ha:(lG,[a]))(hs:(kg,[a],@v9):=by rfl):(t4,"range",[a],aA1 ta):=by ext pins s σ H R I h;calc(i8,T9,hs,@d);clear q1;calc tR λj e q1 q2 q=>?_;subst e;induction G with|cons r D=>cases D;rw[Ĳ];show call_range_1 (al7 O @C @C q1 q2 (by simpa using q))
def Qh{a b:cq}[b7](hg:@Zq)(hm:@abY)(ha:(lG,@x6))(hs:(a4,@x6)=(C!,@v9,@Ed):=by rfl)(gd:(kg,[b],@Ed):=by rfl):(t4,"range",@x6,aA2 ta):=by ext pins s σ H R I h;calc(i8,T9,(u,hs,gd),(Q,gd));clear q1;rw[ë,λi j e n q=>?_];let{q1,q2,q3,N}:=n;subst e;induction G with|cons r D=>induction D with|cons r' D=>cases D;rw[Ĳ];let{t',rfl}:=r';show aXE (al7 O q1 q2 q3 N q)
def  fR(wi:TI)(g:TG)(tb:TS):TS:=λD σ H=>(AW,(qk,@aN,W 0 m σ H1,@Oe,@Od,@aN,@A4))
def  Lf(B:@Ë)[Æ]:@Ç:=B.filterMap λb=>(h.get? b).map λo=>@qA
def aaF{B:@Ë}[Ç][Ţ](hb:b∈B)(e:@dy):(b,o)∈Lf B h:=aXF.mpr (ab b hb @h0)
def aA3{B:@Ë}[Ç]{p:aa×bS}(hp:p∈Lf B h):p.1∈B/\h.get? p.1=some p.2:=by rw[x,aXF.mp hp,λb hb e=>?_];cases q:h.get? b with|none=>rw[Ŧ];cases e|some o=>rw[Ŧ];let F:@qA=p:=cM e;subst F;show⟨hb,q⟩
def Inv.pinned[Í]{B:@Ë}[d](hf:@aw1)(N:∀b∈B,(DN,@cx)):(nH,@Æ++Lf B @ä):=(s3,(BX,(t2,z),λz=>by let{hb,e}:=aA3 z;calc r8 (hf p.1 hb) (λf0 f1 f2 _=>?_);rw[x,N p.1 hb,λo F d=>?_];rw[e]at F;cases F;show dI e f0 f1 f2 d))
def Inv.unpinned{pins pl:@Ç}[ą][S](I:(nH,@Æ++pl)):@V:=(s3,(t2,Au _ hp))
def fT{iter:cq}[dP]{wi:TI}[ej][Õ](hp:@asb)[É](hi:@yq)(hg:@anx)(hb:@anH)[e']:PS X (.For tg iter body [] pos) (fR wi g tb):=by
 ext pins s σ H D I h;calc wpAny_For (kN,(xd,@SN)) hs;clear h2;rw[hW,aAy λI2 T sO f2 W aJ8 turn=>?_];let{m0,U}:=aJ8;subst e;let FR:∀{H':Hp},@nS->∀b∈B,@K2:=λhn b hb=>{@aj7,@aj8};calc codeAny_forLoop_any (λn s'=>∃i σ' H',(Me,@B3,W i n σ' H')) ?_ m0 (cj 0 σ H2 I2 sO (λb hb=>@aj9) U);ext n s3;calc dF λi z H3 I3 Sx M w3=>?_;rcases turn i n z H3 w3 with⟨stop,qn⟩|⟨go,N,S,step⟩;.apply(d!,T.done X @d @d @d hc i @Æ s3 z H3 X.xe I3 @SO Sx stop,λr s4=>Fa λhr I4=>?_);subst hr;show ai5 (fM z H3 I4 qn)
 .apply(d!,T.item X @d @d @d hc i @Æ s3 z H3 X.xe I3 @SO Sx go,λr s4=>bj λu hr h4=>?_);subst hr;calc(d!,h4,λ_ s5=>jt λx H5 I5 r5 y5 Dx fr5=>?_);let I5':=I5.pinned (FR fr5) (B2,Dx);calc(d!,hg _ s5 z H5 x u _ I5' r5 (step x H5 y5),λ_ s6=>fb λσ6 H6 I6 q6=>?_);calc(d!,hb _ s6 σ6 H6 _ I6 q6,λf s7 O=>?_);let again:∀{j:St}{H7:Hp},Inv X (@Æ++Lf B s5.heap) j H7 s7->N j H7->(nA,∃i σ' H',(ec,σ',H',s7)/\G i s7.heap/\@nS/\W i m σ' H'):=λ{j H7}V n7=>by rw[x,S j H7 n7,λm' hm w7=>?_];calc fA m' hm @Q j H7 V.unpinned (aM (z4,Dx,(V.pin @qA @zo).1) @dp w7);rw[x,(oW,Dx),λo e d=>?_];show(V.pin @qA @zo).2.1
  cases f with|next=>rw[ly]|cont=>rw[ly]|brk=>clear O;calc fb λj H7 V O=>?_;show fM j H7 V.unpinned O|ret v=>clear O;calc om λF j H7 V r7 O=>?_;show zq F j H7 V.unpinned r7 O
universe z
def m_[Á][Ò][dc][ą][b'](hl:@MJ)(hs:@aqg)[ac]:(oo,@uu,@uv,@ux):=@asS
def al8[Á][Ò][dc][ą][b'](hl:(q_,@bV))(hs:@aqg)[ac]:(oo,(Le K a).stop i H,(Le K a).go i H,(Le K a).yld i H x H'):=@asS
def xM{lo:Int}[u][dc][ą][b'](hs:∀i σ H,(De,@fs,σ,@CJ))(hd:(JV,n)):(oo,@A5,@A6,@Bn):=by rw[a!,λi m σ H=>m=@Ř/\@bS/\@fs,n];ext i m σ H;rw[Ü,@aw3];subst j;by_cases bK:i<n;rw[kI,λσ' H' p'=>@am4,hs i σ _ bK p,<-mY,@oE]
universe _L
namespace _L
open PySem PySem.Spec PyProof.Rows
abbrev R2:=(I_,V)
def  ki[l](f:@qS)(r:R2):@v:=∀(pins:@Ç)(s:aK)(σ:St)(H:Hp)(x y:V)(v u:ai)(Q:VK),@V->@eN->@al->@MA->(cg,f v u)
def  UnR[l](f:@ab9)(r:@ws):@v:=∀(pins:@Ç)(s:aK)(σ:St)(H:Hp)(x:V)(v:ai)(Q:VK),@V->@eN->r x H Q->(cg,f v)
def  mF[l](f:ai)(r:@Ŏ):@v:=∀(pins:@Ç)(s:aK)(σ:St)(H:Hp)(xs:@P)(us:@X)(Q:VK),@V->@Ų->r xs H Q->(uE,f)
def  Qi(r:R2)[bC]:TE:=(fJ,tb σ H1 (xh,y))
def  tUn(r:@ws)[ź]:TE:=(fJ,r x H1 Q)
def  rI(C:@alQ)(g:@L7):R2:=(xi,x=@þ/\y=@kG/\C i j/\Q @dB H)
def  sD:=@λ{I W p2 p3 p4 p5}G j D B n r=>@id (@rI I W p2 p3 p4 p5) ⟨G,j,D,B,n,r⟩
def  A7(g:@L7):R2:=(xi,x=@þ/\y=@kG/\Q @dB H)
def  gq:=@λ{I W p2 p3 p4}G j D B r=>@id (@A7 I W p2 p3 p4) ⟨G,j,D,B,r⟩
def  rU(g:Int->V):@ws:=λx H Q=>∃i,x=@þ/\Q @j5 H
def  Qj:=@λ{I W p2 p3}G j r=>@id (@rU I W p2 p3) ⟨G,j,r⟩
section
variable{X:Cx}{a b c:cq}{ta tb tc:TE}{pos:dO}
def aaH[ĥ][Ũ]{R:V->@IN}[d](h:ta σ H λx H1=>tb σ H1 λy H2=>@apL)[I]{f:@qS}(hf:∀v u s2 x y H2,(ï,H2,s2)->@eN->@al->@apL->(AJ,s2)):(ao,@v9,(GX,(AJ,z))):=by calc@w8;calc(Aw,?_);show hf v u s2 x y H2 I2 G r2 q2
def bA{op:Operator}{r:R2}(N:(dm,op,r))[ĥ]:PE X (.BinOp a op b pos) @yB:=(iq,wpAny_BinOp @atv)
def CF{op:UnaryOp}{r:@ws}(N:UnR X (unaryOp op) r)[Ż]:PE X (vm,op) (tUn r ta):=(iq,UnaryOp_ (yE,N @Æ s1 σ H1 x v Q O G q1))
def Qk{f:@qS}{C:@alQ}{g:@adf}(B6:(vn,C i j->Q (hI,@dB) @f2->(hB,@N6))):ki X f (ln,C,@dB):=by ext pins s σ H x y v u Q I J B h;clear h;calc g9 λi j z n hc q=>?_;subst z;subst n;rw[Č,<-ı,B6 i j t t' s _ _ hc @aeV]
def al9{f:@qS}{g:@adf}(B6:(vn,(z6,@dB,@N6))):ki X f (s4,@dB):=(IL,@aeV)
def Ql{f:@qS}{g:(qB,@Ù)}(B6:(vn,(hv,@dB)->(hB,@N6))):ki X f (qQ,@dB):=(IL,(lS,.bl @dB))
def  aaI(i j:Int):@v:=0<j/\j<1073741824
def  aaJ(i j:Int):@v:=(rK,i,i<2^64)\/(rK,j,j<2^64)
def aaJ.ok{i j:Int}(h:aaJ i j):IntMulOk i j:=by
 rcases h with⟨h1,h2⟩|⟨h1,h2⟩;.show .of_left @aj'
 .show .of_right @aj'
def gF:(nd,(s4,i+j)):=(xj,add_int q)
def nc:(dm,.Sub,(s4,i-j)):=(xj,sub_int q)
def xN:(dm,.Mult,(ln,aaJ,i*j)):=Qk λ_ _ _ _ _ _ _ hc q=>mul_int q hc.ok
def E5:(DY,aaI):=(s5,by rw[jf];let h2:j<1073741824:=hc.2;show(G0,a1r @e))
def iy:(dm,.Mod,(ln,λ_ j=>0<j,i%j)):=(s5,by let h1:@a3<j:=hc;show mod_int' @e (e6,Int.fmod_eq_emod_of_nonneg i @e))
def unI{f:@ab9}{g:@aea}(B6:∀(i:Int)(t:Tok)(s:aK)(Q:@É)(E:@É),(z6,@j5,f @kc)):UnR X f (xk,@j5):=by ext pins s σ H x v Q I J h;clear h;rw[hI];subst j;rw[Č];show B6 i t s _ _ (rR,@j5)
def CH:UnR X (unaryOp .USub) (xk,-i):=unI λ_ _ _ _ _ q=>neg_int q
universe z
def  al_:@aeM|.non,.non=>true|.non,.int _=>true|.int _,.non=>true|.non,.bl _=>true|.bl _,.non=>true|.non,.str _=>true|.str _,.non=>true|.int _,.int _=>true|.bl _,.bl _=>true|.str _,.str _=>true|.byt _,.byt _=>true|.int _,.str _=>true|.str _,.int _=>true|.bl _,.str _=>true|.str _,.bl _=>true|_,_=>false
def  rEq:R2:=(GZ,@xC)
def  CI:=@λ{I W p2 p3}G r=>@id (@rEq I W p2 p3) ⟨G,r⟩
def  rNe:R2:=(GZ,(tW,y))
def  Qm:=@λ{I W p2 p3}G r=>@id (@rNe I W p2 p3) ⟨G,r⟩
def gR{i j:Int}:(or,V.int i,V.int j):=@JW
def amc{i j:Bool}:(or,V.bl i,V.bl j):=@JW
def gU{i j:au}:(or,V.str i,V.str j):=@JW
def amd{i j:@GT}:(E,V.byt i,V.byt j)=(i.toList==j.toList):=by rw[kK];cases i;cases j;simp
section
variable{X:Cx}{a b c:cq}{ta tb tc:TE}{pos:dO}
def jS[Í][ü]{k k':Bool}[d](q:(ŷ,k))(e:k=k'):(gU,.bool k',s):=(ya,(lS,.bl k))
def cW:(bp,.Eq,rEq):=by
 ext pins s σ H x y v u Q I J B h;let{hs,q}:=h;cases x with
 |non=>cases J;rw[cZ,a1s @Ĭ,a1t @Ĭ,a1u @Ĭ,a1v @Ĭ]
 |bl i=>rw[oS,a1w @Ĭ,eq_bool (ep,amc),a1x @Ĭ]
 |int i=>rw[oQ,a1y @Ĭ,eq_int (ep,gR),a1z @Ĭ]
 |str i=>rw[Č,<-cZ,a1A @Ĭ,a1B @Ĭ,a1C @Ĭ,eq_str (ep,gU)]
 |byt i=>rw[Č];cases y with|byt j=>rw[ı,a1D (ep,amd)]|_=>rw[am]
 |_=>rw[i?]
def wC:(bp,.NotEq,rNe):=by
 ext pins s σ H x y v u Q I J B h;let{hs,q}:=h;cases x with
 |non=>cases J;rw[cZ,a1E @Ĭ,a1F @Ĭ,a1G @Ĭ,a1H @Ĭ]
 |bl i=>rw[oS,a1I @Ĭ,ne_bool (mX,amc),a1J @Ĭ]
 |int i=>rw[oQ,a1K @Ĭ,ne_int (mX,gR),a1L @Ĭ]
 |str i=>rw[Č,<-cZ,a1M @Ĭ,a1N @Ĭ,a1O @Ĭ,ne_str (mX,gU)]
 |byt i=>rw[Č];cases y with|byt j=>rw[ı,a1P (mX,amd)]|_=>rw[am]
 |_=>rw[i?]
def lB:(bp,.Lt,(qQ,(j1,j))):=(mq,lt_int q)
def E6:(uV,.LtE,@gH):=(mq,le_int q)
def lV:(uV,.Gt,j<i):=(mq,gt_int q)
def A8:(uV,.GtE,j<=i):=(mq,ge_int q)
def bm(b:cq)[Ÿ](h:op≠.In:=by decide)(h2:op≠@mt:=by decide):@qI:=by
 let e1:(ŏ,op,CmpOp.In):=by cases op<;>first|rfl|rw[ö,h]
 let e2:(ŏ,op,CmpOp.NotIn):=by cases op<;>first|rfl|rw[ö,h2]
 cases b<;>simp[Op,e1,e2]
def jT[Ÿ]{r:R2}(N:@am2)[ĥ](hm:@qI):PE X @yM @yB:=(iq,aXt @atv hm)
def  aA6(t:TE):TT:=(b?,λx H'=>uB x H' Q)
def bJ[Ÿ]{r:R2}(N:@am2)[ĥ](hm:@qI):PT X @yM (aA6 @yB):=by ext pins s σ H Q I h;calc aXu (yE,(Aw,bY (wv,_,G,r2,q2) λc s3=>Lg λz H3 I3 r3 k e q3=>?_)) hm;subst e;cases r3;show Er (ab H3 I3 q3)
def Lh:(Î,bq)<@dA:=(lu,Ot)
def vals1{x:V}[þ](r:(ļ,[x])):@ar?:=by induction r with|cons G r2=>cases r2;show(R,G)
def vals2{x y:V}[þ](r:(ļ,[x,y])):∃u w',us=[u,w']/\@h2/\RelV y w':=by induction r with|cons G r2=>induction r2 with|cons r3 I=>cases I;show(Ğ,_,G,r3)
def  aA7:@Ŏ:=(xm,xs=[@þ]/\(fm,(l?,i<0,-i)))
def wF:(bv,"abs",aA7):=by ext pins s σ H xs us Q I r h;clear h;rw[E,λi z q=>?_];subst z;calc@ayT;subst n;subst j;show call_abs_int λu tk=>(rR,(l?,i<0,-i))
def  aA8:@Ŏ:=λxs H Q=>∃i j,(DS,(fm,(l?,j>i,j)))
def aA9[É]:(bv,"max",aA8):=by ext pins s σ H xs us Q I r h;clear h;calc fb λi j D q=>?_;subst D;calc lT (vals2 r) (λu w' B z n=>?_);subst B;let{t,rfl}:=z;let{t',rfl}:=n;calc max_two_ints @ł λh' tk k=>(Ap,_,k);by_cases hj:j>i;rw[Ê,aj hj,aj hj,@c?,<-Ê,ag hj,ag hj,@c?]
def  aA_:@Ŏ:=(xm,xs=[@þ]/\i.natAbs.log2<1920/\(lz,toString i))
def aBa:(tQ,"str",aA_):=(Hz,λi z hz q=>?_,a1Q hz (hq,@awT))
def  aBb:@amf:=λxs H Q=>∃x,xs=[@aT]/\x.length=1/\(cv,x.cps.getD 0 0)
def aBc:(bv,"ord",aBb):=(Hz,λx z hz q=>?_,ord_of_one hz (hq,@nQ))
universe z
universe _L
namespace _L
open PySem PySem.Spec PyProof.Rows
structure E7[Æ](x dx C:aa)(mA:@ñ):@v where
 obj:h.get? x=some @Ld
 ns:@M8
 ne:@EX
def aBd[Ç]{dx:aa}{mA:@ñ}(n:@M8):∃od,(ň,h.get? dx,od,@aqh):=by
 clear n;calc dF λo es ep N hd hk=>Fa λ_ hm=>?_;calc(hX,λname=>?_);let e:=hm @Ŗ;delta nsFind findBy at e;rw[<-Array.find?_toList]at e;delta ai9;rw[hd];dsimp only;split;.rename_i y q;rw[Ŧ];show(fN,e)
 .rename_i q;rw[Ŧ];let a:(A,@ST):=by rw[av0];ext y hy;calc Eee (hk y (aXJ.mp hy)) (λz t BC=>?_);simp[a1R,BC]
  let J:(fM,@ST):=(ir,a);rw[ag J];show(fN,e)
def E7.look[Ç]{x dx C:aa}{mA:@ñ}(I:E7 h x dx C mA):∃od,a1S h x @Ld C (some od)/\@aqh:=let⟨od,N,hl⟩:=aBd I.ns;(ab od {I.obj,@d,@d,N} hl)
section
variable{prog:dz}{w:dc}{A:fG}{E:@É}{s:aK}{K:aZ}{x dx C f:aa}{mA:@ñ}{name:au}{v:ai}
def aBe{expr:Bool}[I][cB](hg:@ad_)(hh:@yk)(ha:(KD,@Ŗ))(hv:(e?,@DM))(F:aXK v=@o)(h:Q v @f2):(Ă,awl @dk @Ŗ expr):=(Du,a1T X J @SU (a1U hh ha @d (tv,hv)) F h)
def aBf[ė]{Q:@amb}[cB](hg:@ad_)(hf:(lc,@Ŗ))(ht:@qH)(hv:@DM=@u)(h:Q (@ņ,[@dk]) s):(Ă,Kj @dk @Ŗ pl):=(Du,a1V X J @SU (awm hg).2 hf (gy.mp ht) (by exact(ai9 @Ŗ od).map (λx_=>x_.isSome)=some @Å;rw[hl,hv];rfl) h)
def aBg{ns:@â}[ab][cB](hs:@zF)(hp:@y3)(ht:(FO,@Ŗ))(hh:@yk)(hw:awe mA ns)(hsz:@ó<=bq)(h:(B3,E7 h' x dx C (λy=>(P,y,@Ŗ,@a5,mA y)),dx,(),(gs,@Ĝ+2))):(Ă,setAttr @dk @Ŗ v):=by rw[x,I.look,@aw4];calc a1W X J hs (a1X (s:=@f2) (r:=@u) X J hp ht λb=>?_);rw[x,a1Y hh,λcd hc U=>?_];let hx:(ń,x,{@ck,some dx,.plain,#[]}):=I.obj;rw[Q,cO (bg (bg (wpAny_loadPart hx (bg (a1Z (s:=@f2) (a10 X hc) ?_)))))];rw[U];calc cO (a:=some dx) (bg (cO @RL));calc wpAny_nsSet1 (s:=@f2) I.ns λh' M gd=>?_;calc mG (M.count (a11 @Ŗ v hw)) (λF B D j n z=>?_);rw[Q,wpAny_lookBehind j (d,n,pastItsLine_dict (dw z (ż,eE))) ?_];show cO (h _ {(gd.2 _ (tD I.ne)).trans I.obj,M,I.ne} gd)
def aBh{R:@v0}[Ļ]{j:@kL}(X:@la)(hm:@y4)(hi:@L9)(hf:a12 K @ņ=some (.type "function"))(h:B7 @hg (A.under (Kc,@ck::vs)) (xn,⟨.ref @ň::vs,j⟩) (a13 @ň R) {s with heap:=@aj!}):(nZ,.call @ck ⟨vs,j⟩,s):=by let{hh,g,d,t,os}:=s;show a14 (a15 X hm) (a16 X hi) (λself=>a17 X self hf) @ì h
universe z
def  ck[dH]:@Ŷ->@Ŷ|[]=>[(f,v)]|(g,x)::r=>(P,g,f,(g,v)::r,(g,x)::@avX)
def amf(f g:au)(v:V):(s7,(Fd,v)=(P,g,f,@a5,fs.lookup g))
 |[]=>by
  exact GU g [(f,v)]=_;by_cases h:g=f;.let hb:(aE,g,f):=@Hc;simp only[GU,hb,aj h]
  .let hb:(ŏ,g,f):=@Hd;simp only[GU,hb,ag h]
 |(k,x)::r=>by
  let ih:=amf f g v r;rw[(bD,(ui,r),@AU)];rw[gs]
  .rw[aj hk];rw[bL,g];.let hb:(aE,g,k):=@Hc;simp only[GU,hb,aj (h.trans hk)]
   .let hb:(ŏ,g,k):=@Hd;simp only[GU,hb,ag (λe:g=f=>h (e.trans hk.symm))]
  .rw[ag hk];rw[bL,g];.let hb:(aE,g,k):=@Hc;simp only[GU,hb,ag (λe:g=f=>hk (h.symm.trans e))]
   .let hb:(ŏ,g,k):=@Hd;simp only[GU,hb];show ih
def aaK[dH]:(s7,f∈@asd/\∀g,g∈@awW->g∈@asd)
 |[]=>{by simp[ck],λg h=>@ù}
 |(k,x)::r=>by
  let{i1,S}:=aaK f v r;rw[(bD,(ui,r),@AU)];rw[gs];.rw[aj hk];subst hk;show{@A,λg h=>@Ÿ}
  .rw[ag hk];rw[æ,λg h=>?_,<-Â,cT,(í,i1)]
   .rw[cT]at h⊢;rcases eJ.mp h with e|e;.show eJ.mpr @eI
    .show(í,S g e)
def amg[dH]:(s7,(ck f v fs).length<=@q_+1)
 |[]=>by simp[ck]
 |(k,x)::r=>by
  let ih:=amg f v r;rw[(bD,(ui,r),@AU)];rw[gs];.rw[(@r'),eE,eE];simp[*]
  .rw[(@nn),eE,eE];simp[*]
def mq.some_of{v:V}{o:@ea}(r:mq @a5 o):∃u,(ū,o)/\@ż:=by cases o with|none=>rw[ů]|some u=>show(Ñ,u,r)
def mq.none_of{o:@ea}(r:mq @u o):o=@u:=by cases o with|none=>rfl|some u=>rw[ů]
def aBi[ba](r:@ż):aXK u=@o:=by cases v with|non=>cases(show u=AF from r);rfl|bl b=>cases(show u=GO b from r);rfl|int i=>rw[cH,@xA]|str x=>rw[cH,@yf]|byt b=>rw[cH,aXo b t]|flt b=>rw[cH,aXp b t]|ref a=>cases(show u=dk a from r);rfl|ty n=>cases(show u=AH n from r);rfl
section
variable{P:dz}{w:dc}{H H':Hp}{h h':cH}{a C dx:aa}{fs fs':@Ŷ}
def aaL(hok:@Ő)(e:@we):∃mA,E7 h a dx C mA/\@Am/\@af5/\@Zf/\@alV:=by calc aZQ (kC,@auU,hok a _ e) (λd z ne ob mA n=>@aiG);show oN mA ⟨ob,n,ne⟩ r q z d
universe z
structure oV[j]:@v where
 pg:@ad'
 hd:@yk
 po:@y3
 sa:@zF
def oV.get[Á][Ę](c:@b1)(f:au):(ra,f):=c.pg
def  iz[j](f:au):@v:=@Nk
def iz.taker[Á][Ę]{f:au}(n:@wg):(FO,f):=by delta awo;rw[show@Nk from n];rfl
structure HY[j](m:au)(f:aa):@v where
 at_:(lc,m)
 fn:@qH
 kp:@gO
section
variable{X:Cx}{pins:@Ç}{σ:St}{H:Hp}{s:aK}{a C dx:aa}{fs:@Ŷ}{f:au}{v:V}{A:fG}{E:@É}
def aBj{b:Bool}[ś][cD](n:@amB)(l:(e?,@CV))(h:∀u s',@sA->@ż->Q u s'):(aM,awl @Î f b):=by rw[c_,@SW,<-eg,mA f,(K,l,r f),@nr];show aBe @i_ O (c.get f) c.hd n hu (aBi W) (h u _ @fm W)
def aaM{m:au}{g:aa}[ė]{Q:@amb}[d][cD](k:@ae8)(l:(mG,m))(h:Q (@u?,@ch) s):(aM,Kj @Î m pl):=by rw[c_,@SW];let hn:mA m=@u:=mq.none_of (K,l,r m);show aBf @i_ O (c.get m) k.at_ k.fn hn h
def aBk[aG][c8][cD](n:@amB)(hl:@q_<1000)[ä](h:(DZ,@aq1)):(aM,setAttr @Î f u):=by
 rw[c_,λmA O r wi _ N=>?_];let hz:(fs.map @ê).length<=bq:=(mL,Ot);calc aBg @i_ O c.sa c.po n.taker c.hd wi hz λh' j sb=>h _ ?_;let hd:∃o,(X,h'.get? dx):=let⟨o,_,_,F,_⟩:=j.ns;⟨o,F⟩;calc I.write (x:=a) (e:=dx) @Ew @O_ (λb q hb z=>(p0,z)) hd ?_;calc rm (C,O.ne,N) ?_ O.ne j.obj _ j.ns {λg=>?_,@n!};rw[ā,amg f y fs];.exact mq (Fd,y) @apk;rw[amf];by_cases q:g=f;rw[Ê,aj q,aj q,B,<-Ê,ag q,ag q,r g]
 .by_cases q:g=f;rw[û,(aaK f y fs).1];.apply(aaK f y fs).2 g (wi g λz=>hg ?_);rw[ã,@apk];rw[ag q];show z
def Inv.made[d]:(mH,ah (qV,@R7) @ň (.ins C @Ò []),@aj!):=by let e1:(x?,Eu,Eu):=kx @ä @d;let e2:(tk,Eu,@t5,@ň,@t5):=(d3,kx @SL (o:=@t5) @d,zi);let e3:(s.heap.push Eu).Ns @Ò @oN:=(cj Eu (#[]) _ e1 @d (λe he=>(ff,he)) @ę);rw[eJ,@Ò,@R7,@SL,@Ĝ,@Sg,@Â,{_,e1}];calc O.laid (a:=@ň) (o:=.ins C @Ò []) (t':=@Ĝ) @Sg (Ou (zi _ _)) ?_;let ne:@Ò≠@ň:=@Sh;apply rm (u,aF ne,aq) @ð ne e2 @oN ((a18 e3).at λo q=>@rR) {λ_=>B8,λy hy=>(kO,hy)}
def aBl[ĩ][bD][ĕ]{f:au}[Õ][S][I](hb:GV e f env @Le=@Le)(h:(jo,@Le,λo j=>(uF,awl o f @o,j))):(Ă,(fg,@OJ)):=Attribute_any_ h (u,arm_eval_Attribute,hb)
universe z
def  amh[b](f:au)[û][dm]:@v:=∃a C dx fs v,x=@Î/\@z3/\@b1/\@wg/\(ň,@CV,v,Q v H1)
def  aX:=@λ{I W p2 p3 p4}G j D B n z J F M N r=>@id (@amh I W p2 p3 p4) ⟨G,j,D,B,n,z,J,F,M,N,r⟩
def  ami[b][ź](f:au):TE:=(Jz,amh K f Q)
def  aBm[b](ta tv:TE)(f:au):TS:=(v2,λy H1=>ta σ H1 λx H2=>∃a C dx fs,x=@Î/\(ž,H2 a,fs)/\@b1/\@wg/\@q_<1000/\(c2,ah H2 a @aq1))
section
variable{X:Cx}{o e value:cq}{f:au}{pos vD Ae:dO}{ta tv:TE}
def aBn[ew]:(CH,X.K):=(r3,aBl hb (rc,(xo,λdx fs v ex N c=>cy λn l q=>?_)),aBj O N c n l λF s2 I2 W=>aU v H1 I2 W q)
def eh(ha:@pI)(hv:@y7)(hs:(sh,@b',@anZ)):(lX,@anZ,@b',aBm X.K ta tv f):=by ext pins s σ H D I h;calc plainObj_wpAny_Assign_Attribute (b7,(rg,s,H,I,h),cw λy H1 O B q=>bY (oN,_,q) λz s2=>qA λx H2 I2 J a C=>jt λdx fs ex N c n=>Fa λl q2=>?_) hs;subst ex;obtain rfl:z=@fo:=J;show aBk I2 N c n l B λs3 I3=>fM σ _ I3 q2
def aZR[ė]{m:au}{apos:dO}{args:@Ġ}[Ũ][I][Ž][È][d](h:(k3,∃a C dx fs g,x=@Î/\@z3/\@lF/\@ae8/\(dz,fs.lookup m,∀s1,(ï,H1,s1)->(hA,Ov pos @u? @ch (mP pos (a4,args)) (GY pos @ayU),Q,s1))))(ht:(kY,@amZ,args)=(do
 let z<-de e X.env
 Kg apos.atName
 let(f,first)<-zg [z] (Kj z m pl)
 Ov pos f first (mP pos (eN args X.env)) (GY pos (GZ [] X.env)))):(ao,(kY,@amZ,args),Q):=by calc(v3,(xo,λdx fs g ex N c=>cy λk l q=>?_));subst ex;rw[Ĝ];show aaM O N c k l (q s1 O)
universe z
section
variable{X:Cx}{pins:@Ç}{σ:St}{H:Hp}{s:aK}{A:fG}{E:@É}{Q:@É}{c:ai}{b:Bool}
universe z
universe _L
namespace _L
open PySem PySem.Spec PyProof.Rows
structure gW[r](A:fG):@v where
 hd:@gA
 dp:@aoC+5<aXM
 un:@fb+16*k+200<jl
def gW.mono{j k:Nat}[Ê](r:@iB)(h:@lO):gW j A:={r.hd,@XK,@XL}
def gW.deeper[du](env:lu):(LJ,env):=(Hu,@re+1+3*k,@fb+3+16*k)
def gW.in1[du]:gW k @gZ:=(Hu,@aoC,@fb+1+16*k)
def aBo[Ê][Ę][þ]{j:@kL}:(A.under @E4).depth=@re+1:=by first|rfl|simp[awr,Code.weight,Code.isCreation,Code.isGuard,Code.isCaller,aXN,aws,guardIds]
def aBp[Ê][Ę][þ]{j:@kL}:(A.under @E4).units=@fb+1:=by first|rfl|simp[awr,Code.cUnits,aXN,aws]
def gW.make[du][h][ŷ](j:@kL):gW k @SV:={r.hd,by let:=r.dp;rw[aBo];omega,by let:=r.un;rw[aBp];omega}
def gW.depth[bY](r:@iB):@re<aXM:=@XK
def gW.units[bY](r:@iB):@fb+64<jl:=@XL
def  A9:TA:=(fS,[])
def  zK[ź](j:TA):TA:=(fJ,j σ H1 λxs H2=>Q @it H2)
section
variable{X:Cx}{e:cq}{es:@Ġ}{te:TE}{t:TA}{pos:dO}
def ae:PA X [] A9:=λ_ _ _ _ H Q I h=>aja (rO,[],@á)
def ac(ha:@am)(hr:@pO)[e!]:PA X @cd @aka:=by ext pos pins s σ H Q I h;rw[hs];rw[ţ,spliced (px,@af_)];calc Uc (b7,@r_,@wI);show(nL,hr pos @Æ s1 σ H1 _ O q1,λxs H2 I2 r2 q2=>aU @it H2 I2 (.cons G r2) q2)
def  aBq[û][T](H1:Hp):@v:=(iS,(gv,(bT,p),(Ľ,p,@a4)))
def  aaN[â]:TE:=(b?,aBq Q)
def  aBr[û][T](H1:Hp):@v:=(iS,(q8,xs))
def  aBs[â]:TE:=(b?,aBr Q)
def lh{j}(h:@pO):(tu,es,pos,aaN t):=(H9,wpAny_Tuple_spliced @atf,(Ľ,@Ļ,@a4),fH z us r (HU _ @ad @d _ @d))
def cD(h:@pO):PE X (.List es pos) (aBs t):=(H9,wpAny_List_spliced @atf,(ap,@Ļ,xs),mr z us 0 r @ad)
universe z
abbrev Sp:=@P->Hp->(Å,VK,XK)
abbrev vh:=@aW->Hp->aK->XK->@É
structure CJ[ì](A:fG)[bE][dl]:@v where
 frames:A.frames=some @đ
 mod:Mod K mg @ĝ
 bs:(hn,base.get? b,@afF)
 bsz:base.objs.size<=@Ò
 funs:s.heap.FunFrames @ĝ @đ
 frf:∀b∈@Si,@ŋ
 hok:iw P w H @ä
 bare:@Sj
def  CE[bE][Ù][dh][û](u:ai)[ľ]:@v:=∃v H',s'.os=s.os/\@G4/\(z2,@Si,@c3)/\iw P w H' @c3/\@ż/\@IZ
def  CR(CX:vh)[bE][Ù][dh][û](E:XK)(r:Ub)[ľ]:@v:=match r with|.ok (.ret u)=>@ar1|.ok _=>False|.error e=>(AQ,s')
structure be[ì](CX:vh)[r][Ś](ps:@â)(sp:Sp):@v where
 len:@Ar
 run:∀(A:fG)(outer:@aW)(s:aK)(H:Hp)(args:Args)(us:@X)(vs:@P)(Q:VK)(E:XK),@iB->@NH->Kk s fd args @hq->@f'->@CA->B7 @wt A (xn,args) (CR CX @đ P w H s Q E) s
def be.mono[é][az][ad]{j k:Nat}{f:aa}[aR]{sp:Sp}(F:(oK,j,f))(h:@lO):(oK,k,f):={F.len,λA outer s H args us vs Q E hr=>F.run A @đ s H args us vs Q E (hr.mono h)}
def CJ.make[é][az][Ê]{outer:@aW}[S][a](e:@NH)[h][ŷ](j:@kL):(Lg,@SV):={by first|show e.frames|simpa[awr,Code.envs,aws,pushEnvs]using e.frames,e.mod,e.bs,e.bsz,e.funs,e.frf,e.hok,e.bare}
section
variable{X:Cx}{pins:@Ç}{σ:St}{H:Hp}{s s':aK}
def Inv.env0[d]:(IA,X.A):={I.ok.frames,I.ok.mod,I.bs,@adl,I.stack,I.stkFree,@Ŕ,@b_}
def Inv.after[ü][Ð][d](h:CE @bk @Ğ X.w H s Q u s'):(k4,u):=by clear h;calc jt λv H' os bare un hok=>@aiG;let{hh,g,d,t,S}:=s';obtain rfl:S=s.os:=os;show aU v H' (I.call (h':=hh) (g':=g) (d':=d) (t':=t) (ch:=[]) un hok bare (xp,z)) r q
universe z
def  Qn[cM](E:XK)[â]:TE:=(tZ,sp @h8 H1 Q E)
def  Qo[h](m:au)[cM](E:XK)[ź][â]:TE:=(fJ,∃a dx fs,x=@Î/\@z3/\(mG,m)/\t σ H1 λvs H2=>sp (x::@h8) H2 Q E)
def  Li[h][cM](E:XK)[â]:TE:=(tZ,(G1,@JN,@JO,@qz))
def  Binds[b](fd:nY)(ps:@â)(ds:@X):@v:=(J7,@la->(sK,us)=@b!->Kk s fd @jz (ps.zip @uc))
def Binds.all[Á][aR](h:∀us:@X,(Kk,fd)):@iX:=λs us _ hl=>by rw[iO]at hl⊢;show .of_eq (h us hl)
def  CK(CX:vh)[l](E:XK):@v:=∀(pins:@Ç)(σ:St)(H:Hp)(s:aK)(e:ai)(s':aK),@V->CX @bk H s E e s'->@akc
section
variable{X:Cx}{CX:vh}{k:Nat}{f C:aa}{fd:nY}{ps:@â}{sp:Sp}{me:@P}{ds:@X}{E:XK}{x m:au}{p pos apos:dO}{e o:cq}{es:@Ġ}{ta:TE}{t:TA}
def Qp[Í][ü][aY][aH][ĉ][d](r:@f')(h:sp @h8 H Q E):(uE,@ņ):=by let r2:bG @h8 @uc:=@SZ;rw[cd,(sK,us),(K,r2.length,(oX,h))];calc awt (xq,F.run X.A @bk s H @jz @uc @h8 Q E hr I.env0 (Ff,hl) r2 h);cases r with|error e=>show hx @Æ σ H s e s' I U|ok O=>rw[oy]
def aBt[aH][ŀ](hm:(gW,@ņ))(hk:@am7)[ĉ][ę][au]:(hz,Qn sp me E t):=by ext pins s σ H Q I h;calc@As;rw[dU,hk,@ant];show Qp F hr hb hd hx O r q
def aBu[ė][bF](c:@lF)(hm:@ae9)[aH][ĉ][eo][e?][fa]:(n_,@cd,me,E,t):=by ext pins s σ H Q I h;calc@apo;subst ex;rw[Ĝ];calc@apr;calc ajb (first:=@ch) (h₀:=@b9) I.ok.mod.kin hm.kp (nL,ha pos @Æ s1 σ H1 _ O q,λvs H2 I2 r q2=>@X1) fB fo;show(HP,@Î::us,@Î::vs,I2,.cons @d r,q2)
def aBv[ė][bF](c:@lF)(hm:@ae9)[aH][ĉ][fb]:(n_,[],me,E,A9):=by ext pins s σ H Q I h;calc@apo;subst ex;rw[Ĝ];calc@apr;show aXO (first:=@ch) O.kIn hm.kp (HP,@ch,@ch,O,(cf,@d),q)
structure Mk[b](C f:aa):@v where
 makes:@y4
 init:@L9
 fn:@qH
 kp:@abi
def amj[Í][ü][aY][dG][ĉ][d](r:@f')(h:(G1,(Á,x),(Á,dx),(JZ,@ags))):(uE,@ck):=by let U:=h @ň @Ò @G8 @df @Sh;let I2:=Inv.made (C:=C) I;let r2:bG (@S0::@h8) @aid:=.cons @d @SZ;rw[cd,(sK,@K?),by let e:=r2.length;rw[(oX,U)]at e;show@bi];calc awt (aBh (f:=f) @i_ M.makes M.init (gy.mp M.fn) (Ue (F.run _ @bk _ _ {@K?,[]} @aid _ _ E (hr.make C us []) (I2.env0.make C us []) (hb _ @K? I2.kIn hl) r2 U) λr s' nz=>?_));cases r with|error e=>show hx @Æ σ _ _ e s' I2 nz|ok O=>cases O with|ret u=>calc zM (I2.after nz) (λv H' I3 rv z q3=>?_);subst z;show{rv,aU @S0 H' I3 @d q3}|next=>show oI nz|brk=>show oI nz|cont=>show oI nz
def aBw[dG][ŀ](hm:@abm)[ĉ][ę][au]:(Ds,me,E):=by ext pins s σ H Q I h;calc@As;rw[dU,M.kp,@ant];show amj M F hr hb hd hx O r q
def aBx[dG][ŀ](hm:@abm)[ĉ][bG]:(Dk,me,E):=(LL,@As,aXO @i_ M.kp (amj (us:=[]) M F hr hb hd hx I @á h))
universe z
section
variable{X:Cx}{CX:vh}{k:Nat}{f C:aa}{fd:nY}{ps ks:@â}{sp:Sp}{E:XK}{x m:au}{p pos apos a0j:dO}{e o:cq}{es:@Ġ}{kws:@CO}{te ta:TE}{t tk:TA}{nm:Option au}
variable{g:@X->@X->@X}{gV:@P->@P->@P}
universe z
structure bD(N P:@â)(j:lN):@v where
 kind:(sw,j.kind)
 co:(A,j.isCoroutine)
 gen:(A,j.isGenerator)
 nd:N.Nodup
 pre:@S1=P
 par:@S2
 nofree:@ake
def  ckS(N P:@â)(j:lN):@Ù:=decide (j.kind=@q'/\(A,j.isCoroutine)/\j.isGenerator=@Å/\N.Nodup/\@S1=P/\@S2/\@ake)
def fs{N P:@â}{j:lN}(h:ckS N P j=@o):bD N P j:=by let h:=cF h;show{h.1,@š,@e!,h.2.2.2.1,h.2.2.2.2.1,h.2.2.2.2.2.1,h.2.2.2.2.2.2}
def amk[aZ]:(HQ,(u4,gD))|[],_,_=>rfl|(n,v)::r,m,h=>by delta G1;rw[amk @Aj];split;rw[nQ];.rfl
def aml[aZ]:(HQ,(u5,gD))
 |[],_,_=>rfl
 |(n,v)::r,m,h=>by
  delta G2;rw[aml @Aj];split;.rfl
  rw[nQ]
def amm[aZ][ÿ]:(HR,(ls,vY x),(u4,@Cj))|[],_,_,_,_,h,_,_=>@ù|_::_,[],_,_,_,_,h,_=>@ù|p::P,w::vs,0,m,nd,h1,h2,hk=>by simp at h1 h2;subst h1;subst h2;exact G1 vY @yE m p=_;delta G1;rw[amk @apV,aj hk];simp|p::P,w::vs,i+1,m,nd,h1,h2,hk=>by exact(u4,@yE)=_;delta G1;show amm (i:=i) @S3 @vG @pb hk
def amn[aZ][ÿ]:(HR,vY x≠some @fc,(u5,@Cj))|[],_,_,_,_,h,_,_=>@ù|_::_,[],_,_,_,_,h,_=>@ù|p::P,w::vs,0,m,nd,h1,h2,hk=>by simp at h1 h2;subst h1;subst h2;exact G2 vY @yE m p=_;delta G2;rw[aml @apV,ag hk];simp|p::P,w::vs,i+1,m,nd,h1,h2,hk=>by exact(u5,@yE)=_;delta G2;show amn (i:=i) @S3 @vG @pb hk
def  start(N:@â)(vs:@P):St:=vs.map some++tI (@rf-@bm) @u
def  H_(CX:vh)[ì](N:@â)(j:au)(bz:lN)(f:aa)(cd:ai)(A:fG)[bE][dl](E:XK):Cx where
 prog:=P
 w:=w
 K:=K
 mg:=mg
 base:=@ĝ
 A:=@SY
 N:=N
 s_0:=s
 H_0:=H
 env:=@ue
 outer:=@đ
 stack:=@ue::@đ
 ex:=[]
 calm:=@o
 fn:=@cq
 pn:=[]
 xe:=λe s'=>bn @wt @SY (leaving @ue e) (λ_ n=>(AQ,n)) (λF n=>CX @đ H s E F n) s'
def amo{j:lN}[u][s](h:@jI=some @ť):∃c,(ek,(oJ n j.names []).lookup x):=by let q:=aXP j.names n [] @di;show aXQ.mp q
def aBz[ad][é][az][dQ]{j:au}[ł]{f:aa}{cd:ai}[Ê]{outer:@aW}{s s1:aK}[a]{E:XK}[aY](S:@aoX)(hd:@gA)(e0:@NH)(hl:(rm,@bm))(r:@f')(x:InCallC s @Ò (G1 @as5 @hq @oN) (yN,[]) (G2 @as5 @hq @oN) s1):(Eo,H_ CX P w K mg @ĝ N j bz f cd A @đ s H E):=by
 let fo:@b!<=@rf:=by let:=(Ř,S.pre);rw[f_]at this;omega
 calc jH x.done (λh1 tk D hk=>?_);subst D;let G:∀b:aa,b∉(H_ CX P w K mg @ĝ N j bz f cd A @đ s H E).ex:=(xp,@S4);calc{{e0.mod,S.kind,@d,@d,@Â,λy z c h1 h2=>?_,@k2,λy c _ h=>?_,λ_=>hd,a19 e0.frames,.inr @Ű,@akb,e0.bs,e0.bsz,λb _ _=>G b,@akb,e0.funs,e0.frf},@d,e0.bare,Un.kept hk,ab _ x.toInCall.ns (λi y v h1 h2 h3=>?_),λy c h=>{_,x.cell y c h},e0.hok.fresh @Â,λy c h=>?_,(wP,(Lv,@axU)),e0.hok.kept hk,?_};.show name_of_addr x.apart (uL h1) (uL h2)
 .let hy:(fK,@hR,@hR):=hy;rcases hy with hy|hy;.show amo hy
  rw[Í,@d,S.nofree _ (uL hy)]
 .show@ar3
 .let hi:i<@bm:=by
   delta start at h2;by_cases hi:i<@bm;.show hi
   .rw[xp @hz]at h2;rw[List.getElem?_replicate]at h2;split at h2<;>cases h2
  let ha:@aye:=by delta start at h2;rw[aiB @hz,bB]at h2;cases e:vs[i]? with|none=>rw[e]at h2;cases h2|some a=>rw[e]at h2;cases h2;rfl
  rw[bs,ha,λu hu rv=>?_];let hp:(bz,ps):=by rw[<-S.pre,List.getElem?_take_of_lt @Ä];show h1
  let B:ps.Nodup:=(K,S.pre,S.nd.sublist (List.take_sublist _ _));calc ab u rv ?_;rcases S.par y (eD hp)with k|k;rw[Ä,{k,amm B hp hu k}];.let{c,e}:=amo (n:=@ň) k;calc(bg,@awH,c,e,?_);let q:=x.cell y c e;rw[amn B hp hu (by exact@hR≠_;rw[k];decide)]at q;show q
 .show e0.hok.fresh @ar3
 .delta start;exact _=@rf;rw[eM,aw,List.length_replicate];simp[*]
def aBA[ad][é][az][f]{f:aa}{name j:au}{aqP:aXR}[dP][ł]{dV kV M pm a7 ct W:ai}{z od:@aP}{vE:@gs}[dQ]{sp:Sp}(G:(ga,@atE))(kn:@L8)(S:@aoX)(len:@Ar)(afD:∀(A:fG)(outer:@aW)(s:aK)(H:Hp)(vs:@P)(Q:VK)(E:XK),(H0,(qi,bz,a7),H_ CX P w K mg @ĝ N j bz f a7 A @đ s H E,body)):be P w K mg @ĝ CX @û f @atE ps sp:=by
 rw[Á,len,λA outer s H args us vs Q E hr e0 hb r D=>?_];let hl:=len _ _ _ _ D;let B:@la:=e0.mod.kin.keeps @asa;let lim:s.heap.NoLimit:=e0.mod.nolimit.keeps @asa;let F:∀y∈@hq,(ls,@DS)\/(ň,@DS,@ť,((oJ @ň @b? []).lookup y.1).isSome=@o):=λ⟨n,v⟩hy=>by
  rcases S.par n (awu hy).1 with q|q;.show .inl q
  rw[Ç,{q,aXP _ _ _ (.inl q)}]
 calc codeAny_call_function hr.depth (B _ _ G) @d S.co S.gen @d (a1_ B kn) (hb _ _ _ _ ?_);calc wpAny_newFunctionEnv_cells S.kind F λenv he s1 x=>?_;subst he;rw[Á,lim.keeps x.toInCall.keep,codeAny_func ?_,<-x,afD A @đ s H vs Q E (hr.deeper _) D,λt ht U=>?_];let I:(Eo,H_ CX P w K mg @ĝ N j bz f a7 A @đ s H E):=aBz S hr.hd e0 hl r x;calc tF (ht [] s1 @Dr H _ I U) (λO s' hs=>?_) λe s' hs=>hs;let fin:∀{σ':St}{H':Hp}{v:V}{u:ai},Inv (H_ CX P w K mg @ĝ N j bz f a7 A @đ s H E) [] σ' H' s'->@ż->@IZ->@ar1:=λ{σ' H' v u}J rv q=>c_ v H' J.os J.bare J.base J.hok ⟨rv,q⟩;cases O with|ret u=>clear hs;calc om λv σ' H' J rv q=>?_;show fin J rv q|next=>clear hs;calc fb λσ' H' J q=>?_;show fin (v:=V.non) (u:=AF) J @d q|brk=>rw[lx]|cont=>rw[lx]
universe _L
namespace _L
open PySem PySem.Spec PyProof.Rows
section
variable{X:Cx}{x:au}{p pos:dO}{e:cq}{es:@Ġ}{t:TA}{id T:String}{r:@Ŏ}
def  tCB(r:@Ŏ)[â]:TE:=(tZ,r vs H1 Q)
def bL(hc:(bv,id,r))[cb](hv:Ke x=some @r?)[em][au]:@anA:=(I0,a2a (kl,@at0) he fo)
def pJ(hc:mF X @DJ r)[cb](hv:Ke x=some @DJ)[em][au]:@anA:=(I0,GS (kl,@at0) he fo)
universe z
universe _L
namespace HT
open PySem PyProof.Rows
def  lexLt:@À->@À->@Ù|[],[]=>false|[],_::_=>true|_::_,[]=>false|x::xs,y::ys=>(P,x,y,@akf,@amt)
def Ia(x y:Int)(xs ys:@À):lexLt @it @aic=(P,x,y,@akf,@amt):=@d
def aBB:(A,lexLt [] []):=@d
def aBC(y:Int)(ys:@À):lexLt [] @aic=@o:=@d
def aBD(x:Int)(xs:@À):(A,lexLt @it []):=@d
def aaO(A:fG)(s:aK)(a:Int)[ñ](c:Int)(u:Tok):∃e,awv A s @pt @pM e/\(aN,e,a=c):=ab (a==c) (aXS a t c u) @A
def aaP(A:fG)(s:aK)(a:Int)[ñ](c:Int)(u:Tok)[aP](E:@É)(Q:@É)(h:(hv,@agx)):(Ă,(ih,@pt,@pM)):=(a2b h:(Ă,px .Lt @pt @pM))
section
open PySem.SeqAt
open PySem.AutoSeq1(wpAny_loadPart')
open PySem.MeetsSeq PySem.MeetsSeq2 PySem.MeetsSeq3
def aBE[dk][b3][bH](hi:@K6)(hj:@M9):ajc (Builtin.«tuple.__lt__» @Nh) (λ_ R s=>(Mf,(Lw,dd,@tS,D),@arR,@Fd)):=(xr,by
 rw[aG];clear h;calc cy @o2;let f2:=aXT;let z1:@į=@ó:=(fz,hi.length);let z2:(sx,@g0):=(fz,hj.length);wp_walk using vZ hl,vZ hb,GL _ (λrest b s'=>b.1=@u/\s'=@Bk/\∃(vs ws:@X)(G F:@À),@Į=vs.zip ws/\uN vs G/\uN ws F/\G.length+@g0=@e?+@į/\(q5,lexLt G F,@Bk)) _;case turn=>rintro⟨y,x⟩;ext rest b s';calc si λip N vs ws G F=>jF λhz j I b_ hR=>?_;subst N;induction j with|nil=>rw[List.zip_nil_left]at hz;cases hz|cons a t V=>induction I with|nil=>rw[List.zip_nil_right]at hz;cases hz|cons c u S=>rw[TU]at hz;injection hz with J wW;injection J with hy hx;subst hy hx;rw[Ia]at hR;simp only[eE]at b_;calc aE (aaO A.in1 ⟨hp,g,d,tk,os⟩ a t c u) (λe he B=>?_);calc bg (he prog w _ _ ?_);induction e with|true=>rw[aj (B.mp rfl)]at hR;wp_walk;show(jI rfl rfl _ _ _ _ (dI wW V S (by omega) hR))|false=>rw[ag (λq=>absurd (B.mpr q) jP)]at hR;let z:=aaP A.in1 ⟨hp,g,d,tk,os⟩ a t c u prog w;wp_walk using z;show(ab _ rfl (by simpa using hR))
 case fin=>
  rintro⟨b1,b2⟩;ext s';calc si λip M vs ws G F=>jF λhz j I b_ hR=>?_;subst M;simp only at ip;subst ip;let hv:lexLt G F=decide (items.size<items2.size):=by
   induction j with
   |nil=>induction I with|nil=>simp only[Uh]at b_;rw[aBB];show(dE (by simp_all)).symm|cons c u hw=>simp only[Uh,eE]at b_;rw[aBC];show(bN (by simp_all)).symm
   |cons a t hv=>induction I with|nil=>simp only[Uh,eE]at b_;rw[aBD];show(dE (by omega)).symm|cons c u hw=>rw[TU]at hz;cases hz
  rw[hv]at hR;wp_walk;show(ab _ rfl (by simpa[a2c]using hR))
 case h=>show(jI rfl rfl items.toList items2.toList ns ms (dI rfl hi hj (by simp+arith[*]) h)))
universe z
section
variable{prog:dz}{w:dc}{A:fG}{E:@É}{s:aK}
def aBF{l b:aa}{items items2:@ŀ}{ns ms:@À}[I](hl:(ie,l,@œ))(hb:(ie,b,@d7))(hi:@K6)(hj:@M9)[bz](h:@acE):(Ă,px .Lt @ē @î):=by calc(hL,hl,@S5);rw[gT];calc@anI;rw[gV];simp only at hc hd dB qL;subst hc hd dB qL;show aXU (op:=.Lt) @C6 @avK aww aXV @akg (aBE l b @œ @d7 n n2 dd U D O ns ms hi hj) (aM N jL (GM,@Fd,@acE)) hu
def aBG{t b:aa}{vs ws:@X}[I](ht:(ie,t,@d8))(hb:(ie,b,@rg))(hv:vs≠[])(h1:ws=[]->Q @ab s)(h2:@v4->Q @Ū (mp,(jO,@akh)))(hsz:@bm+@d9<=bq):(Ă,zh .Add @ab @î):=by
 calc(hL,ht,@S5);rw[gT];calc@anI;rw[gV];simp only at hc hd dB qL;subst hc hd dB qL;let e:@d8++@rg=@akh:=@A;by_cases hw:ws=[];.show(o!,tuple_addW1 t b @d8 @rg n n2 dd U D O @pf (by simp[hw]),aM N jL (h1 hw))
 rw[ý,(o!,tuple_addW2 t b @d8 @rg n n2 dd U D O @pf @sd (Ç,gB,gB,hsz),(Ø,N,jL)),e,h2 hw]
def  pK[bu]:@db->Nat|none=>d|some v=>(Ez,v,v,v.toNat)
def Qq[bu]:pK n d @u=d:=@d
def E8(n d k:Nat):pK n d @PH=min k n:=by exact(Ez,@ë,@ë,(Ŕ,k))=min k n;rw[(@gp),aje]
universe z
universe HT
namespace _L
open PySem PySem.Spec PyProof.Rows
abbrev TO:=(mN,@Xi)
def  PO[l](e:@Gf)(t:TO):@v:=(Ls,@Xi,(k6,evalPart e @Ĉ,λu s'=>∃o H',@gK/\IsPart u o/\Q o H'))
def  aBH:TO:=(fS,@u)
def  aBI(t:TE):TO:=(b?,λx H1=>∃i,x=@þ/\Q @PF H1)
def intsAre_of{ns:@À}:∀{us:@X},@anW:=by cases ns with|nil=>ext us r;rw[At]at r;cases r;show@á|cons n ns ih=>ext us r;rw[cT]at r;induction r with|cons G r2=>let{t,e}:=G;subst e;show .cons n t (ih r2)
section
variable{X:Cx}{e:cq}{te:TE}{lo hi:@Gf}{tl th:TO}{pos p2:dO}
def xO:PO X @u aBH:=by ext pins s σ H Q I h;rw[awD];show cO (rO,@u,@Ť)
def ng(h:@am):PO X @PC (aBI te):=by ext pins s σ H Q I hw;rw[evalPart_some];calc(b7,@L5,@wI);clear q1;rw[hI];subst j;let{t,rfl}:=G;show aU @PF H1 O @kc q
def  SlR[l](r:@yn):@v:=∀(pins:@Ç)(s:aK)(σ:St)(H:Hp)(x:V)(v n z:ai)(lo hi:@db)(D:aa)(Q:VK),@V->@eN->s.heap.IsSliceOf D n z @Ť->IsPart n lo->IsPart z hi->r x lo hi H Q->∃T id,@aki=pure @PI/\@ajQ/\(cg,Kl v @cz)
def  tSl(r:@yn)[Ė](tl th:TO):TE:=(xc,tl σ H1 λl H2=>th σ H2 λu H3=>r x l u H3 Q)
def tS{r:@yn}(hr:SlR X r)[È](hl:PO X lo tl)(hu:PO X hi th):(se,lo,hi,@u,tSl r te tl th):=by ext pins s σ H Q I h;calc ajf @abt;calc(xu,hl @Æ s1 σ H1 _ O q1,cw λl H2 I2 pl q2=>bY (hu @Æ s2 σ H2 _ I2 q2) λz s3=>cw λu H3 I3 j q3=>?_);rw[awD];calc@aK;rw[jJ,(ï,H3,@Ab)];calc lT (hr @Æ @Ab σ H3 x v n z l u @bn Q I4 G (aX0 ..) pl j q3) (λT id hT ht hg=>?_);exact bn @ei X.A (awE e (.Slice lo hi @u p2) v @GP) @rJ X.xe @Ab;show awF (ops:=[@GP,v]) ht hT hg @nY
def  oW[e3]:@P:=(xs.drop @Fq).take @apy
def aBK[e3]:(h!,(oW xs lo hi).length):=by delta oW;rw[f_,jC];omega
def  amr[b]:R2:=(HO,xs,ys,@Î,ys)
def  aBL:=@λ{I W p2 p3 p4}G j D B n z J F M N O r=>@id (@amr I W p2 p3 p4) ⟨G,j,D,B,n,z,J,F,M,N,O,r⟩
def bG.nil_iff[dC]:us=[]↔xs=[]:=by cases r with|nil=>simp|cons _ _=>simp
def aBM:(nd,amr X.K):=by ext pins s σ H x y v u Q I J B h;clear h;calc i8 λa b xs ys D n=>jg λha hb hx hz q1 q2=>?_;subst D;subst n;cases J;cases B;rw[ko,<-km];calc HT.aBG W p2 (λz=>hx (G.nil_iff.mp z)) (λz=>(qr,@Î,q1 (r2.nil_iff.mp z))) @n' (by rw[<-G.length,<-r2.length];show hz);rw[lO,@awU,q2 (λw=>z (r2.nil_iff.mpr w)) _ @df];show fH @acs _ (G.append r2) (aX1 _ _)
universe z
universe _L
namespace _L
open PySem PySem.Spec PyProof.Rows
def  xP[c][ē]:@c9:=if 0<=i then(Š,i<n,i.toNat)else(Š,-@ö<=i,@af?)
def  lC[ci][ē]:Option α:=(xP @Ï i).bind λj=>xs[j]?
def ams[u]{i:Int}[Ä](h:(dN,xP n i)):(dN,awG i n)/\j<n/\-@ö<=i/\i<n:=by
 delta xP at h;by_cases h0:0<=i
 .rw[ô,h0];by_cases h1:i<n;.rw[ô,h1];let e:i.toNat=j:=@ia;show(t6,(dB,awH h0 h1),h1)
  rw[ī,@Ĺ]
 .rw[ě,h0];by_cases h1:-@ö<=i;.rw[ô,h1];let e:@af?=j:=@ia;show bU (dB,awI @Ä h1) @e h1 @e
  rw[ī,@Ĺ]
def aaR[t][ae]{i:Int}{v:α}(h:(h5,i)):∃j,(dN,awG i @Ï)/\@y!/\j<@Ï/\-(v,@Ï)<=i/\@m?:=by delta lC at h;cases e:xP xs.length i with|none=>rw[fj]|some j=>rw[Ĵ];calc r8 (ams e) @DA;show oN j h1 h h2 h3 h4
def Ic[t][ae][Ä]{v:α}(h:@y!):(h5,@f4):=by let hj:j<@Ï:=(gL.mp h).1;let e:(zR,@f4):=@ao2;delta lC;rw[e];show h
def amu[ci](v:α):(İ,@ago,-1,v):=by
 let hl:@am1=@Ï+1:=@A;let e:xP @am1 (-1)=some @Ï:=by delta xP;rw[hl,(@ag),aj @lg];congr 1;simp+arith[*]
 delta lC;rw[e];exact(Æ,@ago,@Ï,v);simp
def  aBN(b:cq):@v:=∀o i,(mr,b,o,i)=awJ [o,i] (Kl o i)
def  wG[l](r:R2):@v:=∀(value slice:cq)(pins:@Ç)(s:aK)(σ:St)(H:Hp)(x y:V)(v u:ai)(Q:VK),@V->@eN->@al->@MA->(mr,@ff,v,u)=awJ [v,u] (Kl v u)->(cg,awE @b' @ff v u)
def  Lj[l][e0]:@v:=@ase
section
variable{X:Cx}{a b:cq}{ta tb:TE}{pos:dO}
def wG.or{r r':R2}(h:wG X r)(h':wG X r'):wG X (λx y H Q=>@MA\/r' x y H Q):=by
 ext value slice pins s σ H x y v u Q I J B q hs;rcases q with q|q;.show h @b' @ff @Æ s σ H x y v u Q I J B q hs
 .show h' @b' @ff @Æ s σ H x y v u Q I J B q hs
def cI{r:R2}(hr:wG X r)[ĥ](hs:aBN b):PE X (eZ,a,b) @yB:=(iq,ajf (wo,hr a b @Æ s2 σ H2 x y v u Q I2 J B q (hs _ _)))
def  Qr[b]:R2:=(GY,@xD)
def  li:=@λ{I W p2 p3 p4}G j D B n z J F r=>@id (@Qr I W p2 p3 p4) ⟨G,j,D,B,n,z,J,F,r⟩
def  Qs[b]:R2:=(GY,@aav)
def  aBO:=@λ{I W p2 p3 p4}G j D B n z J F r=>@id (@Qs I W p2 p3 p4) ⟨G,j,D,B,n,z,J,F,r⟩
def  amv:R2:=λx y H Q=>∃z i c,x=@R0/\y=@þ/\z.length<=bq/\(ek,lC z.cps.toList i)/\(lz,@s6)
def amw:wG X (Qr X.K):=by
 ext value slice pins s σ H x y v u Q I J B h hs;clear h;calc@akk;subst F;subst n;cases J;rw[eW,<-é,U,@sO];calc@aj?;rw[kO];let hl:=r.length;let hn:=Lh;rw[ll];by_cases h0:0<=i;.let hj:i.toNat=j:=(CE,h5);show item_listR @g1 h0 @e @alX fin hs
 .let hj:(i+@WW).toNat=j:=by rw[awI @Ä h4]at h1;rw[gB,<-hl];show cM h1
  show aX2 (x:=w) pl.isList.typeIs awK.lookup (wpAny_getItem_list_neg (Q:=@asf) @g1 @Ä @axj @e @alX @XE) hs
def amx:wG X (Qs X.K):=by ext value slice pins s σ H x y v u Q I J B h hs;clear h;calc@akk;subst F;subst n;cases J;rw[eW,<-ü,U,@sO];calc zJ @aw5 @aw6;rw[kO];let hl:=r.length;let hn:=Lh;rw[ll];show aX2 (x:=w) pl.typeIs slot_tuple_getitem.lookup (getItem_tuple (j:=j) (Q:=@asf) pl @e @e (i9,h1) (by simpa using ew) @XE) hs
def amy:wG X amv:=by
 ext value slice pins s σ H x y v u Q I J B h hs;clear h;calc dF λz i c D n hz=>Fa λhe q=>?_;subst D;subst n;rw[Č,<-a_];calc@aj?;let hl:z.cps.toList.length=z.length:=by simp[Str.length]
 rw[hl]at h1 h4 h5;let hn:=Lh;show awF @aql slot_str_getitem.lookup (getItem_str (c:=c) (by let e1:(A,(j1,-(v,@dA))):=@oW;let e2:(A,decide (i>=@dA)):=@oW;rw[e1,e2,aX3]) (by rw[h1];simpa using h2) (hq,@GU)) hs
def  rIx[b]:R2:=λx y H Q=>Qr K x y H Q\/Qs K x y H Q\/amv x y H Q
def aBP:wG X (rIx X.K):=amw.or (amx.or amy)
def aBQ(aG:@X)(n j:Nat)(u:ai):qk (λx_=>@akl) @fO=(gh,.seq (aG.set j u).toArray n):=by simp[qk]
def Inv.lst[Í][U][w][d](h:@Ko):(sW,@hN/\@agJ/\@D!):=(ye,(bc,p,h),aU aG n r e z)
def Inv.lstUpd[Í][U]{xs ys:@P}{aG its':@X}{n z:Nat}{f:bS->bS}[d](h:@Ko)(N:@agJ)(hf:f @fO=@an2)(r:@af3)(hz:@v3)[Ĳ]:(ï,(cd,ys),(sY,p,f,t)):=by let e:(s.heap.update p f).get? p=some @an2:=(u,Ui f N (by rw[hf]<;>rfl),hf);calc I.write (x:=p) (e:=p) (yg,h) @ì (λb u hb q=>(n0,q)) @vV ?_;show mr hz its' z r e
def  amz:@aoB:=λo i v H Q=>∃p xs k j,o=@ã/\i=@eU/\@Ko/\(zR,k)/\Q @am!
def  Lk:=@λ{I W p2 p3 p4}G j D B n z J F r=>@id (@amz I W p2 p3 p4) ⟨G,j,D,B,n,z,J,F,r⟩
def Ll:aAU X amz:=by
 ext pins s σ H o i v z F u Q I G ri rv h;clear h;calc i8 λp xs k j D B=>cy λhp hj q=>?_;subst D;subst B;cases G;let{t,rfl}:=ri;calc lT (I.lst hp) (λaG n r N hz=>?_);calc r8 (ams hj) @DA;let hl:=r.length;let hn:=Lh;let O:(mH,@am!,s.heap.update p (s8,@akl)):=I.lstUpd hp N (aBQ aG n j u) (r.set rv j) (hs,B1) @Ĝ;by_cases h0:0<=k;.let hk:@bj=j:=(CE,h4);show a2d N h0 @e (i9,h4) @any
 .let hk:(k+@WW).toNat=j:=by rw[awI @Ä h3]at h1;rw[gB,<-hl];show cM h1
  show a2e N @Ä (i9,h3) @e @any
def aBR[dR][c]:(B9 lo hi @u n).1=(o,HT.pK n 0 lo)/\(B9 lo hi @u n).2.1=(o,HT.pK n n hi)/\(B9 lo hi @u n).2.2=1:=by
 calc aM ?_ ?_ @d;.cases lo with|none=>simp[B9,HT.pK]|some i=>rw[oe]
 .cases hi with|none=>simp[B9,HT.pK]|some i=>rw[oe]
def aBS(aG:@X)[dR]:Km @ò lo hi @u=((aG.drop @aoY).take (HT.pK @i' @i' hi-@aoY)).toArray:=by calc f7 (aBR lo hi @d_) @oa;delta Km;rw[h1,h2,h3];simp only[sliceRange_one,pick_run,gB]<;>rfl
def  aaT[b]:@yn:=λx lo hi H Q=>∃a xs,(fa,@ŉ,(nj,@aqm))
def  CL:=@λ{I W p2 p3 p4 p5}G j D B r=>@id (@aaT I W p2 p3 p4 p5) ⟨G,j,D,B,r⟩
def aBT:SlR X (aaT X.K):=by ext pins s σ H x v n z lo hi D Q I J hs pl j h;clear h;calc cw λa xs B hx q=>?_;subst B;cases J;rw[é,hx,@S9];let b_:=r.length;apply aU ("list") _ awK.lookup ht.isList.typeIs ?_;calc(HS,hs,j,@Ť);rw[aBS,<-b_];rw[lO,.lst @aqm,@os];show mr (dw (aBK xs lo hi) hz) _ 0 ((r.drop @Fq).take @apy) @ad
def  wH:V->@Ù|.non=>true|.bl _=>true|.int _=>true|.str _=>true|_=>false
def  pP:@aeM|.non,.non=>true|.bl a,.bl b=>@xb|.bl a,.int b=>(g4,a)==b|.int a,.bl b=>a==(g4,b)|.int a,.int b=>@xb|.str a,.str b=>@xb|_,_=>false
def aBU[Ê][S]{y x:V}{u v:ai}[ä](J:@eN)(fy:@Lx)(D:@Lw):awv A s u v @EJ:=by cases y with|non=>rw[iy,a2f _,a2g b,a2h b t,a2i b t]|bl a=>rw[iy,a2j a,a2k a b,a2l a b t,a2m a b t]|int a=>rw[iz,a2n a t',a2o a t' b,aXS a t' b t,aXm a t' b t]|str a=>rw[iz,a2p a t',a2q a t' b,aXn a t' b t,a2r a t' b t]|_=>rw[Ò,show@hc from fy,jP]
def  rA(x:V)(u:ai):@Ù:=match u with|.none=>pP @ŕ x|.bool b=>pP @bR x|.int i _=>pP @þ x|.str z _=>pP @R0 x|_=>false
def Qt{x y:V}[Ð](r:@al)(f:@Lx):@akm=@EJ:=by cases y with|non=>rw[ŵ]|bl b=>rw[ŵ]|int i=>rw[Ŷ]|str z=>rw[Ŷ]|_=>rw[Ò,show@hc from f,jP]
def Lm{x:V}:(vp,@Ų->@IG->us.any @hn=@S_)|_,_,.nil,_=>rfl|y::xs,u::us,.cons r t,f=>by rw[J8,eZ]at f;rw[B3,B3,(@akn),Lm t f.2]
def Ie[Ê][S]{x:V}[ÿ](J:@eN)(D:@Lw):(vp,@Ų->@IG->∀u∈us,awv A s u v @akm)|_,_,.nil,_=>λu hu=>by cases hu|y::xs,u::us,.cons r t,f=>λF hu=>by rw[J8,eZ]at f;rcases eJ.mp hu with rfl|hu;rw[Â,@akn,aBU r J f.1 D];.show Ie J D t f.2 F hu
def  zN(x:V)[T]:@Ù:=@S_
def  Ln[b](neg:Bool):R2:=λx y H Q=>∃p xs,y=@ã/\(@xD\/@aav)/\@Lw/\@IG/\(ŷ,if neg then ! zN x xs else zN x xs)
def  amA:=@λ{I W p2 p3 p4 p5}G j D B n z r=>@id (@Ln I W p2 p3 p4 p5) ⟨G,j,D,B,n,z,r⟩
def aBV:(DV,X.K):=(IV,SeqAt.in_listAt @hn @g1 @yT @yv,SeqAt.in_tupleAt @hn pl @yT @yv)
def aBW:(DW,X.K):=(IV,SeqAt.notIn_listAt @hn @g1 @yT @yv,SeqAt.notIn_tupleAt @hn pl @yT @yv)
def  amB[b]:@Ŏ:=(s6,xs=@k1/\@ah5/\(fm,@aD))
def aBX:(na,amB X.K):=by
 ext pins s σ H xs us Q I r h;clear h;rw[ë,λp ys n U q=>?_];subst n;rw[fE];subst j;cases J;let hn:=Lh;rcases U with U|U;.rw[fp];let b_:=r'.length;show Calls.call_len_list @g1 @WN @ank
 .rw[fs];let b_:=r'.length;show len_tuple pl @WN @ank
def  aBY[b]:@Ŏ:=(s6,xs=@k1/\@ah5/\(oE,@aan))
def aaU:(m6,aBY X.K):=by
 ext pins s σ H xs us Q I r h;clear h;rw[ë,λp ys z U q=>?_];subst z;rw[fE];subst j;cases J;let fin:∀(aG:@X),@aaW->@v3->∀(h':cH)(c':Nat),(∀b o',@jm=some o'->@ayc)->@R!=some (sd,.seq @ò c')->(gU,@Ū,@fr):=λaG r' hz h' c' kp e=>(ca,@Ū,(Lx,kp,@Â,(GL,ys,mr hz aG c' r' e)),@os);rcases U with U|U;.rw[fp];let b_:=r'.length;calc Ib @g1 @S';show(IQ,@ì)
 .rw[fs];let b_:=r'.length;clear pl;calc aZS @S';show(IQ,@bN)
def  aBZ[b]:@Ŏ:=(s6,xs=@k1/\((@axV/\(oE,ah H l @fK))\/(@ayj/\Q @ã H)))
def Qu:mF X @fu (aBZ X.K):=by
 ext pins s σ H xs us Q I r h;clear h;calc fb λp ys n h=>?_;subst n;rw[fE];subst j;cases J;rcases h with⟨U,q⟩|⟨U,q⟩;.rw[fp];let b_:=r'.length;calc call_tuple_list @g1 (λh' kp=>?_) @axi;rw[hY,kp];let I2:(mH,ah H h'.objs.size @fK,h'.push (jO,@ò)):=O.laid (t':=@Ĝ) @kH @Â (GK,@fK,fH hz aG r' (aX1 _ _));show(ca,.ref h'.objs.size,I2,q _ @Ci)
 .rw[fs];show call_tuple_same pl (lS,@ã)
def  Qv[d!](x:V)[i]:@v:=match x with|.str _=>T="str"|.int _=>T="int"|.ref p=>(T="list"/\∃xs,@xD)\/(T="tuple"/\∃o,(nE,(JN,p),o.dict=@u))\/(T="dict"/\(A_,(ľ,@aq),(ľ,@dg)))\/(T="set"/\∃S n,(ľ,.set S n))|_=>False
def amC[Í]{T:String}{x:V}[ÿ][d](r:@eN)(ty:Qv X.K T x H):@ajQ/\∀a,v=@Î->∃ob,(ń,a,ob)/\ob.dict=@u:=by
 cases x with
 |str z=>rw[Ĳ];cases(show T="str"from ty);show{@aql,@Hg}
 |int i=>rw[Ĳ];cases(show T="int"from ty);show{awM s i t,@Hg}
 |ref p=>
  cases r;rcases ty with⟨rfl,xs,U⟩|⟨rfl,o,hk,hc,hd⟩|⟨rfl,hk⟩|⟨rfl,S,n,hk⟩;.rw[é,U,λaG _ pl _=>?_,<-Á,pl.isList.typeIs,λa e=>?_];cases e;clear pl;calc g9 λo n e c hd _=>?_;show ab o e hd
  .rw[Á,(yx,p,hc),λa e=>?_];cases e;show(yx,_,hd)
  .let z:∃o,(dP,p)/\o.ExactDict:=by
    rcases hk with⟨kvs,hk⟩|⟨kvs,hk⟩;.rw[kV];show@abg
    .rw[kV];show@abg
   clear z;rw[E,λo e ex=>?_,<-mC];cases e2;show@abh
  .apply EH @ayk (λo _ _ _ e ex _=>?_);rw[mC];cases e2;show@abh
 |_=>show oI ty
def  aB0[dE](to:TE):TE:=(sZ,λx H1=>Qv K T x H1/\r x [] H1 Q)
def  uBM[dE][â](σ:St)[û][dm]:@v:=Qv K T x H1/\t σ H1 λxs H2=>r x xs H2 Q
def  iG:=@λ{I W p2 p3 p4 p5 U p7}G r=>@id (@uBM I W p2 p3 p4 p5 U p7) ⟨G,r⟩
def  tBM[dE](to:TE)[â]:TE:=(sZ,uBM K T r t σ Q)
variable{o e:cq}{es:@Ġ}{to:TE}{t:TA}{name:au}{apos o8:dO}{T id:String}{r:@bg}
def CM[ex](n:@zn)(hm:@zP)[ż][dS][fc]:(CG,[],aB0 X.K T r to):=by ext pins s σ H Q I h;calc wpAny_Call_method0_late z j @ao?;rw[nt];show c_ T id pa slot n h1 {h2,ajh @d (PySem.evalArgs_none (hm @Æ s1 σ H1 x [] v [] Q O G @á q1))}
def gr[ex](n:@zn)(hm:@zP)[ż][ę][dS](yt:(IB,(a4,@cd),(e::es).length):=by show tG true)[fc][e!](B:(pF,o8,@mU):=by show tG false):(CG,@cd,tBM X.K T r to t):=by ext pins s σ H Q I h;calc wpAny_Call_method_late z yt j @d @ao?;rw[nt];calc c_ T id pa slot n h1 (À,h2);let M:=ha o8 @Æ s1 σ H1 _ O q1;rw[hs]at M⊢;calc ajh (by exact(@Å||(mP o8 @mU).any @ê)=@Å;rw[B]<;>rfl) (awO ?_);show(nL,M,λvs H2 I2 r2 q2=>hm @Æ s2 σ H2 x vs v us Q I2 G r2 q2)
universe z
universe _L
namespace _L
open PySem PySem.Spec PyProof.Rows
def  Lo[l][e0]:@v:=@ase
def bG.one:∀{x:V}{us:@X},(ļ,[x])->@ar?|_,_,.cons r .nil=>@XM
def bG.zero:∀{us:@X},(ļ,[])->us=[]|_,.nil=>rfl
def bG.dropLast[dB]:bG xs.dropLast us.dropLast:=by cases h with|nil=>rw[ñ]|cons r t ih=>cases t with|nil=>rw[ñ]|cons q t'=>rw[Ż,r]
def bG.eraseIdx:(E9,xs.eraseIdx i,us.eraseIdx i)|_,_,_,.nil=>@á|_,_,0,.cons _ t=>t|_,_,i+1,.cons r t=>(mk,bG.eraseIdx i t)
def bG.rep[dB]:∀k:Nat,bG (ms,xs) (ms,us)|0=>@á|k+1=>by rw[Ox,Ox,vX,vX];show bG.append h (bG.rep h k)
def aB2[t][ű]:l.eraseIdx @j!=l.dropLast:=by
 cases l with
 |nil=>rfl
 |cons a r ih=>
  cases r with
  |nil=>rfl
  |cons b r=>
   let e:@yd-1=(@ajg-1)+1:=by let h1:@yd=r.length+2:=rfl;let h2:@ajg=r.length+1:=rfl;simp_all
   rw[e,List.eraseIdx_cons_succ,ih];all_goals rfl
def amE[t]:(xv,(h',(l.eraseIdx i).length))|[],_=>@Â|_::_,0=>J_ _|_::r,i+1=>avG (amE r i)
def foldl_rep(aG:@X):∀(k:Nat)(acc:@X),(we,acc.toArray,k,(xs,(ms,aG))):=by ext z_;cases z_ with|zero=>ext acc;show@A|succ k M=>ext acc;let e:acc.toArray++@ò=(xs,aG):=@A;rw[È,@afL++(ms,aG),acc++(tI @û aG).flatten,(Ô,Ox,vX,gh)];rw[<-e2,<-M @afL,<-e,Ox,BX]
section
variable{X:Cx}{pins:@Ç}{σ:St}{H:Hp}{s:aK}{l b:aa}{xs ys zs:@P}
def Inv.lset{aG its':@X}[u]{f:@ŀ->@ŀ}[Ĭ](M:@ex)(e:@ac7)(hf:f @ò=its'.toArray)(hv:@af3)(hz:@v3):(ï,@aan,(sY,l,@S8,t')):=by let q:=a2s e f;rw[hf]at q;calc I.write (x:=l) (e:=l) (d,M,gA) @ì (λG u hb hu=>(Uj @ä @S8 (tD hb)).trans hu) {_,q} ?_;show mr hz its' _ hv q
def Inv.lnew[af][Ĭ](hv:@aaW)(hz:@v3):(ï,(û,@Ò,ys),(ru,(jw,@ò),t')):=I.laid @ve @Â (mr hz aG 0 hv @ad)
def Inv.fresh[d]:(Á,@Ò):=@df
def Inv.lstM[d](M:@ex):(iS,(sW,@hN/\@Ï=@i'/\@ac7)):=(ye,(bc,l,M),ES z aG n r r.length e)
def aaW[u](h:n<=bq):(A,Oy n):=by delta Oy;show dE @C
universe z
section
variable{X:Cx}
def  aB3:@bg:=(xw,(sq,y,@Ym,Q @ŕ (be,@ZL)))
def i9:Lo X "list.append" aB3:=by ext pins s σ H x vs v us Q I J rv h;clear h;calc dF λl xs y D B M=>Fa λhz q=>?_;subst D;subst B;cases J;rw[b4,@Hh];subst j;rw[ah];calc(ns,F.slot_list_append,F.entry_list_append,F.args_list_append_2 _ _,PySem.list_append l @ò n u @iF);calc(oO,aG++[u],r.append (cf,W));rw[eM,xu];omega
def  aB4:@bg:=(Fh,@Mp)
def amF:(zl,aB4):=by ext pins s σ H x vs v us Q I J rv h;clear h;calc i8 λl b xs zs O D=>@Hi;subst O;subst D;cases J;rw[b4,λu B W=>?_];subst B;cases W;rw[ah];calc(kc,G,@S?);rw[md,<-nw];calc G3 aX9 @jX aX_ (aYa _ _) (a2t l @ò n b @g2 n2 N @iF @e) @agC;calc(oO,aG++j,@He);rw[eM];simp_all
def  amG:@bg:=(xw,x=@ē/\vs=[]/\@ex/\(Æ,xs,@Ï-1,y)/\Q y (be,xs.dropLast))
def  CO:=@λ{I W p2 p3}G j D B n z J r=>@id (@amG I W p2 p3) ⟨G,j,D,B,n,z,J,r⟩
def CQ:(zm,amG):=by
 ext pins s σ H x vs v us Q I J rv h;clear h;calc dF λl xs y B j M=>Fa λhy q=>?_;subst B;subst j;cases J;let D:=rv.zero;subst D;rw[ah,<-bs,hy,@nr];let S:(Dq,@d_):=by exact(Dq,@i');rw[<-G4,<-hl];show hu
 calc(ns,aYb,aYc,F.args_list_pop_1 _,a2u l @ò n u S @iF);calc aU y _ (rh,aG.dropLast,?_,r.dropLast) W q;.exact aG.toArray.eraseIdxIfInBounds (@d_-1)=aG.dropLast.toArray;rw[gB,aYd,aB2]
 rw[aO,awa]
def  aB5:@bg:=λx vs H Q=>∃l xs i k y,(sq,@þ,-(2^63)<=i,i<@dA/\(cn,awG i @Ï)/\(cu,xs,y)/\Q y (be,xs.eraseIdx k))
def amH:(zm,aB5):=by
 ext pins s σ H x vs v us Q I J rv h;clear h;calc gQ λl xs i k y G=>lW λB M h1 h2 hk hy q=>?_;subst G;subst B;cases J;rw[b4,@Hh];subst j;let{t,rfl}:=W;rw[ah,<-bs,hy,λw hw D=>?_];calc(ns,aYb,aYc,F.args_list_pop_2 _ _,a2v l @ò n i t k w @akr (i9,hk) (K,G4,hw) @iF);calc aU y _ (rh,aG.eraseIdx k,?_,r.eraseIdx k) D q;.exact aG.toArray.eraseIdxIfInBounds k=(aG.eraseIdx k).toArray;rw[aYd]
 rw[ā,amE xs k]
def  aaX:R2:=λx y H Q=>∃l b xs zs,x=@ē/\y=@î/\@ex/\@Mp/\(vH,(nj,@EI))
def  E9:=@λ{I W p2 p3}G j D B n z J F M r=>@id (@aaX I W p2 p3) ⟨G,j,D,B,n,z,J,F,M,r⟩
def pQ:(nd,aaX):=by ext pins s σ H x y v u Q I J B h;clear h;calc i8 λl b xs zs F D=>@Hi;subst F;subst D;cases J;cases B;rw[ah];calc(kc,G,@S?);calc a2w e e2 ?_ @OF;let N:@ò++@g2=(aG++j).toArray:=@A;rw[N];show(Gy,@He,(c?,eM))
def  amI:R2:=λx y H Q=>∃l k xs,x=@ē/\y=@eU/\@ex/\-(2^63)<=k/\k<@dA/\@Ï*@bj<=bq/\(nj,(tI @bj xs).flatten)
def  aB6:=@λ{I W p2 p3}G j D B n z J F M r=>@id (@amI I W p2 p3) ⟨G,j,D,B,n,z,J,F,M,r⟩
def aB7[ci][r]:(tI k xs).flatten.length=k*@Ï:=by cases k with|zero=>simp|succ k ih=>rw[Ox,vX,eM,ih,Oc,Ar]
def aB8:(dm,.Mult,amI):=by
 ext pins s σ H x y v u Q I J B h;clear h;calc dF λl k xs O G M=>gX λh1 h2 hz q=>?_;subst O;subst G;cases J;rw[eW,<-ah];let b_:@MU<=bq:=(i9,hz);let V:¬@MU>@apE:=by let:(Î,bq)<=@apE:=@Ó;omega
 let S:(fM,! a2x k):=(ir,@akr);let N:(fM,Oy @MU):=(ir,aaW b_);let MT:(EI,(V,aG.toArray.isEmpty,0,@bj),@bj):=by let f0:∀m:Nat,(EI,m,m):=λm=>(cx,foldl_rep aG m [],GF);rw[f0];cases aG with|nil=>simp|cons a r'=>rw[b7]
 apply wpAny_binaryOp_repeat_ref (T:="list") (U:="int") @Ó @jX (λs'=>awM s' k t) noFill_list_mul F.fills_int_mul aYf repeat_list F.slot_int_index.lookup (G3 aYf (awM s k t) F.entry_int_rmul (F.args_int_rmul_2 _ _) (int___rmul___int_list k t l @ò n) (bU e @d @jX (ns,F.slot_list_mul,F.entry_list_mul,F.args_list_mul_2 _ _,a2y l @ò n k t S V N)));rw[MT];show(Gy,r.rep @bj,(Ç,aB7,B0,hz))
universe z
section
variable{prog:dz}{w:dc}{A:fG}{E:@É}{s:aK}
universe z
section
variable{X:Cx}
universe z
universe _L
namespace _L
open PySem PySem.Spec PyProof.Rows
def bG.ints:∀{ns:@À}{us:@X},@anW|[],us,h=>by rw[At]at h;cases h;show a2z|n::ns,us,h=>by rw[cT]at h;induction h with|cons r t=>let{k,rfl}:=r;show a2A n k (bG.ints t)
def amJ:∀{us:@X}{ns:@À},@axY->(ļ,@Ŀ)|_,_,.nil=>(d,At,Paired.nil)|_,_,.cons n t h=>(d,cT,Paired.cons (show RelV (V.int n) (Oj n t)from@on) (amJ h))
def bG.bls:∀{bs:@Ō}{us:@X},(ļ,@Ta)->us=@Tb|[],us,h=>by rw[At]at h;cases h;rfl|b::bs,us,h=>by rw[cT]at h;induction h with|cons r t=>cases r;rw[bG.bls t,cT]
def bG.ref1[X][þ](r:(ļ,(eN,a))):us=[@fo]:=by induction r with|cons r t=>cases t;cases r;rfl
section
variable{prog:dz}{w:dc}{A:fG}{E:@É}{s:aK}{l:aa}{aG:@X}{ns:@À}{Q:@É}
def aB9[Ń](hl:(Kv,@ò))(hi:@abz)(h:@ash):@aq?:=(IM,PySem.sum_intListG hh hl @Tc)
universe z
section
variable{X:Cx}
def  aB_[b]:@Ŏ:=(vq,@JC,@ab3)
def Lp[É]:(bv,"sum",aB_ X.K):=by ext pins s σ H vs us Q I r h;clear h;calc cw λa ns j hs q=>?_;subst j;rw[fM,<-Ł];show aB9 @ł hl.isList rv.ints λh' tk t' hk=>aU @nQ H (I.kept hk) @c? q
def  aCa[b]:@Ŏ:=(vq,@JC,@ó<64/\∀(G:@À)(p:aa),G.Perm ns->G.Pairwise @iU->@a7->Q @ã (cd,@hS))
def aCb[u](h:n<64):n<=bq:=(Ú,Ot)
def aaY:(yF,aCa X.K):=by ext pins s σ H vs us Q I r h;clear h;calc g9 λa ns n hs j q=>?_;subst n;rw[fM,<-Ł];let hi:=rv.ints;calc a2B hl.isList hi (d,hi.length,j) λN G h1 h2 h3=>?_;let{ep,Bq}:=aYi @ä aG N;let b_:(G.map @é).length<=bq:=(aa,h2.length_eq,aCb j);show aU @kF (û,@ň,@hS) (Ed,mr b_ N.toList ep (amJ h1) Bq) @d (q G _ h2 h3 @G8)
universe z
section
variable{X:Cx}
def  aCc[b]:@bg:=λx xs H Q=>∃(a:aa)(ys:@P)(y:V)(j:Nat)(z:V),x=@jS/\xs=[y]/\(cP,ys)/\@Lx/\@W?/\@ams/\pP z y=@o/\(∀(m:Nat)(z':V),m<j->(Æ,ys,m,z')->(A,pP z' y))/\(cv,j)
def amK{ys:@P}(f:@W?)[Ä]{z:V}(h:@ams):wH z=@o:=j_.mp f z (eD h)
def aaZ:Lj X "list.index" (aCc X.K):=by
 ext pins s σ H x xs v us Q I J V h;clear h;calc gQ λa ys y j z aLo=>lW λaLp hs fy G hz FU=>Fa λdb q=>?_;subst aLo;subst aLp;cases J;induction V with
 |cons B rt=>
  rename_i uy ut;cases rt;rw[é,hs,λaG rv aLq b_=>?_];let{{cls,dd,data,D},n,N,hc,rL,hd}:=aLq;simp only at hc hd;subst hc hd;rw[a?,hz,@nr];let{Bp,hje}:=gL.mp hu;let hvl:=rv.length;let hj:j<@d_:=by simpa using Bp
  let gc:=Ot;calc G3 aji @C6 a2C (a2D _ _) (SeqAt.list_indexAt a @ò n dd D uy (rA y) j hj @e ?_ ?_) (Ø,N,λF M=>Ie B fy rv G F (by simpa using M));.rw[É,(@ò)[j],u,by simpa using hje];rw[e1,Qt W (amK G hz)];show FU
  .ext m hm O;let kZ:m<@i':=@WC;let hmy:m<@aD:=@C;let S:(Æ,ys,m,ys[m]):=cJ hmy;rw[a?,S,@Te];let{_,hme}:=gL.mp ny;rw[É,(@ò)[m],u2,by simpa using hme];rw[e1,Qt U (amK G S)];show db m _ O S
  .show(hq,(ď,j))
universe z
section
variable{X:Cx}
universe z
def aCd[ĩ][b2]{l:aa}[e4](hl:@M_)(h:∀z:aK,z=(mp,@jR)->(z.heap.IsListIter @Ò l 0/\z.heap.IsList l @œ)->@acQ->Q @Ū z):(Ă,T7 @ē):=by
 let bK:@Ks:=by clear hl;rw[E,@aum];show@Ľ
 show awk hl (h _ @d {@gg,hl.push _} @vf)
def aCe[ĩ][Ê]{bs:@Ō}[af](e:aG=@Tb):TruthOf @ţ w A (λi v=>(H,@ò,v)) @Pn:=λi v s Q E hv U=>by
 let F:(H,aG,v):=@pf;rw[e,bB]at F;rw[x,awQ.mp F,λb hb j=>?_];subst j;let hg:@Fe=b:=by rw[eY,hb]<;>rfl
 let nz:Q @Fe s:=U;rw[hg]at nz;show Er nz
def all_range:∀bs:@Ō,(bP bs.length).all @Pn=@Tf:=by ext z_;cases z_ with|nil=>rw[Ø]|cons b bs M=>rw[eE,TF,J8,Ey,J8,<-M];all_goals rfl
section
variable{X:Cx}
def  aCf[b]:@Ŏ:=λvs H Q=>∃(a:aa)(bs:@Ō),vs=[@jS]/\(cP,@Ta)/\(ŷ,@Tf)
def Qw[É]:(bv,"all",aCf X.K):=by
 ext pins s σ H vs us Q I r h;clear h;calc cw λa bs j hs q=>?_;subst j;rw[fM,<-Ł];let hb:=rv.bls;calc call_all_walk (aCd hl.isList λz e2 st aQ=>?_);subst e2;calc dZ _ _ _ _ _ _ (oN _ @d (ajj (A:=@mu) @ł _ a aQ @ò) st (aCe hb) (λh' tk hk=>?_));calc(Ap,@nj,λb o B=>hk b o @Tg (iX _ B));.rcases eJ.mp iB with e1|iB;rw[Í,e1▸fL B,@fJ];.cases iB
 .exact GO _=GO _;rw[<-all_range,hb,gB,aw]
universe z
mutual
inductive Dp[ć]:(Å,V,G5)|non:(ch,@ŕ,@Ť)|bl[G]:(ch,@bR,@GR)|int[ē]:(ch,@þ,@þ)|str[M]:(ch,@aT,@aT)|lst[Ò]{ds:@oG}:(Ey,@ŉ,@Hj)|tup[Ò]{ds:@oG}:(Ey,@bV,@Hk)
inductive E_[ć]:(Å,@P,@oG)|nil:E_ K H [] []|cons{v:V}{vs:@P}{d:G5}{ds:@oG}:(ch,v,d)->E_ K H vs ds->E_ K H @Km @NS
end
section
variable{X:Cx}{pins:@Ç}{σ:St}{H:Hp}{s:aK}
mutual
def Dp.reads[d]:∀(d:G5)(v:V)(u:ai),Dp X.K H v d->@ż->∃as,Reads @ä u d as
 |.none,_,_,h,r=>(uD,Reads.none)
 |.bool b,_,_,h,r=>(uD,Reads.bool b)
 |.int i,_,_,h,r=>(zt,Reads.int i t)
 |.str x,_,_,h,r=>(zt,Reads.str x t)
 |.list ds,_,_,h,r=>by induction h with|lst hs ha=>cases r;rw[é,hs,λaG rv z _=>?_,<-gW,<-jK,ha,rv];show{_,Reads.list N hc hd hr}
 |.tuple ds,_,_,h,r=>by induction h with|tup hs ha=>cases r;rw[ü,hs,λaG rv j _=>?_];let{o,N,hc,n,hd}:=j;rw[jK,ha,rv];show{_,Reads.tuple N hc hd hr}
 |.dict _,_,_,h,_=>@Ŧ
def Dp.readsAll[d]:(Fi,@oG,E_ X.K H vs ds,ReadsAll @ä us ds as)|[],_,_,h,r=>(uD,a2E)|d::ds,_,_,h,r=>by induction h with|cons h1 h2=>rw[nk,Dp.reads I d _ _ h1 G,Dp.readsAll I ds _ _ h2 r2,a2F q1 q2]
end
universe z
section
variable{X:Cx}
def  amL[b]:R2:=(ID,@aks)
def  aCg:=@λ{I W p2 p3 p4}G j D B n z r=>@id (@amL I W p2 p3 p4) ⟨G,j,D,B,n,z,r⟩
def  amM[b]:R2:=(ID,!@aks)
def  aCh:=@λ{I W p2 p3 p4}G j D B n z r=>@id (@amM I W p2 p3 p4) ⟨G,j,D,B,n,z,r⟩
def aCi(hu:@ahi):(bp,.Eq,amL X.K):=(Iw,SeqAt.compareEq_shaped G r2 n j hu @ad3)
def aCj(hu:@ahi):(bp,.NotEq,amM X.K):=(Iw,SeqAt.compareNe_shaped G r2 n j hu @ad3)
universe z
universe _L
namespace _L
open PySem PySem.Spec PyProof.Rows
abbrev amN[Æ](c:aa)(v:@ea):@v:=h.IsCell c v
def  aCk(bz j:lN):lN:={bz with names:=bz.names.map (B7,(rf,k,@an),(n,@ť))}
def  nh(cells:@Ś):@dN->@Ś->@Ś|[],acc=>acc|(n,k)::r,acc=>(Bd,nh cells r ((n,@Oh)::acc),nh cells r acc)
def amO(env:lu)(f:au×tH->@Ś->qj (ForInStep @Ś))(hf:∀n k c,f (n,k) c=(Bd,do
 let a<-awR env n;
 pure (.yield ((n,a)::c)),pure (.yield c))):∀(names:@dN)(acc:@Ś),(∀y∈names,y.2=@an->@afS)->forIn @i! acc f=pure (nh env.cells @i! acc)
 |[],acc,_=>(Q,aYk)
 |(n,k)::r,acc,h=>by
  rw[List.forIn_cons,hf];let ih:=λacc=>amO env f hf r acc @Ae;delta nh;by_cases hk:(aE,k,OA)
  .rw[ÿ,hk,hk];let{c,hc}:=h (n,k) pw @hW;let e:awR env n=pure c:=by delta awR;rw[hc]
   rw[e];rw[È,(env.cells.lookup n).getD 0,c,(Q,hc)];rw[e2];show ih _
  rw[Ê,@nn,@nn,ih _]
def aCl[ł][bD](h:(ry,@afS)):aYl bz env=pure (Jc,env.cells):=by simp only[aYl];rw[amO env _ @Th @b? [] h];rfl
def mem_lookup[t]:∀{l:(ge,α)}{n:au}{c:α},(n,c)∈l->∃c',l.lookup n=some c'
 |(k,v)::r,n,c,h=>by
  rw[Kn];cases hb:n==k with
  |true=>show@c?
  |false=>
   rcases eJ.mp h with e|h;.cases e;simp at hb
   .show mem_lookup h
def Qy[dT]:∀{names:@dN}{acc:@Ś}{n:au}{c:aa},(n,c)∈@Nq->(n,c)∈acc\/((mT,n,@an)/\c=@Oh)
 |[],_,_,_,h=>@di
 |(m,k)::r,acc,n,c,h=>by
  delta nh at h;split at h
  .rename_i hk;let hk:k=@an:=@hW;rcases Qy h with h|⟨h1,h2⟩;.rcases eJ.mp h with e|h;rw[b3,.inr (ć,@ah0),<-Ä,h]
   rw[Ç,@alI]
  .rcases Qy h with h|⟨h1,h2⟩;rw[Ä,h,<-Ç,@alI]
def aa0[dT]:∀{names:@dN}{acc:@Ś}{p:au×aa},p∈acc->p∈@Nq
 |[],_,_,h=>h
 |(m,k)::r,acc,p,h=>by
  delta nh;split;.show aa0 @YN
  .show aa0 h
def aa1[dT]:∀{names:@dN}{acc:@Ś}{n:au},(mT,n,@an)->(n,@Oh)∈@Nq|(m,k)::r,acc,n,h=>by delta nh;rcases eJ.mp h with e|h;rw[b3,aa0 pw,<-fq,aa1 h,aa1 h]
def Lr:∀{names:@dN}{h:cH}{acc:@Ś}{x:au}{c:aa},@ag!->@adY\/((mT,x,@ť)/\@c2<=c/\amN (G6 h @i!) c @u)
 |[],_,_,_,_,h=>@di
 |(n,k)::r,h,acc,x,c,hm=>by
  delta oJ at hm;delta G6;split at hm
  .rename_i hk;rw[aj hk];let hk:k=@ť:=@hW;rw[<-(@aqk)]at hm;rcases Lr hm with hm|⟨h1,h2,h3⟩;.rcases eJ.mp hm with e|hm;rw[b3,.inr (n0 @ah0 @Â _ (ajk r _ _ _ @ad) @d),<-Ä,hm]
   rw[fc,.inr (aM @Ek @Hl h3)]
  .rename_i hk;rw[ag hk];rcases Lr hm with hm|⟨h1,h2,h3⟩;rw[Ä,hm,<-Ç,aM @Ek h2 h3]
def Qz:∀{names:@dN}{n:Nat}{acc:@Ś}{p:au×aa},p∈acc->p∈(l2,n)
 |[],_,_,_,h=>h
 |(m,k)::r,n,acc,p,h=>by
  delta oJ;split;.show Qz @YN
  .show Qz h
def aa2:∀{names:@dN}{n:Nat}{acc:@Ś}{x:au},(mT,x,@ť)->∃c,(x,c)∈(l2,n)
 |(m,k)::r,n,acc,x,h=>by
  delta oJ;rcases eJ.mp h with e|h;.cases e;show{n,Qz pw}
  rw[fq,aa2 h,aa2 h]
def aa3:∀{names:@dN}{h:cH}{acc:@Ś}{x y:au}{c:aa},(∀p∈acc,p.2<@c2)->(BW,@adY,(y,c)∈acc)->@ag!->(y,c)∈(l2,@c2)->x=y
 |[],_,_,_,_,_,_,hi,h1,h2=>hi _ _ _ h1 h2
 |(n,k)::r,h,acc,x,y,c,hl,hi,h1,h2=>by
  delta oJ at h1 h2;split at h1
  .rename_i hk;rw[(@r')]at h2;rw[<-(@aqk)]at h1 h2;apply aa3 (h:=h.push _) @Ŝ (λx y c a b=>?_) h1 h2
   .rw[zi];rcases eJ.mp hp with rfl|hp;.show@kq
    .show J5 @aiy
   .rcases eJ.mp a with e|a<;>rcases eJ.mp b with F|b;.cases e;cases F;rfl
    rw[b3,(h?,hl _ b)];.cases F;show(h?,hl _ a)
    .show hi _ _ _ a b
  .rename_i hk;rw[(@nn)]at h2;show aa3 hl hi h1 h2
def aCm[bf][ł]{B:aa}{z:@Ś}{j:au}{func:@aP}{code:ai}{F:lu}{D:aa}{Q:(Ķ,lu)}(h:Q (newEnv bz @Ò B (yN,z) j func code @PD D) @Sz):(lU,aYm bz B z [] j func code @PD D):=by simp only[aYm,aYn,ku];rw[Q,wpAny_alloc ?_,<-Q,wpAny_layCells _ @Th @b? z _ _ ?_];rw[show(yv,({s with heap:=@nT}:aK).heap.objs.size)from zi ..];rw[aYk];show bg (eU,h)
def aa4{j:lN}:∀{names:@dN}{x:au}{k:tH},(cn,(names.map (B7,(rf,k,OA),(n,awS))).lookup x)->∃k',(ň,names.lookup x,k',k=k'\/(k'=@an/\k=@ť))
 |[],_,_,h=>@ù
 |(n,z)::r,x,k,h=>by
  let ih:=@aa4 j r x k;let h':(cn,GU x ((V,@ayB&&@uk,(n,awS),(n,z))::(r.map _))):=h;cases hx:x==n with
  |true=>
   simp only[Kn,hx];rw[jh,@uk];.rw[(@oP)]at h';simp only[Kn,hx]at h';cases h';simp only[eZ,gy]at hc;show(tF,z,(ć,hc.1.1))
   .rw[(@oO)]at h';simp only[Kn,hx]at h';cases h';show(R,@ì)
  |false=>
   simp only[Kn,hx];rw[jh,@uk];.rw[(@oP)]at h';simp only[Kn,hx]at h';show ih h'
   .rw[(@oO)]at h';simp only[Kn,hx]at h';show ih h'
structure Ls(N:@â)[e1]:@v where
 kind:(sw,bz.kind)
 uniq:∀y∈bz.names,@alG
 ix:∀p∈own,@aqW
 free:(ry,(fK,@G1,@G1))
 own:∀y∈bz.names,y.2=@fc\/y.2=@ť->@ayI\/y.1∉N
def  bR(σ:St):@h->St|[]=>σ|v::vs=>(bR σ vs).set v @u
def amP(σ:St):∀vs:@h,(s9,vs)=@q?:=by ext z_;cases z_ with|nil=>rw[Ø]|cons v vs M=>show by delta bR;rw[B1,M]
def aa5[ſ][e]{x:V}:∀{vs:@h},(H,@aG,@FR)->(H,σ,@FR)/\i∉vs
 |[],h=>{h,@A}
 |v::vs,h=>by
  delta bR at h;by_cases hi:v=i;.subst hi;by_cases hv:v<(s9,vs);rw[ī,ai4 hv,<-ī,qg @pf]
  .rw[TY hi]at h;let{h1,h2}:=aa5 h;show{h1,by simp only[eJ,not_or];show{λe=>hi @bi,h2}}
abbrev Cx.blk[l][dl](bz:lN)(j:lu)(B:@Ë):Cx:={X with s_0:=s,H_0:=H,env:=j,outer:=@bk,ex:=B,fn:=λx=>bz.names.lookup x==some @ť,pn:=[],xe:=@f1}
section
variable{X:Cx}{pins:@Ç}{σ:St}{H:Hp}{s:aK}
def aCn[aF]{B:@Ë}[d](ok:@yy)[dU](G:∀b∈B,@Cw/\b<@Ò):Inv (Jm,@Lo,@Ò) [] @ayW H @Sz:=by
 rw[nD];generalize J:(pw,@Lo,@Ò)=j;let kp:∀b o,@cx->(X,(G6 @nT @b?).get? b):=(w?,@cu);let hL:@mw=@Ò:=@LQ;let ja:j.cells=@Lo:=@LQ;let D:j.scope=aCk bz @q!:=@LQ;rw[<-zi @ä @m6]at ja;let M:∀{y c},(y,c)∈@BK->@wH/\@Kr:=λ{y c}hm=>by
  rcases Qy hm with hm|⟨h1,rfl⟩;.cases hm
  .let{c,hc}:=Je _ h1 @d;rw[hc];let{w,z}:=I.cell _ _ hc;show(Ì,z.lt)
 let mem:∀{y c},@ny->(@wH/\@Kr)\/(@ň<=c/\amN @ayb c @u):=λ{y c}e=>by rw[ja]at e;rcases Lr (uL e)with hm|⟨_,h2,h3⟩;rw[Ä,M hm,<-fc,(as,h2,h3)]
 let look:∀{y},@hR=some @an->∃c,@ny/\@wH:=λ{y}hl=>by
  let hy:(y,OA)∈@b?:=uL hl;rw[gX,Qz (names:=@b?) (n:=@SM) (aa1 (cells:=X.env.cells) (acc:=[]) hy)];rw[<-ja]at F;rw[â,c',F];rw[ja]at F;rcases Lr (uL F)with hm|⟨h1,_,_⟩;.show(M hm).1
  rw[id,@akt,hl]
 let O:(X.blk s H bz j B).Ok:=by
  calc{I.ok.mod,by exact j.scope.kind=_;rw[D];show ok.kind,(zK,j.globals,I.ok.glob),(zK,j.builtins,I.ok.blt),by exact@Ò<=@mw;rw[hL];show@Â,λy z c e1 e2=>?_,@k2,λy c z e=>?_,I.ok.hd,I.ok.frames,@ì,λb hb=>{?_,λy c e z=>?_},I.bs,@adl,@Ti,λb hb z=>?_,I.stack,I.stkFree};.let e1:@ny:=e1;let e2:(Jh,z):=e2;rw[ja]at e1 e2;calc aa3 @Ŝ (λy z c a b=>I.ok.inj y z c (M a).1 (M b).1) (uL e1) (uL e2);rw[zi];show J5 (M (y:=p.1) (c:=p.2) hp).2
  .exact@PU;let key:∀k,(cn,@CX)->(k=@ť\/k=@an)->@PU:=λk hk jw=>by
    delta Env.kindOf at hk;rw[D]at hk;rw[j7];let:k'=@ť\/k'=@an:=by
     rcases r with rfl|⟨rfl,_⟩;.show jw
     rw[Ç,@d]
    rcases this with rfl|rfl;.let{c,hm}:=aa2 (n:=@SM) (acc:=@BK) (uL e);rw[gX,hm];show{c',(d,ja,F)}
    .rw[x,look e,λc h1 _=>?_];show⟨c,h1⟩
   rcases hy with hy|hy;.show key _ hy @ì
   .show key _ hy @bN
  .let z:(aE,@hR,some awS):=z;let z:@hR=some @ť:=@pd;rw[bR];rw[ja]at e;rcases Lr (uL e)with hm|⟨_,h2,_⟩
   .rcases Qy hm with hm|⟨h1,_⟩;.cases hm
    .let q:=@akt;rw[z]at q;cases q
   rw[fc,@Hl]
  rw[ğ,b≠@mw,hL,jD @aku]
  .rw[bR];rcases mem e with⟨h1,_⟩|⟨h1,_⟩;.show(G b hb).1.2.2.2.2.1 y c h1 z
   .let h2:@ň<=b:=(K,z,h1);show(h?,qe @aku @Hl)
  .rcases(G b hb).1.2.2.2.1 with z|z;.show I.ok.noex b o e z
   rw[Í,qe @Ľ (qG,z),@fJ]
  .rcases eJ.mp (I.stkSub b z)with z|z;.show(G b hb).1.2.1 z
   .show(G b hb).1.2.2.1 z
 calc{O,@d,@b_,Un.kept kp,ab @oN ?_ (λi y W e1 e2 e3=>?_),@G9,?_,@G9,@Ŝ,I.hok.kept kp,(d,amP,I.len)};rw[ğ,Heap.Ns _ @mw _,hL,a2G (a2H ..) (w?,e)]
 .let{e2,aQ}:=aa5 e2;let N:@ard:=by
   let key:∀k,(cn,j.scope.names.lookup y)->k=@fc\/k=@ť\/k=@an->@ard:=λk hk jw=>by
    let yu:=hk;rw[D]at hk;rw[j7];let no:¬(k'=@fc\/k'=@ť):=λhh=>by
     rcases ok.own _ (uL e) hh with F|F;.rw[x,bE.mp F,λp hp V=>?_];let e3:=ok.ix p hp;let:p.1=y:=V;rw[this]at e3;show aQ (bE.mpr (ab p hp (aaA S e3 e1)))
     .show F (eD e1)
    rcases r with rfl|⟨rfl,rfl⟩
    .rcases jw with rfl|rfl|rfl;rw[Í,@ì,no];.show absurd @bN no
     .show{e,.inr yu}
    .show{e,@Qy}
   let e3:HR j.scope y:=e3;rcases e3 with e3|e3|e3;rw[fW,@ì,<-fW,@kY,<-fW,@Jy]
  rw[Ű,@vh];let U:(J5,y):=(ok.free _ (uL N.1) @d).elim (λk=>(l8,k)) (λk=>(Ĕ,k));rw[x,hl i y W e1 e2 U,λw r q=>?_];calc ab w r (l9,N.2);rw[x,look N.1,λc h1 h2=>?_];rcases q with⟨k,_⟩|⟨_,c',F,z⟩;.let k:@adJ:=k;rcases ok.free _ (uL N.1) rfl with k'|k'<;>rw[show@awY=_ from k']at k<;>cases k
  .rw[h2]at F;cases F;show ab c h1 @Tj
 .rw[bR];rcases mem e with⟨h1,_⟩|⟨_,z⟩;.let{w,z}:=I.cell y c h1;show{w,@Tj}
  .show{_,z}
 rw[ğ,(Á,@mw),hL,@df]
 .rw[bR];rcases mem e with⟨h1,_⟩|⟨h1,_⟩;.show I.freeC y c h1
  .show I.hok.fresh (ajl h1)
 rw[Í,@af!,@A]
def aCo[Ŀ]{D:aa}[w]{y:V}[ÿ][ś][bI](hz:@Ym)(r:RelV y v)(h:(hi,(ï,(û,D,@ZL),s'),@Ť)):(hB,(zj,[@cz,v])):=by calc E3 (bc,D,hD) (λj9 aG n ri e=>?_);let hl:=ri.length;calc append_at (hsz:=@iF) e λh' sb j=>?_;calc h @fr (I.write (t':=@Ĝ) (yg,hD) @ì (λb u hb q=>(p0,q)) {_,j} (mr @acs (aG++[v]) @pg (ri.append (cf,r)) ?_));rw[j];simp
def  Lu[l](N:@Ġ)(t:TT):@v:=(Eb,(E8,if r=@o then do
 let ok<-T6 c X.env (de c X.env);
 pure (ajm ok)else@aj1))
def  ni:TT:=(fS,@o)
def iH:Lu X [] ni:=λ_ _ _ H _ I h=>wpAny_tests_nil (ab H I h)
def Ig{c:cq}{t:TT}(h:PT X c t):Lu X [c] t:=λpins s σ H Q I hw=>wpAny_tests_one @L6
universe z
def Ih[t][et][bf](h:bn M A t Q @f1 s)(hQ:@ap?):@anB:=(BZ,h,hQ)
def aCp[ĩ][Ê]{R:@v0}[S]{qN target iter:cq}{N:@Ġ}[ł][Õ]{it acc:ai}[bD](I:(Ķ,Nat))(turn:∀n s,I n s->bn (bV @ţ w) A (B5 it) (λr j=>match r with
 |none=>R (.ok .next) j
 |some v=>(iP,ai7 @ms it v,λ_ G=>(iP,Kh @ms env v,λ_ z=>(iP,(E8,if r=@o then do
  let ok<-T6 c env (de c env);
  pure (ajm ok)else@aj1),λok D=>(V,ok,(iP,(fg,qN),λx U=>(iP,(zj,[acc,x]),λ_ S=>(nA,I m S),U),D),(nA,I m D)),z),G),j)) @auH s)[c](h:I n s):(nZ,.compLoop @ab8 0 it acc env,s):=by
 calc codeAny_loop @d I (λn s B=>?_) n h;rw[c5,A,(compTurn @ab8 0 it acc env).onRaise (λx=>do
  noteFrame x env;
  theTreesLotGoes x)];calc wpAny_noted ?_;rw[compTurn_list];rw[Q,awj (ml,turn n s B,λr j F=>?_)];cases r with|none=>show cO F|some v=>rw[hH,F,λ_ G O=>?_,<-hH,O,λ_ z J=>(ml,J,λok D M=>?_)];cases ok with|false=>show cO (Ì,M)|true=>show bg (ml,M,λx U W=>(ml,W,λ_ S V=>(eU,(Ì,V))))
section
variable{X:Cx}
def  QA(wi:TI)(g:TG)(tt:TT)[Ė](vs:@h):TE:=λσ H Q=>(AW,∀D,@be->(pm,@Oe,Q @cz H,@Od,@Bx/\∀x H',@A4->@auF))
def amQ[Ũ][ü][bZ][aF]{pos vD:dO}[dL]{use:Option (ai->qj Unit)}{Qf:@É}[b0][d][cc][ca](he:@AO)(hs:@yS)(h:(IE,Q))(Sz:∀D C s' m H',@gK->Q @cz H'->s'.heap.Ns C m->(aA,H',C)->awT @ei X.A X.xe use Qf @cz C (.ok .next) s'):(ao,aYo @lW bz @Ĉ vD (newList []) @Å @X9 use,Qf):=by
 rw[nD];calc wpAny_comprehension_free (use:=use) @d hs (aCl Je) ok.kind (λy hy e=>(dB,ok.uniq y hy)) (kN,λxv s1 hx=>bY hx @SN);clear h2;rw[hW,jF λI2 T sO f2 q=>?_];subst e;calc ajn (aCm ?_) (gg,0);generalize hD:s2.heap.objs.size=D;let SA:H2 D=@u:=I2.hok.fresh @SX;rw[x,q D SA,λW aLB turn=>?_];let{m0,U}:=aLB;generalize vC:({s2 with heap:=@akw}:aK)=s3;let I3:(ï,@lw,s3):=by rw[<-vC];calc I2.laid (t':=s2.toks) @kH @SX (mr @ð ([]) 0 @á ?_);rw[<-hD];show@ad
 let h3:s3.heap=@akw:=by rw[<-vC]
 let sz:∀b∈B,b<s2.heap.objs.size:=λb hb=>(hN,(oW,sO),@Tk,@Ľ);let M:∀b∈B,(aA,@lw,b)/\b<@bn:=λb hb=>by let bK:=sz b hb;rw[Á,{?_,@aj8},(Ç,h3,zi,J5 bK)];rw[aF (K,hD,@vf)];show@aj9
 let Sx:G 0 s3.heap:=(z5,sO,(d,h3,@cu));let I4:=aCn I3 ok S M;let pg:=hg s3 @lw @bn @t9 B;let pt:=ht s3 @lw @bn @t9 B;let pe:=he s3 @lw @bn @t9 B;exact B7 _ _ (.compStart @lW 0 @cI @cz @am_) @atO @akj;let nfp:∀b∈B,(ah H2 D @SC) b=@u:=λb hb=>(M b hb).1.1;generalize hce:@am_=ce at I4 pg pt pe⊢;let cL:ce.locals=@bn:=by subst hce;rfl
 generalize hH3:@lw=H3 at I3 I4 pg pt pe U nfp M;generalize vF:(@akj:aK)=s4 at I4⊢;let SD:G 0 s4.heap:=(z5,Sx,(K,vF,ajk _ _ _ _ @cu));let FR:∀{σ':St}{H':Hp}{s':aK},(Mg,σ')->@nS->∀b∈B,on @kp [] H' b:=λ{σ' H' s'}O hn b hb=>im @aj7 ((O.ok.exf b hb).1) (O.ok.exfs b hb) @Qv (λx c e=>(O.ok.exf b hb).2 x c e) (wP,@af!);let aqX:B7 @ei X.A (.compLoop @lW 0 @cI @cz ce) @atO s4:=by
  calc aCp (λn s'=>(B9,W i n H')) ?_ m0 (gN 0 H3 I4 SD nfp U);ext n s5;calc g9 λi H5 I5 Dx n5 w5=>?_;rcases turn i n H5 w5 with⟨stop,qq⟩|⟨go,F,hNx,step⟩
  .let td:=T.done @kp @d @d @d hc i [] s5 _ H5 @f1 I5 @akx Dx stop;calc Ih td λr s6=>Fa λhr I6=>?_;subst hr;let V:(ï,H5,s6):=I3.call' (ch:=B) I6.os I6.base I6.hok I6.bare λb hb=>bU ((M b hb).1.2.2.2.1) ((M b hb).1.2.1) ((M b hb).1.2.2.2.2.1) ((M b hb).1.2.2.2.2.2);let nC:H5 @bn=@u:=by let z:H5 ce.locals=@u:=I6.free;rw[cL]at z;show z
   rw[x,I6.loc,@Sm];let hn:s6.heap.Ns ce.locals m:=hn;rw[cL]at hn;show Sz D @bn s6 m H5 V qq hn (I3.fpOk @Â nC)
  .let ti:=T.item @kp @d @d @d hc i [] s5 _ H5 @f1 I5 @akx Dx go;calc Ih ti λr s6=>bj λu hr h6=>?_;subst hr;calc Ih h6 λ_ s7=>jt λx H7 V r7 y7 st7 n7=>?_;let I7':=V.pinned (FR V n7) (B2,st7);calc Ih (pg _ s7 _ H7 x u _ I7' r7 (step x H7 y7)) λ_ s8=>cw λσ8 H8 I8 hw8 q8=>?_;calc Ih (pt _ s8 σ8 H8 _ I8 q8) λb s9=>bj λH9 I9 q9=>?_;let fin:∀{s':aK}{H':Hp},Inv @kp ([]++Lf B s7.heap) σ8 H' s'->F H'->(nA,(B9,W i m H')):=λ{s' H'}O nx=>by
    rw[x,hNx H' nx,λm' hm w'=>?_];let aqZ:(xf,(X,s7.heap.get? b),@XA/\@ne):=λb hb o e=>let z:=O.pin @qA @zo;{z.1,@Ā};let hl:(s9,@sa)=σ8.length:=(b1,hw8,amP);calc bh m' hm @Q H' ((O.unpinned (pins:=[])).weak hl (λj v e=>?_)) (z4,st7,(aqZ b hb o e).1) {@dp,w'};.rw[<-hw8]at e;show(aa5 e).1
    rw[au,(oW,st7),@Tk,(aqZ b hb o e).2]
   cases b with|false=>simp only[qh,nR]at q9⊢;show fin I9 q9|true=>simp only[ku]at q9⊢;calc Ih (pe _ s9 σ8 H9 _ I9 q9) λz Jk=>Lg λyv MV I10 r10 acc aLH=>Fa λaLI nx=>?_;show aCo (X:=@kp) I10 aLH aLI r10 λuo I11=>fin I11 nx
 show codeAny_compStart_list aqX (T.self X.A 0 _ _ _ SD aqX)
def jh[bZ][aF][Õ][dL][b0][cc][ca][ek]:PE X @lW @as7:=by ext pins s σ H Q I h;rw[eval_ListComp];calc amQ hc S I hi ok hg ht he hs h λD C s' m H' O q hn f=>ab m hn (λV sb=>?_);clear f;calc jg @Bv;show aU @cz H' (O.turned (t':=s'.toks) (λb o hb e=>@ta) f0 f1 M j G) @d q
def A_[e]{y:au}{py:dO}[bZ][aF]{pos n:dO}[dL][b0](hy:(bz,X.N))(dQ:@adJ)(J:Oq @lW (some @Oc) n.line @Ĉ=pure @o)[cc][ca][ek]:PS X (.Assign [@Oc] @lW n) (Qg @as7 @G?):=by
 ext pins s σ H D I h;rw[exec_Assign_Name_used _ _ _ _ J];rw[Q,awj @RL,<-c5,X.A,do
  let _<-aYo (.ListComp qN [⟨tg,iter,N,0⟩] bz pos) bz X.env (firstIterPos [⟨tg,iter,N,0⟩] pos) (newList []) false (de iter X.env) (some (Kh (.Name y py) X.env))];let h:(IE,λx H1=>mw i x σ H1 D.nx):=h;rw[Q,bY (amQ (Qf:=λ_ s'=>(A4,.next)) hc S I hi ok hg ht he hs h λLq C s' m H' O q hn f=>?_) λ_ s' U=>(eU,U),<-ĺ,(s0,@Oc,.ref Lq)];calc aXz (alX (v:=V.ref Lq) O S hy (.inl dQ) @d (λs2 I2=>bj λa sb ha=>?_) (.inr dQ));clear f;calc jg @Bv;let W:C≠a:=by rcases ha with z|z;rw[ú,f1];.show λe=>j y a z @bi
 calc ab m (hn.sameBut sb W) (λh3 F=>?_);show fM _ H' (I2.turned (t':=s2.toks) (λb o hb e=>(F.2 b hb).trans e) f0 f1 M j G) q
universe z
def aa6{lo:Int}[u][ch]{vs:@h}[ſ][O]{j:@ec}[Œ](hs:∀i H,(De,@dj,@aG,@us))(hd:(q',n)):(iG,@A5,@A6,@Bn):=by rw[a!,λi m H=>m=@Ř/\@bS/\@dj,n];ext i m H;rw[Ü,λz hi p=>?_];subst z;by_cases bK:i<n;rw[kI,λH' p'=>@am4,hs i _ bK p,<-mY,@qC]
def QB[Á][Ò][ch]{vs:@h}[ſ][O]{j:@ec}[Œ](hl:@ahB)(hs:∀i x H,@au->@dj->@an5)(hd:@ML):(iG,@uu,@uv,@ux):=by rw[ŏ,@Oi];ext i m H;calc cy λn hi p=>?_;subst n;let q:=@yN;rw[Ō,<-er,@FD,@Hm,hs i x _ @oA p,<-Ő,@Fx,@qC]
def  amR(N:@â)[e1]:@Ù:=(match bz.kind with|.function=>true|_=>false)&&(xx,decide @alG)&&(own.all λp=>decide @aqW)&&(xx,match y.2 with|.free=>(match@G1 with|some .cell=>true|some .free=>true|_=>false)|.local=>@anD|.cell=>@anD|_=>true)
def gG{N:@â}{j bz:lN}{own:@is}(h:amR N j bz own=@o):Ls N j bz own:=by
 delta amR at h;simp only[eZ,j_,cG]at h;let{{{h1,h2},h3},h4}:=h;apply{?_,h2,h3,@gr,@gr}
 .split at h1;.assumption
  .cases h1
 .let q:=h4 y hy;simp only[e]at q;split at q<;>first|rw[ĸ,@bZ]|show .inr @bZ|cases q
 .let q:=h4 y hy;rcases e with e|e<;>(simp only[e,pk,cG]at q;show q)
universe _L
namespace _L
open PySem PySem.Spec PyProof.Rows
section
variable{prog:dz}{w:dc}{A:fG}{R:@v0}{s:aK}{qN t0 i0 t1 i1:cq}{a0n a0o:@Ġ}{bz:lN}{pos:dO}{it acc:ai}{env:lu}
universe z
section
variable{X:Cx}
universe z
universe _L
namespace _L
open PySem PySem.Spec PyProof.Rows
section
variable{κ:@è}[@P0]
def  dv[cq]:@Ñ:=(kvs.find? @B0).map @Ĥ
def  jU[cq](v:V):@ah:=(V,@o3,kvs.map (rj,v),@afk)
def wI{p:κ×V}{r:@ah}{k:κ}(e:p.1=k):dv @s0 k=some p.2:=@WO
def wJ{p:κ×V}{r:@ah}{k:κ}(e:¬p.1=k):dv @s0 k=dv r k:=@WO
def QC(k:κ):(s_,@o3=@qk):=by
 ext z_;cases z_ with
 |nil=>rw[Ø]
 |cons p r M=>
  rw[B3];rw[az];.simp only[wI e,bN e,aYp,aYn]
  rw[Ö,@j_,dE e,avY,M]
def aCq[c3]:(s_,dv @Oj j=(dv kvs j).map λx=>(P,j,k,y,x)):=by
 ext z_;cases z_ with
 |nil=>rw[Ø]
 |cons p r M=>
  let ih:=M;rw[cT];rw[bL,p.1]
  .rw[aj h];rw[fQ];.rw[wI (p:=(p.1,y)) e,wI e,J4,aj (e.symm.trans h)]
   rw[i5,(p.1,y)]
  .rw[ag h];rw[fQ];.rw[wI (p:=p) e,wI e,J4,(ģ,h @Rv)]
   rw[i5,p]
def aCr[c3]:(s_,@pj->dv @afj j=(P,j,k,some y,(aq,j))):=by
 ext z_;cases z_ with
 |nil=>ext _;by_cases e:k=j;rw[ó,@bi,wI (p:=(k,y)) e,<-Â,(ģ,e @mj),wJ (p:=(k,y)) e]
 |cons p r M=>
  ext hn;rw[Oa];let hk:¬p.1=k:=λz=>by rw[wI z]at hn;cases hn
  rw[wJ hk]at hn;rw[ũ,hn,<-fQ];.rw[wI e,wI e,(ģ,hk @Rv)]
  .rw[(@j_),(@j_),ih]
def amT(kvs:@ah)[c3]:dv @LS j=(P,j,k,some y,(aq,j)):=by
 delta jU;by_cases a:@o3=@o
 .rw[aj a,aCq];rw[QC]at a;rw[cj];.let{x,hx}:=aXQ.mp a;rw[(@k6),e,hx,J4,(@Þ)]
  .rw[ag e];induction dv kvs j with|none=>rfl|some x=>rw[J4,ag e]
 .rw[ag a];calc aCr k j y kvs ?_;rw[QC]at a;cases q:dv kvs k with|none=>rfl|some x=>rw[q]at a;show(a @d).elim
def QD[cq](v:V):@OT<=@Ă+1:=by
 delta jU;split;.rw[aw];simp[*]
 .rw[eM,eE,Uh];simp[*]
def QE{kvs:@ah}{k:κ}(v:V)(h:@pj):@ax'=@afk:=by delta jU;rw[QC,h];show@ag
def mq.isSome_eq{o:@Ñ}{u:@ea}(r:mq o u):@mx=u.isSome:=by
 cases o with
 |none=>cases u with|none=>rfl|some _=>rw[ů]
 |some _=>cases u with|none=>rw[ů]|some _=>rfl
def mq.getD{o:@Ñ}{u:@ea}{d:V}{d':ai}(r:mq o u)(j:RelV d d'):RelV (o.getD d) (u.getD d'):=by
 cases o with
 |none=>cases u with|none=>show j|some _=>rw[ů]
 |some _=>cases u with|none=>rw[ů]|some _=>show r
def KV.val[bb]:mq @fy @ax9:=by delta KV at r;cases r with|nil=>show B8|@cons p q ps G h t ih=>rw[bD,<-az,<-h8,q.1=k,@tz,@acZ=some q.2,wI e,h2,<-h8,¬q.1=k,@ax?,@acZ=G7 G k,@j_,ih]
def KV.any[bb]:@o3=@Tm:=by delta KV at r;cases r with|nil=>rfl|cons h t ih=>rw[B3,B3,ih,h.1]
def KV.repl[bb][dv]:KV @Oj (vs.map (rj,u)):=by delta KV at r⊢;cases r with|nil=>rw[ñ]|@cons p q ps G h t ih=>rw[cT,cT];calc .cons ?_ ih;rw[bD,<-az,<-Ê,@k6,aj @tz,⟨h1,B⟩,<-ls,@EK]
def KV.put[bb][dv]:KV @LS (stored vs k u):=by delta jU stored;rw[r.any k];by_cases e:@Tm=@o;rw[Ê,@k6,aj e,@aky,<-Ê,@kv,@kv,(Ly,(Ì,B))]
def KV.length[eg]:@afu:=@RS
universe z
def xQ[æ]{k:a_}[Ð](r:@Yv):(DR,u):=by cases k with|inl i=>rw[ef,@xA];subst e;show aAu P w i t|inr x=>rw[ef,@yf];subst e;show aAv P w x t
def amU[æ]:∀{ks:@ce}{us:@X},(ļ,@auJ)->ItemsAre @dd ks us|[],_,r=>by rw[At]at r;cases r;show@á|k::ks,_,r=>by rw[cT]at r;induction r with|cons h t=>rw[ģ,xQ h,amU t]
abbrev KT[i]:(Å,@ź,@e5):=(w8,@aoO)
def KT.val[dA]:@af4:=@atQ
def KT.repl[dA][dv]:KT H @Oj (xs.map (putAt k u)):=by cases r with|nil=>rw[ñ]|@cons p q ps G h t ih=>rw[cT,cT];calc .cons ?_ ih;clear h;rw[Ü,@oa];delta putAt;rw[az,<-Ê,@k6,aj @tz,aM h1 h2 B,<-ls,@ag5]
def KT.put[dA][ù][aG](hb:@LA)[ä]:KT H @LS @asi:=by let e:@o3=@akz:=(Ô,QC,(r.val k).isSome_eq,Ez);delta jU awU;rw[e];by_cases q:@akz=@o;rw[Ê,aj q,aj q,@aky,<-Ê,ag q,ag q,@aoZ]
def KT.keeps[p][eh](ht:@aqo):KT H' kvs xs:=(zE,@ade)
section
variable{P:dz}{w:dc}{H:Hp}{h:cH}{a:aa}
def amV[Ĕ][á](e:@abI):@ad!:=e.ok ok
def Ii[Ñ][á](e:@K_):@zC:=(Dr,@aq)
def aa7[Ñ][á](e:@iv):@zC:=Ii ok @eI
def Ba{ks:@ce}[á](e:(ak,@DL)):(Es @dd).is h ks a:=by rw[kD,@DL];show(Ic,(fs,amU r))
def Lv[ag][á](e:@abJ):@apl:=by rw[kW,(Dr,@dg)];calc@atS;rw[oc,@ź,@e5,KT H l m,(Es @dd).is h x.1 @Œ,Ba ok @ama];show@ap9
def QF[ag][á](e:@wd):@apl:=Lv ok @eI
universe z
def  wK[a7](y:V)(r:@Ñ):@v:=(EO,@K_/\y=@cG/\r=@fy,@abJ,@LA/\r=@fy)
def  Lw[a7](y v:V)(H':Hp):@v:=(EO,@iv/\y=@cG/\@Jp/\H'=@ab1,@wd,@LA/\@Ă<bq/\H'=ah H a (pM,k,v))
def wK.k[a9][Ñ]{k:a_}(e:@iv):wK H a @cG @fy:=.inl (aU kvs k @eI @d @d)
def Lw.k[a9][Ñ]{k:a_}{v:V}(e:@iv)(hl:@Jp):Lw H a @cG v @ab1:=.inl (gN kvs k e @d hl @d)
section
variable{X:Cx}{pins:@Ç}{σ:St}{H:Hp}{s:aK}{a:aa}{y v:V}{u r:ai}{o:@Ñ}{A:fG}{E:@É}
def Inv.big[d]:(br,qi):=by let h:(br,ke):=(I.mod.glob.keeps I.bk).lt;show TJ @Ó h
def aCs[dI](g:wK H a y @a5)[ä](h:@aqp):(yH,u):=by
 rcases g with⟨kvs,k,e,n,l⟩|⟨kvs,k,b,e,n,S,l⟩;.subst n;calc@ayr;rw[is,@alL];show aYq @gu dd.mapOf hw @OQ
 .subst n;cases(show u=dk b from B);calc@ayq;rw[o8,@alL,@vj,@xB]
def aCt[dI](g:@ME)[ä](h:(og,@mx)):(aM,px .In u @Î):=(If,aYs @gu hd dd.mapOf ?_,wpAny_in_heap @vj @xB hd dd ?_)
def aCu[dI](g:@ME)[ä](h:(og,!@mx)):(Av,u):=(If,aYt @gu hd dd.mapOf ?_,aYu @vj @xB hd dd ?_)
def Lx{h':cH}[Ľ]{ob:HO}[d](j:A0 (H a))(hs:@aeZ)(he:@ajk)(new:(ci,@ab0,h',a,ob)):(mK,@ab0):=I.write (x:=a) (e:=a) j @ì (λb q hb z=>(hs.2 b hb).trans z) he new
def amW[æ]{H':Hp}{h':cH}[Ñ]{vs:@pT}(z:@Ă<=bq)(hd:@BJ)(rel:@bQ)(dd:h'.DictOf @dd a vs):(AS,@aq):=n0 z hd vs rel dd
def aCv{H':Hp}[ab][ef](g:Lw H a y v H')[ä](rv:@aer)(h:(hi,@gK,())):(Da,u):=by
 rcases g with⟨kvs,k,e,n,l,D⟩|⟨kvs,k,b,e,n,S,l,D⟩;.subst n D;calc kO (aa7 @Ŕ e) @st;rw[dh,<-ns];calc wpAny_setItem_pairs (hsz:=hz) @gu dd @aw8;let he:@ajk:=let⟨q,_,_,U,_⟩:=j;⟨q,U⟩;show Lx I @Ew hs he (amW hl hd (rel.put k rv) j)
 .subst n D;cases(show u=dk b from B);rw[kj,e,<-kT,<-ns];calc(Fj,@vj,@xB);clear j;calc dF @To;calc(EE,hl,(rel.put k S rv).keeps @Tp);rw[aF (r_,e)];show ec
universe z
section
variable{X:Cx}{pins:@Ç}{σ:St}{H:Hp}{s:aK}{a:aa}{kvs:@ÿ}{k:a_}{u:ai}{A:fG}{E:@É}
def aCw[ś](e:@K_)(h:∀t s',@sA->Q (eg,@Ă) s'):(aM,(qP,"len",@ch)):=by calc kO @Ds @st;calc call_len_dict hd dd (by rw[<-rel.length];rw[Ot]at z;omega) ?_;rw[<-rel.length];show h _ _ @fm
universe z
def  QG(i:cq):@v:=∀z F,(mr,i,z,F)=awJ [z,F] (Kl z F)
def aa8[ĩ][b2][bD]{value slice:cq}[Õ]{T id:String}[I](hl:@aki=pure @PI)(hs:QG @ff)(h:(jo,(fg,@b'),λo j=>bn @hg A (fg,@ff) (λi z=>z.TypeIs o T/\(uF,Kl o i,z)) E j)):(Ă,(fg,(eZ,@b',@ff))):=by calc ajf (ig,h,λo j F=>(ig,F,λi z J=>?_));let{hT,J}:=J;delta awE;rw[Þ];rw[getitemInPython_of_ne hT.not_modules];rw[el,hl];let fin:bn @hg A (mr,@ff,o,i) (λr D=>(uF,letTemporaryGo @b' o r>>=λ_=>pure r,D)) E z:=(d,hs o i,wpAny_operating (ig,J,λr D M=>bg (wpAny_letTemporaryGo (cO M))));first|show cO @GQ|show bg (cO @GQ)|show@GQ
def aCx[ý][Í][X]{y:V}{o:@Ñ}[d](g:@ME):@af1:=by
 rcases g with⟨kvs,k,e,_,_⟩|⟨kvs,k,b,e,_,_,_⟩;.apply kO @Ds (λ_ _ vs _ dd=>?_);show dd.typeIs
 .apply kO @av! @Tq;show dd.typeIs
def  aCy(td ty:TE):TE:=(B0,∃a v,(fa,wK H2 a y @a5,@tW))
def  aCz(ty td:TE):TE:=(EC,Q (.bl @mx) H2)
def  aCA(ty td:TE):TE:=(EC,Q (hK,@mx) H2)
def  aCB(td ty tv:TE):TS:=(ED,∃a H4,(fa,Lw H3 a y v H4,(c2,H4)))
section
variable{X:Cx}{o i e value:cq}{pos vD Ae:dO}{td ty tv:TE}
def xR[bJ][aK](hs:QG i):(AE,aCy td ty):=(r3,(Ev,λy H2 I2 B a v=>@ayP),{aCx I2 g,aCs hu I2 g B λw' s3 I3 D=>aU v H2 I3 D q2})
def aCC[bJ][cn]:PC X .In i o (aCz ty td):=(D4,aCt hu I2 g B (Fe,.bl z.isSome))
def Ly[bJ][cn]:(AM,aCA ty td):=(D4,aCu hu I2 g B (Fe,(hK,z.isSome)))
def Fc[bJ][aK](hv:@y7)(hs:@ahr):(AN,aCB td ty tv):=by ext pins s σ H D I h;calc(IG,λy H3 I3 B a H4=>cy λex g q3=>?_);subst ex;rw[Ĝ];show aCv hu I3 g B rv (B',H4)
universe z
def aCD[æ][a][cE]:(oh,@ev):=n0 @ð @ayt ([]) @á (a2I h)
def aCE[æ][a][cE]:(oh,@dr):=@atM
def  aCF:TE:=λ_ H Q=>(lN,@ev)
section
variable{X:Cx}{pos:dO}
def Lz:PE X (.Dict [] [] pos) aCF:=λpins s σ H Q I h=>wpAny_Dict_empty (ca,@Ū,I.laid (a:=@Ò) (o:=@ev) (t':=@Ĝ) @ve @Â (aCD @ä I.big),h _ @df)
universe z
structure M2[l](o:cq)(m:au)(apos:dO)(e f:cq)(o8:dO):@v where
 base:(ri,m)
 few:(IB,@Ya,([e,f]:@Ġ).length)
 line:@Mw
 trees:mP o8 @Ya=(C!,@he,(ah,f))
section
variable{X:Cx}{pins:@Ç}{σ:St}{H:Hp}{s:aK}{a:aa}{y d:V}{u r:ai}{o:@Ñ}{A:fG}{E:@É}
universe z
section
variable{X:Cx}{o e f:cq}{apos o8:dO}{td ty tx:TE}
universe z
section
variable{X:Cx}{pins:@Ç}{σ:St}{H:Hp}{s:aK}{a:aa}{kvs:@ÿ}{A:fG}{E:@É}
universe z
section
variable{X:Cx}{pins:@Ç}{σ:St}{H:Hp}{s:aK}{a:aa}{y:V}{u:ai}{A:fG}{E:@É}
universe z
universe _L
namespace _L
open PySem PySem.Spec PyProof.Rows
section
variable{prog:dz}{w:dc}{A:fG}{E:@É}
universe z
section
variable{X:Cx}
universe z
universe _L
namespace _L
open PySem PySem.Spec PyProof.Rows
def amX:Ke "reversed"=some (.type "reversed"):=@ø
section
variable{X:Cx}{pins:@Ç}{σ:St}{H:Hp}{s:aK}{h':cH}
def Inv.turnedL[Ľ][aW](k:@anN)(hf:@Sn):@IX:=by rw[ol];calc I.step (g':=@mq) (d':=@ra) (ch:=ch) @att @Su @ahx @Sv @af8 @Sw @R_ @ajZ @h? @GY @b_;rw[om,<-o7]
def Inv.turnedNew[Ľ]{ch:@Ë}{T:aa}{ob:HO}[d](k:@anN)(hf:@Sn)(hT:@Ò<=T)(new:(ci,@acx,h',T,ob)):(mK,@acx):=by
 let hn:@io:=I.hok.fresh hT;rw[ol];calc I.step (g':=@mq) (d':=@ra) (ch:=ch) @att @Su @ahx (λb o _ e n=>?_) @af8 @Sp (λb o u e=>?_) (λb ps e=>(À,#[])) @h? @GY @b_;rw[å,(pU,hT),n,<-Â,(dE,hn),e,<-Â,(dE,hn),e];.rw[(dE,hn),e];simp
 rw[om];.rw[bP,T,<-lE];.rw[(@ak)]at e;calc(vN,@Sc,@Se);rcases hc with z|z;rw[ú,j b u e];.show j c _ z
def Inv.lock{d:aa}[ds](h:@oq)(j:@tw):∃od,(ï,@wV,s):=by
 let x:=I.hok d u h;let ex:∃od,@zj:=by cases u with|lst xs=>rw[ï,@R8,@vV]|dK kvs=>rw[fG]|dT kvs=>rw[fG]|dN kvs=>rw[fG]|set S n=>rw[ï,@R9,⟨o,e⟩]|ins C dx fs=>rw[ï,@ajt,@vV]|ext φ=>rw[iV,λ_ B _=>?_,B,@vV]|_=>show oI j
 let{od,e}:=ex;let new:(ci,@wV,@ä,d,@ng):=by rw[Á,e,x.stay @Tr @Ho λb xs q=>?_,<-n3,<-n3]
 show{od,I.write (x:=d) (e:=d) (t':=@Ĝ) (h':=@ä) (d,h,j) @ì @Tr ⟨od,e⟩ new}
def Inv.nofrz{d:aa}[ds](h:@oq)(j:@tw):@aqq:=λo' F e=>by let q:=I.base.frzs d o' F e;rw[h]at q;cases q;show j
def Inv.unlock{d:aa}[ń][ds](h:(al,@ng))(hn:@aqq):(ï,(cb,u),s):=by
 let j:∀b o,@co->(∀o' F,o≠@ayQ)->b≠d:=λb o e aQ z=>by rw[z,h]at e;cases e;show aQ _ _ @d
 let neN:(mo,b≠d):=λb e z=>(CB,h);calc(ov,(v9,@So,@Sp,λb o x e=>?_,@Sq),?_,@vg,@Ŝ,@Sl);rw[å,neN b @qW,@qW];.let q:=@aoj;rw[aF (qC,b)];show q
 .let q:=(zY,x);rw[aF (λz=>by rw[z]at e;show hn _ _ e)];show q
 .let{m,q}:=(vk,e);show{m,(C,(qC,b),q)}
 rw[å,neN _ @bl,@bl,<-å,neN c @iS,@iS];.apply f7 @avQ (λe n r=>?_);show aM e (C,neN _ n,n) r
 .rw[bP,d];.rw[hb,aq]at e;cases e;rw[hb];let{_,x}:=@zl;show x.stay @Sb @Sd @Sf
  .rw[(@ak)]at e;show(q7,o,@Sb,@Sd,@Sf)
universe z
def  aCG(t:TS):TS:=λD σ H=>(G3,t {(s1,D.nx σ' @l5),(xy,D.rt v @l5),(s1,D.bk σ' @l5),(s1,D.ct σ' @l5)} σ @wV)
def  aCH(t:TE):TE:=λσ H Q=>(G3,t σ @wV (xy,Q v @l5))
section
variable{X:Cx}
def aCI{st:bi}{t:TS}(h:@Ni):PS X st (aCG t):=by ext pins s σ H D I hw;clear hw;rw[ë,@Ts,<-jM];calc(vl,@asF);cases f with|next=>rw[dL]|brk=>rw[dL]|cont=>rw[dL]|ret v=>clear q;calc dF λx σ' H' I2 r e q=>?_;show zq x σ' _ @av7 r q
def amY[ĕ]{t:TE}(h:@JX):(bW,aCH t):=by ext pins s σ H Q I hw;clear hw;calc cw @Ts;rw[jM];calc(ex,@asF,g9 λx H1 I2 r e2 q=>?_);show aU x _ (Kd,e2) r q
def LA{tg:cq}[Í]{R:@pk}{J:It}{G:@Ly}{tk:Nat}[d](o:bS)(T:(Ij,@Pk,@Ò))(st:G 0 (s.heap.push o))(q:R J H):PIE X @Æ σ tg R @Ū (ru,o,tk):=by calc(ŉ,@Ò,@Pk,G,J,H,dI (I.kept λb ob e=>@cu) T st @dp q);rw[ŉ,@Ò];subst e;show@akA
universe z
section
variable{X:Cx}{tg:cq}
universe z
def  xS[Š][c]:It:={λi H=>i<n/\(xz,@ŉ/\@ae2),(J6,∀xs,@ŉ->@ae2),@RB}
def aCJ[cZ][c]:(fL,xS K a n,@bS/\h.IsRevIter it a (@f6-@nD))where
 mem:=@A
 obj:=λi h st b hb=>by rw[ŉ,it];subst e;clear st;calc aa9 λ_ o e c d=>?_;show@awf
 keep:=λi h h' st k=>{st.1,st.2.at @ayR}
 item:=by ext X B hw J hc i pins s σ H E I hf st hg;subst B hw J;clear hg;calc EZ λdM xs x U hx=>?_;rw[aW,<-aY];calc@aV;let{_,hit}:=st;rw[k5,(o,@Û-i)];rw[e1]at hit;calc wpAny_pyNext_rev_item hit @fe (x:=u) @pe @vi;rw[È,(o,@Û-i)-1,@f6-(o,@Q),@e];rw[e2]at st';rw[fy,<-Ÿ,@sN];show(Ib,⟨dM,st'⟩)
 done:=by ext X B hw J hc i pins s σ H E I hf st hg;subst B hw J;calc@aV;let{dM,hit}:=st;let Br:n<=i:=hg;rw[k5,-1];rw[e1]at hit;show wpAny_pyNext_rev_end @ł hit @l8
 self:=λA i s Q E st h=>awW st.2 h
def  aCK[c1]:TI:=(i7,∃(a:aa)(xs:@P),(Dj,xS K a @Ï))
section
variable{X:Cx}{tg:cq}
def aa_[ĕ][b7](hg:@Zr)(hm:@abZ)[en]:(t4,"reversed",[e],aCK X.K ta):=by ext pins s σ H R I h;calc(i8,amX,hs,@d);clear q1;rw[ë,λa xs e U q=>?_];subst e;induction G with|cons r D=>cases D;cases r;rw[f6];let hl:=rv.length;rw[É,@EY,@Dd-(o,0),@axz];calc(xA,awW (l:=a) (i:=@EY) @gg ?_);calc(rk,aCJ a _ @Ï,(À,@ð));rw[<-e1];show@gg
universe z
def  LB[M]:It:={λi _=>i<@c4,λi H v H'=>H'=H/\∃c,(H,x.cps,c)/\v=@GU,λi _=>@c4<=i}
def amZ[b4][aa][c5](ty:String)(n:ty="str_ascii_iterator"\/ty="str_iterator"):(fL,@Tt,@as8)where
 mem:=@A
 obj:=@zX
 keep:=λi h h' st k=>let⟨o,N,r⟩:=st;(ab o (k it @A o N) r)
 item:=by
  ext X B hw J hc i pins s σ H E I hf st hg;subst B hw J;calc@aV;let W:Walks @Ğ X.w X.A it [it] [it] @c4 (SignAt x) (λi h=>@as8):=by rcases n with e|e;rw[Ē,Walks.strAscii @ł it x t,<-Ē,Walks.strWide @ł it x t]
  let db:(A,(o',ty)):=by
   rcases n with e|e;.rw[e];decide
   .rw[e];decide
  calc@atr;clear hv;calc fb λc u F D=>?_;subst D;rw[pw,<-Ÿ,λoi e cc dd=>?_];show(R,E4 (s:=@kg) e cc dd db (qf,@GU,(ć,u),fH @d c F @d,st'))
 done:=by
  ext X B hw J hc i pins s σ H E I hf st hg;subst B hw J;calc@aV;let hx:x.cps[i]?=@u:=aYy hg;rcases n with e|e;.rw[bS];show wpAny_pyNext_ascii_end @ł st hx @l8
  .rw[bS];show wpAny_pyNext_wide_end @ł st hx @l8
 self:=λA i s Q E st h=>by
  rcases n with e|e;.rw[bS];show wpAny_pyIter_striter_ascii st h
  .rw[bS];show wpAny_pyIter_striter_wide st h
def  aCL[Ė]:TI:=λσ H R=>(gT,λv H1=>∃x,v=@aT/\R @Tt H1)
def aCM[ý]{tg e:cq}[Ž][È]:PI X tg e (aCL te):=by
 ext pins s σ H R I h;calc(tR,Lg λy H1 O G x ex q=>?_);subst ex;let{t,rfl}:=G;cases ha:x.cps.all (λx_=>x_<128);.show wpAny_pyIter_wide ha (Hs,"str_iterator",@bN)
 .show wpAny_pyIter_ascii ha (Hs,"str_ascii_iterator",@ì)
section
variable{prog:dz}{w:dc}{A:fG}{E:@É}{s:aK}
def aba{d:aa}[bg][I](hd:@aa')(N:(dP,d))[er](hQ:Q @Ū (mp,(jt,"dict_keyiterator",#[@Ş,@at?,.int @d' 0,.int ep 0]))):(Ă,T7 @Ş):=by let hT:s.TypeIs @Ş "dict":=(hX,hc.1);calc aYz hT aYA (Kc aYA hT F.entry_dict_iter ?_ (F.args_dict_iter_1 _));delta Builtin.«dict.__iter__»;rw[Þ];delta a2J;rw[Q,wpAny_notOrdered_dict hT ?_,<-ţ,pure @sM];calc@aK;rw[ŋ,aYB d];delta aYB;rw[ag (ir,hd)];rw[Ĩ,<-Q,ajp N j ?_];calc bg (awX N j ?_);rw[Q,ajn (GT,@Zt,?_)];simpa[GR]using hQ
def am0[ey][ń]{es:@cU}{W:uO}{Q:@XR}[eV][eP](hx:@agp)(hQ:(B3,(Fl,n,ep),it,some W.key,@fr)):@Z8:=by rw[kk];delta B5;calc bg @as_;rw[Ĩ,<-Þ,<-Þ,<-cX,<-Q,@aqr,<-l9];simp only[J,qh,nR];rw[mO,<-mG,<-Ĩ,<-lr];rw[ag (Ė,hsz)];rw[Ĩ,<-mH,<-b7];calc@aK;let{j,MW}:=Array.getElem?_eq_some_iff.mp hx;simp only[show¬((i:Int)<0)from by simp[*],nR,aje,Array.getElem?_eq_getElem j];rw[Þ,<-cX,<-Q,aYH @my ?_,<-ŋ,setField @cI 1 (GR @vI),<-nV];let D:(s.heap.update it @Tv).IsKeyIter it d @Q n ep:=(bC _ (Ui _ N (Obj.isFreed_of_fields (aYK hd _))) ((Obj.cls_mapFields ..).trans hc) (by rw[aYK hd];simp[GR]));rw[aK,?_,<-Q,aYH (s:={s with heap:=s.heap.update it @Tv}) D.typeIs ?_,<-ĺ,pure es[i].key];rw[MW];show(eU,(R,cO (hQ _ D (Um ..))))
def abb[ey][ń]{es:@cU}{Q:@XR}[Ń][eV][eP](Br:n<=i)(hQ:∀h',Heap.ExtBut it @ä h'->Q @u @fr):@Z8:=by rw[kk];delta B5;rw[Q,@as_,<-Ĩ,<-Þ,<-Þ,<-cX,<-Q,@aqr,<-l9];simp only[J,qh,nR];rw[mO,<-mG,<-Ĩ,<-lr];rw[ag (Ė,hsz)];rw[Ĩ,<-mH,<-b7];calc@aK;let j:@d'<=i:=(d,hsz,Br);simp only[show¬((i:Int)<0)from by simp[*],nR,aje,aYy j];rw[Þ,<-cX,<-ŋ,setField @cI 0 @Ť,<-nV];exact bn _ _ (newExc (.type "StopIteration") []>>=_) _ _ _;rw[Þ];simp only[newExc,newTuple];rw[Q,@akv];calc bg (m:=aYL _ _) (aYM (a:=AF) (by first|rfl|simp only[aYL];rfl) ?_);calc@akv;simp only[raiseNew];rw[Q,wpAny_handled ?_];rw[show A.in1.handled=@u from hh];rw[Q,cO (wpAny_throw ?_),<-ka,"StopIteration",@Zt,isSubtype_stop];show cO (hQ _ (((Um ..).extBut.push _).push _))
universe z
def aCN{κ:@è}[d6](h:@bQ):∀{i:Nat}{k:κ}{v:V},(Dl,∃u,(H,vs,(k,u))/\@ż):=by delta KV at h;cases h with|nil=>ext i k v e;simp at e|@cons a b n l₂ r t ih=>ext i k v e;cases i with|zero=>simp only[awZ,aYN]at e;subst e;calc ab b.2 ?_ r.2;simp only[awZ];show(fN,aiA r.1.symm @d)|succ j=>simp only[aiL]at e⊢;show@u!
def aCO[dO]{G:@alP}{n:@ß}{l₂:@uD}(h:(vi,G)):∀{i:Nat}{a:α},(H,n,a)->∃b,(H,l₂,b)/\G a b:=by cases h with|nil=>ext i a e;simp at e|@cons a b n l₂ r t ih=>ext i J e;cases i with|zero=>simp only[awZ,aYN]at e;subst e;show(Ñ,b,r)|succ j=>simp only[aiL]at e⊢;show@u!
def am1{k:a_}[Ð](h:(nu,u)):@Yv:=by
 rcases zH h with⟨i,t,rfl,rfl⟩|⟨x,t,rfl,rfl⟩;.show@on
 .show@on
section
variable{X:Cx}{pins:@Ç}{σ:St}{H:Hp}{s:aK}{d:aa}{o:bS}
def Inv.frzK[Ñ][d](h:@acA):(H8,∃(es:@cU)(ep:Nat)(vs:@pT),@a1=@m3/\@ayF/\@bQ/\(Fm,d)):=by calc aCP @zl (λhd z hs vs D o'=>g9 λes ep N hx n r=>?_);rw[bK];cases N;calc am2 hs hd hx es ep vs (aCQ n ?_ D o es hd (aM hx n r));let l1:=r.2.1.length;let l2:@afu:=@RT;rw[AI]at l1;simp[*]
def Inv.frzT[ag][d](h:(fx,@dg)):(H8,∃(es:@cU)(ep:Nat),@a1=@m3/\@d'=@Ă/\∀(i:Nat)(k:@ce)(v:V),(Dl,∃(W:uO)(q:aa),(CL,@agp,W.key))):=by
 calc aCP @zl (λhd z hs xs j o'=>jt λes ep N hx n he _=>?_);rw[bK];cases N;calc aCQ hs hd hx es ep n {?_,λi k v e=>?_};.let l1:(dj,@d'):=size_of_entries he;let l2:(dj,@Ă):=Paired.length j;simp[*]
 .apply O6 (aCO j e) (λb hb e1 e2 _=>?_);let q:=entry_at he i;rw[hb]at q;show aU _ b.2.1 q @d e2
universe z
def  xT(d:aa)(o:bS)[bA]:It:=(ny,(fx,@aq)/\@XO,∃k v,(H,kvs,(k,v))/\x=@cG,(fx,@aq)/\@wi)
def  am3(d:aa)(o:bS)(kvs:@ź):It:=(ny,(fx,@dg)/\@XO,∃(k:@ce)(v:V)(q:aa),(CL,@al0,x),(fx,@dg)/\@wi)
def QH[ú]{es Ac:@cU}{ep Ad:Nat}(h:@dU)(h':@a1=.dict Ac Ad):Ac=es/\Ad=ep:=by rw[h]at h';cases h';show@Ű
section
variable{P:dz}{w:dc}{K:aZ}{tg:cq}{d:aa}{o:bS}{es:@cU}{ep:Nat}
def aCR[Ñ][aa](jx:@dU):(F!,@aqs)where
 mem:=@A
 obj:=@arF
 keep:=@aol
 item:=by ext X B hw J hc i pins s σ H E I hf st hg;subst B hw J;rw[em];calc@aV;calc@akC;rw[eB,<-mf,<-x,aCN D N,@nr];let hl:@Ă=@bm:=@RT;rw[hl]at st;calc wpAny_pyNext_dict_item st hm hu λkey h' BC st' sb=>?_;rw[bf,(rM,@ta),<-Ÿ,@DT];calc(Ñ,key,(l5,dd,@cG,am1 (show(nu,key)from BC),mr @d k v N @d,?_));exact(Fl,@Ă,_);rw[hl];show st'
 done:=(IK,@akC)
 self:=λA i s Q E st h=>aYO st h
def aCS[ag][aa](jx:@dU):(F!,@aqt)where
 mem:=@A
 obj:=@arF
 keep:=@aol
 item:=by ext X B hw J hc i pins s σ H E I hf st hg;subst B hw J;rw[em];calc@aV;calc@akD;rw[eB,<-mf];calc lT (mY i k v N) (λW q MW BC U=>?_);calc am0 st xa n hsz MW @vi;rw[bf,(rM,@ta),<-Ÿ,@DT];show(Ñ,W.key,(l5,dd,@ĥ,BC,QI @d k v q N @d U,st'))
 done:=(IK,@akD)
 self:=λA i s Q E st h=>by calc aYz st.typeIs aYP (Kc aYP st.typeIs F.entry_dict_keyiterator_iter ?_ (F.args_dict_keyiterator_iter_1 _));rw[ţ,ret @cI];show(GT,st.typeIs,h)
universe z
def  aCT(td:TE):TI:=λσ H R=>(vI,∃d o,x=@Ş/\(A_,(F0,@aq,@aqs),(F0,@dg,@aqt)))
section
variable{X:Cx}{tg e:cq}{td:TE}{apos o8:dO}
def abc(he:(bW,td)):PI X tg e (aCT td):=by ext pins s σ H R I h;calc(rc,λx H1 O J d o=>Fa λex q=>?_);subst ex;obtain rfl:u=@sM:=J;rcases q with⟨kvs,hd,q⟩|⟨kvs,hd,q⟩;rw[pg,am4 (O.frzK hd) (λhs xa hx es ep vs=>@ayV),aCR _ n,<-pg,am5 (O.frzT hd) (λhs xa hx es ep n=>@ayL),aCS _ n]
universe z
def  CS[Š]:It:=(zc,(xz,@acd),∃T x,v=@tu/\@io/\H'=@acy/\@Np,∃xs:@P,@acf)
def aCU[é][aD]{Ae:dO}(a e it:aa):xL P w K @FA @akE [e,it] e (λi h=>(∃old,IsEnum h e it (o,i) old)/\(uM,it)/\e≠it)where
 mem:=@A
 obj:=λi h st b hb=>by clear st;rw[Ü,λaLT aLU _=>?_];let{old,he}:=aLT;let{o,N,hc,hd}:=aLU;rw[lC];rcases F with z|z;rw[ú,(mF,he),<-ú,(hX,(s',hd))]
 keep:=λi h h' st k=>let⟨⟨old,he⟩,hi,aQ⟩:=st;(aM {old,(iR,e,he)} (hi.at (vj,it)) aQ)
 item:=by
  ext X B hw J hc i pins s σ H E I hf st hg;subst B hw J;clear st;calc cy λaLV hit aQ=>?_;let{old,he}:=aLV;clear hg;rw[fI,<-aW,<-aY];let Jn:(br,e):=fL he;let wY:(br,it):=by clear hit;rw[E,λ_ q _=>?_];show fL q
  calc wpAny_pyNext_enum_item he hit @fe (x:=u) @pe aQ λh' N D hT hsz hk=>?_;rw[Å,wpAny_letOwnedTupleGo_enum (s:=(gs,@rM)) N λV Bq sb=>?_,<-nH,(hI,i),u,Jn,<-od,@adO,@C5,[(hI,i),u],@c?,W];let O:(ï,@adO,{s with heap:=V,toks:=@rM}):=I.turnedNew (ch:=[e,it]) (λb ob hb q=>(sb.2 b @NU).trans (hk b ob @NU @NU q)) hf @Â new;calc c_ @Ū _ O @d (ű,_,x,@df,@d,(rv,@ayS)) (aM (À,u) (D.at λo q=>(sb.2 it (tD aQ)).trans q) aQ) @dp;.rw[É,@sT,@vI,@C];rw[e1];show Bq
  .let ip:b<@Ò:=by rw[lC];rcases F with z|z;rw[ú,Jn,<-ú,wY]
   rw[aF (jD ip)];show@aui
 done:=by ext X B hw J hc i pins s σ H E I hf st hg;subst B hw J;clear st;rw[Ü,λn hit aQ=>?_];let{old,he}:=n;clear hg;rw[ff,<-aW];calc@aV;let hl:=rv.length;show wpAny_pyNext_enum_end @ł he hit @fe @cX (pL,(pr,λb o hb q=>S b o hb q))
 self:=λA i s Q E st h=>let⟨⟨_,he⟩,_⟩:=st;aYQ he h
def  aCV[c1]:TI:=(i7,∃a xs,(Dj,@akE))
def tT[ý][ĕ][eG][aD](hg:Gl X "enumerate")(hm:(fl,"enumerate"))[en]:(C9,"enumerate",[e],aCV X.K ta):=by ext pins s σ H R I h;calc(i8,boot_enumerate,hs,@d);clear q1;rw[ë,λa xs ex U q=>?_];subst ex;induction G with|cons r D=>cases D;cases r;rw[f6];calc call_enumerate_list @i? λh' he hit hsz hk=>aYQ he ?_;let I2:(ï,H1,@Tw):=(rw,hk);calc(ŉ,@lj,[@lj,@Ļ],_,_,H1,dI I2 (aCU a @lj @Ļ) (aM {@Ť,he} hit (aWP _)) @dp q);let F:b=@lj\/b=@Ļ:=@mX;rw[hT,b,by rcases F with z|z;rw[aP,<-ú,@Â]];show@aj5
def aCW:Ke "zip"=some (.type "zip"):=@ø
def  tU[b](a b:aa):It:=(zc,∃(xs ys:@P)(x y:V),@ŉ/\@t1/\@au/\@wU,∃T x y,v=@tu/\@io/\H'=@Lz/\@Np/\∀ys,@t1->@wU,∃xs ys:@P,@ŉ/\@t1/\(@Es\/@aD<=i))
def aCX[é][aD]{Ae:dO}{a b z TI TO i1 S:aa}(D:ZipApart z TI TO i1 S a b):xL P w K @FA @aqu @Bh z (λi h=>IsZip h z TI TO @Ť/\IsPair h TI (.ref i1) @ib/\(∃x y,IsPair h TO x y)/\(uM,i1)/\h.IsListIter S b i)where
 mem:=@A
 obj:=λi h st c hc=>by
  clear st;calc jF λhz n aLX aLY aLZ=>?_;let{x,y,M}:=aLX;let{o1,e1,_,d1}:=aLY;let{o2,e2,_,d2}:=aLZ;let F:c=z\/c=TI\/c=TO\/c=i1\/c=S:=by simpa using hc
  rcases F with q|q|q|q|q;rw[û,(mF,hz),<-û,(mF,n),<-û,(mF,M),<-û,ab o1 e1 (s',d1),<-û,ab o2 e2 (s',d2)]
 keep:=λi h h' st k=>by clear st;calc jF λhz n aL0 h1 h2=>?_;let{x,y,M}:=aL0;show dI (iR,z,hz) (iR,TI,n) (wk x y (iR,TO,M)) (h1.at (vj,i1)) (h2.at (vj,S))
 item:=by
  ext X B hw J hc i pins s σ H E I hf st hg;subst B hw J;clear st;calc jF λhz n aL1 h1 h2=>?_;let{G,y0,M}:=aL1;clear hg;calc i8 λxs ys x y Jo Jp=>Fa λhx hy=>?_;rw[kg,<-é,Jp,@Hq,<-aY,<-x,SE.get hy,@Te];let jy:(br,z):=fL hz;calc wpAny_pyNext_zip_item D hz n M h1 h2 @fe p2.isList (x:=u) (y:=u2) @pe (by simpa using ny) λh' z' TO' nv kX hT hsz hk=>?_;rw[Å,wpAny_letOwnedTupleGo_zip (s:=@fr) z' λV z'' sb=>?_,<-nH,u,u2,jy,<-od,@adN,@CH,[u,u2],W,U];let O:(mH,@adN,V):=I.turnedNew (t':=@Ĝ) (ch:=@Bh) (λc o hb q=>(sb.2 c @nz).trans @atP) hf @Â new;calc c_ @Ū _ O @d (Ã,_,x,y,@df,@d,{λl hl=>(hl,(xg,Jo)),λl hl=>(d,(xg,Jp),hy)}) (dI z'' ?_ (wk u u2 ?_) ?_ ?_) @Tx;.show(kV,D.TIz,hk _ _ D.TIz D.TITO D.TIi1 D.TIi2 n)
  .show(kV,D.TOz,TO')
  .show nv.at (BT,D.i1z)
  .show kX.at (BT,D.i2z)
  .let bK:@Kr:=by
    let F:c=z\/c=TI\/c=TO\/c=i1\/c=S:=by simpa using DE
    rcases F with q|q|q|q|q;rw[û,jy,<-û,fL n,<-û,fL M];.rw[q];clear h1;rw[E,λ_ e1 _=>?_];show fL e1
    .rw[q];clear h2;rw[E,λ_ e2 _=>?_];show fL e2
   rw[aF @vf];show(hf c DE).1
 done:=by
  ext X B hw J hc i pins s σ H E I hf st hg;subst B hw J;clear st;calc jF λhz n aL4 h1 h2=>?_;let{G,y0,M}:=aL4;clear hg;rw[ë,λxs ys Jo Jp N=>?_,<-kg,<-é,Jp,@Hq];let l1:=rv.length;let l2:=SE.length;let he:(@ò)[i]?=@u\/(@g2)[i]?=@u:=by
   rcases N with q|q;.show .inl @cX
   rw[Ç,@cX]
  show wpAny_pyNext_zip_end @ł D hz n M h1 h2 @fe p2.isList he λh' hk=>(Ì,I.turnedL (t':=@Ĝ) (ch:=@Bh) (λc o hb q=>@atP) hf)
 self:=λA i s Q E st h=>aYR st.1 h
def  aCY[c1]:TI:=(i7,∃a b xs ys,vs=[@Î,@î]/\@s5/\(uR,ys)/\R @aqu H1)
def QJ[ý]{e e2:cq}[eG][aD](hg:Gl X "zip")(hm:(fl,"zip"))(ha:(lG,@K4))(hs:(a4,@K4)=(px,@Yb):=by rfl)(fo:(pF,pos,@Yb):=by show tG false):(C9,"zip",@K4,aCY X.K ta):=by
 ext pins s σ H R I h;calc(i8,aCW,hs,fo);clear q1;calc i8 λa b xs ys ex Jo=>Fa λJp q=>?_;subst ex;induction G with
 |cons r D=>
  induction D with
  |cons r' D=>
   cases D;cases r;cases r';rw[bk,Jo,λaG rv W _=>?_,<-bk,Jp,@Hq];let la:@aaj:=W.lt;let N:b<@Ļ:=p2.lt;calc call_zip_2 W.isList p2.isList λh' hz n M h1 h2 hsz hk=>aYR hz ?_;let I2:(ï,H1,@Tw):=(rw,hk);calc(ŉ,@Mb,[@Mb,@Z9,(qF,3),@Ļ,@lj],_,_,H1,dI I2 (aCX (a2K @Ļ a b la N)) (dI hz n (wk _ _ M) h1 h2) @Tx q);let F:c=@Mb\/c=@Z9\/c=(qF,3)\/c=@Ļ\/c=@lj:=by simpa using DE
   rw[hT,c,by rcases F with z|z|z|z|z;rw[aP,<-aP,<-aP,<-ú,@Â,<-aP]];show@aj5
universe _L
section
namespace Bits
open PySem PyProof.Rows
universe Bits
universe z
section
namespace TL
open PySem PySem.Builtin PySem.Builtin.Str PySem.StrLaws
abbrev tl[M]:@h:=x.cps.toList
def am6(x y:au):tl (x++y)=tl x++tl y:=(lD,(x++y).cps.toList,Str.cps_append,Array.toList_append)
def  LC(S:@h):@oH->@h|[]=>[]|[p]=>p|p::q::r=>p++(S++LC S (q::r))
def am7(y:au):∀qV:@â,tl @aga=LC (tl y) (qV.map tl)|[]=>rfl|[_]=>rfl|x::z::r=>by exact tl (x++y++aw0 y @Zu)=tl x++(tl y++LC (tl y) ((z::r).map tl));rw[am6,am6,am7 y @Zu,gh]
def aCZ(y:au)(qV:@â):Uo y qV=@aga:=glued_eq_join y qV
universe TL
universe z
namespace _L
open PySem PySem.Spec PyProof.Rows
def abd:∀{ys:@â}{us:@X},(ļ,@CY)->StrsAre us ys|[],_,.nil=>@á|y::ys,_,.cons r t=>by let{k,rfl}:=r;show .cons y k (abd t)
section
variable{X:Cx}{pins:@Ç}{σ:St}{H:Hp}{s:aK}{Q:VK}
universe z
section
variable{X:Cx}
def aC0:Lj X "str.join" @atz:=by
 ext pins s σ H x xs v us Q I J j h;clear h;calc dF λa p ys D B hp=>Fa λhz h=>?_;subst D;subst B;rw[Č];induction j with
 |cons G j=>
  cases j;cases G;rcases hp with hp|hp;.rw[é,hp,λaG r z _=>?_,<-gW];show a2L (items:=@ò) (HU o N hc n hd) @alO hz @ask
  .rw[ü,hp,λaG r ht _=>?_];show a2M (items:=@ò) ht @alO hz @ask
universe z
section
variable{X:Cx}{o e:cq}{to te:TE}
def  tM1(r:@bg)(to te:TE):TE:=(sZ,λx H1=>(∃a,x=.str a)/\te σ H1 (xh,[y]))
def aC1{id:String}{name:au}{apos pos:dO}{r:@bg}(slot:Slot "str" @Ŗ id)(ty:@zn)(B6:@zP)[ż][eq][dS][fd]:(C5,@axR,r):=by ext pins s σ H Q I h;calc PySem.Call_method1 z hs j (g2,@tl);let{{a,rfl},q1}:=q1;let{t,rfl}:=_root_.id G;apply c_ ("str") _ F.plainAttrs_str slot ty (awL _ _ _) {@Hg,(Ac,Uc ?_)};show(gJ,@asA,(rt,aja (B6 @Æ s2 σ H2 _ [y] _ [u] Q I2 G (cf,r2) q2)))
def aC2{apos pos:dO}[ż][eq](z:(ri,"join"):=by rfl)[fd]:(C5,(gw,o,"join"),@atz):=aC1 F.slot_str_join F.type_str_join aC0 N he hs z j
universe z
universe _L
namespace _L
open PySem PySem.Spec PyProof.Rows
section
variable{X:Cx}
universe z
universe _L
namespace Att
open PySem PySem.W PySem.Calls PyProof.Rows
section
variable{prog:dz}{w:dc}{A:fG}{E:@É}{s:aK}{K:Frag}
universe z
universe Att
namespace _L
open PySem PySem.Spec PyProof.Rows
universe _L
namespace _L
open PySem PySem.Spec PyProof.Rows
universe _L
namespace _L
open PySem PySem.Spec PyProof.Rows
def  jV[Ě][Đ]:bi:=match s with|.ClassDef _ _ _ body _ _ _ _ _ _ _=>body.getD j @A8|_=>@A8
def  vk[Ě]:aXR:=match s with|.FunctionDef _ a _ _ _ _ _ _ _ _=>a|_=>{posonlyargs:=[],args:=[],vararg:=@u,kwonlyargs:=[],kw_defaults:=[],kwarg:=@u,defaults:=[]}
def  tV[Ě]:@gi:=match s with|.FunctionDef _ _ b _ _ _ _ _ _ _=>b|_=>[]
def  bt[Ě]:lN:=match s with|.FunctionDef _ _ _ _ _ _ j _ _ _=>j|_=>{kind:=@q',names:=[],isGenerator:=@Å,isCoroutine:=@Å}
abbrev br:vh:=λ_ _ _ _ _ _=>@fd
abbrev E0:XK:=@kB
def Ij[ý]:CK br X E0:=λ_ _ _ _ _ _ _ h=>h.elim
structure bx[b](x j:au)(st:bi)[Ś]:@v where
 ex:∃(W:ai)(od:@aP)(kV M pm:ai)(z:@aP)(a7 ct:ai)(vE:@gs),fd=@yR/\(ga,fd)/\@L8
 kp:@gO
section
variable{P:dz}{w:dc}{K:aZ}{mg:@ñ}{base:cH}
def bx.ok[cv]{f:aa}{fd:nY}[dQ][f]{sp:Sp}(F:@aou)(S:(õ,N,ps,st))(len:@Ar)(afD:∀(a7:ai)(A:fG)(outer:@aW)(s:aK)(H:Hp)(vs:@P)(Q:VK)(E:XK),(H0,(qi,@Ty,a7),(H_ br P w K mg @ĝ N j @Ty f a7 A @đ s H E).nox,tV st)):(p6,@û):=by calc@ao0;subst n;calc aBA G kn S len λA outer s H vs Q E hr D=>?_;rw[x,afD a7 A @đ s H vs Q E hr D,λt h q=>?_];show ab t h.nox q
def bx.binds[cv]{f:aa}[aR](F:@aou)(h:(n5,@yR)):@iX:=by calc@ao0;subst n;show .all (h kV M pm z a7 ct)
def abe[cv]{f:aa}{W:ai}{od z:@aP}{vE:@gs}{kV M pm a7 ct:ai}(l:(ga,@yR))(c:@L8)(k:@gO):bx K x j st f @yR:={dZ W od kV M pm z (zq a7 ct vE @d l c),k}
universe z
def lj[Ê][f](hr:@iB):@dS:=oB (Nat.add_le_add_left (@Ó:1<=64) _) hr.units
def fc[u](h:(ĕ,n)):n<bq:=oB h @Ó
section
variable{X:Cx}
def pv[o][s][Õ][d3][ea]:@al8:=al0 S hv hd kn
def  aC3:@Ŏ:=(Fc,@iv)
def aC4:(na,aC3):=by ext pins s σ H xs us Q I r h;clear h;calc cw λa kvs n ha q=>?_;subst n;rw[bj,@Hh];subst j;cases W;show aCw I @kA λt s' O=>aU @RY H O @on q
universe z
def dH{A B:@v}(h:B):(V,@Å,A,B):=(d,ag jP,h)
def dg{A B:@v}(h:A):(V,@o,A,B):=(d,@Þ,h)
def b9{c A B:@v}[Decidable c](h1:c->A)(h2:¬c->B):if c then A else B:=by by_cases h:c;rw[ó,h,h1 h,<-ą,h,h2 h]
def  af[ļ]:@v:=∀b o,@co->@Xx
def af.refl[i]:af H H:=λ_ _ h=>h
def af.trans[dV](a:@ō)(b:@f_):@gB:=λc o h=>b c o (a c o h)
def af.free[p](e:@Í){l:aa}(h:H' l=ajt):H l=ajt:=by cases q:H l with|none=>rfl|some o=>rw[ż,e l o q]
def af.seq[Á][p][Ò](e:@Í)(h:@ŉ):(m_,H'):=(EG,@ahC,@ahC)
section
variable{κ:@è}[@P0]
universe z
def iA[w]{z:Int}[Ä]{v:V}(e:z=@f4)(h:@y!):(h5,z):=(ŋ,Ic h)
def af.made[Ņ]{x dx C:aa}(nx:H x=ajt)(nd:H dx=ajt)(k:(bZ,(X,(B8,@ags,b)),b≠x,H1 b)):@ō:=λb o e=>k b o (Ç,(dE,nx),(dE,nd),e) (eT e nx)
universe _L
universe z
section
namespace _L
open PySem PySem.Spec PyProof.Rows
open PySem.W(WData Codec OpenSpec Well WellAll ReadsW ReadsAllW)
mutual
inductive Dw[ć]:(Å,V,lO)|non:(dI,@ŕ,@Ť)|bl[G]:(dI,@bR,@GR)|int[ē]:(dI,@þ,@þ)|str[M]:(dI,@aT,@aT)|byt(b:@GT):(dI,@G',.bytes b.toList)|lst[Ò][Ā]:(AZ,@ŉ,@Hj)|tup[Ò][Ā]:(AZ,@bV,@Hk)
inductive wL[ć]:(Å,@P,@aS)|nil:wL K H [] []|cons{v:V}{vs:@P}{d:lO}[Ā]:@ans->@anl->wL K H @Km @NS
end
def aC5[Á][a]:(s?,wL K H @Ŀ @S6):=by ext z_;cases z_ with|nil=>rw[ñ]|cons n r M=>rw[ģ,@aa,M]
def aC6[Á][a]:∀(ns:@À)(xs:@P),(lM,@S6)->xs=@Ŀ:=by ext z_;cases z_ with|nil=>ext xs h;cases h;rfl|cons n r M=>ext xs h;induction h with|cons h1 h2=>cases h1;rw[(@acS)]<;>rfl
section
variable{P:dz}{w:dc}{K:aZ}{H:Hp}{h:cH}{R:aYT}{cl:au->@aP}
def aC7[Ò][aB](q:@ŉ):(G4,@m4):=by
 rcases q with q|⟨o,aG,n,e,hc,_,hd,_,hv⟩;.let{_,aG,n,hv,e}:=(y0,@G_);show{aG,_,n,hv,e,@d,@d}
 .show(ox,@mr,B _ _ e,@WP)
def aC8[Ò][aB](q:@bV):(G4,@fu):=by
 rcases q with q|⟨o,aG,n,e,hc,hd,_,hv⟩;.let{_,aG,hv,o,e,hc,n,hd}:=(y0,@a4);show(ox,aG,e,hd)
 .show(ox,@mr,B _ _ e,@WP)
mutual
def Dw.reads[aB]:∀(d:lO)(v:V)(u:ai),@ans->@ż->∃as,(G5,h,d)
 |.none,_,_,x,r=>(ur,a2N)
 |.bool b,_,_,x,r=>(ur,a2O b)
 |.int i,_,_,x,r=>(us,a2P i t)
 |.str s,_,_,x,r=>(us,a2Q s t)
 |.bytes b,_,_,x,r=>(us,a2R _ t)
 |.list ds,_,_,x,r=>by induction x with|lst hs ha=>rw[oL,aC7 hok B hs,a2S N hc hd hr]
 |.tuple ds,_,_,x,r=>by induction x with|tup hs ha=>rw[oL,aC8 hok B hs,a2T N hc hd hr]
 |.float _,_,_,x,_=>@lh
 |.dict _,_,_,x,_=>@lh
 |.bytearray _,_,_,x,_=>@lh
 |.set _,_,_,x,_=>@lh
 |.frozenset _,_,_,x,_=>@lh
 |.obj _ _,_,_,x,_=>@lh
def Dw.readsAll[aB]:(Fi,@aS,@anl,ReadsAllW R cl h us ds as)|[],_,_,x,r=>(ur,a2U)|d::ds,_,_,x,r=>by induction x with|cons h1 h2=>rw[nk,Dw.reads hok B d _ _ h1 G,(wh,_,h2,r2),a2V q1 q2]
end
universe z
mutual
def  tW:lO->@Ù|.none=>true|.bool _=>true|.int _=>true|.str _=>true|.bytes _=>true|.list xs=>wM xs|.tuple xs=>wM xs|_=>false
def  wM:@aS->@Ù|[]=>true|x::r=>tW x&&wM r
end
def aC9[t]{f:α->lO}(h:∀a,tW (f a)=@o):(fP,wM @oQ=@o):=by ext z_;cases z_ with|nil=>rw[Ø]|cons x r M=>exact(Ģ,tW (f x),wM @Pu);rw[h x,M]<;>rfl
def CT:∀(c:OE)(a:c.denote),tW (c.enc a)=@o|.unit,_=>rfl|.bool,_=>rfl|.int _ _,_=>rfl|.nat _ _,_=>rfl|.u8,_=>rfl|.bytes _ _,_=>rfl|.text _ _ _ _,_=>rfl|.list _ _ c,a=>aC9 (λx=>CT c x) a|.pair c d,a=>by exact(Ģ,@M!,tW (d.enc a.2)&&@o);rw[(@Mi),CT d a.2]<;>rfl|.triple c d e,a=>by exact(Ģ,@M!,tW (d.enc a.2.1)&&(tW (e.enc a.2.2)&&@o));rw[(@Mi),CT d a.2.1,CT e a.2.2]<;>rfl|.option c,none=>rfl|.option c,some x=>CT c x
def aC_:(B!,wM (OF cs a)=@o):=by ext z_;cases z_ with|nil=>rw[ġ]|cons c cs M=>ext a;exact(Ģ,@M!,wM (OF cs a.2));rw[(@Mi),M a.2]<;>rfl
def abf:∀{xs:@aS}{d:lO},d∈xs->d.weight<=ajv xs
 |[],d,h=>@wP
 |x::r,d,h=>by
  exact d.weight<=x.weight+1+ajv r;rcases eJ.mp h with e|m;.rw[e];omega
  .let z:=abf m;omega
def  qB:ai->V|.none=>@ŕ|.bool b=>@bR|.int i _=>@þ|.str x _=>@aT|.bytes b _=>@G'|.ref a=>@Î|_=>@ŕ
def  vm(A:@Ë):(ú,ai)|.none=>True|.bool _=>True|.int _ _=>True|.str _ _=>True|.bytes _ _=>True|.ref a=>a∈A|_=>False
def vm.mono{A B:@Ë}(h:@TA):∀{u:ai},@BN->vm B u:=λ{u}x=>by cases u with|ref a=>show h a x|none=>trivial|bool b=>trivial|int i t=>trivial|str s t=>trivial|bytes b t=>trivial|_=>show oI x
def aDa{A:@Ë}[Ð](x:@BN):RelV (qB u) u:=by cases u with|ref a=>rfl|none=>rfl|bool b=>rfl|int i t=>rw[ć,t]|str s t=>rw[ć,t]|bytes b t=>rw[ć,t]|_=>show oI x
def Ik{A:@Ë}:∀{vs:@X},@kI->bG @j9 vs|[],_=>@á|u::r,h=>.cons (aDa (h u (pw ..))) (Ik @aiz)
def  wN[Æ](A:@Ë)[Ē]:@v:=(Fn,@Kn\/@Bt=some @j0)
def wN.mono[Ç]{A B:@Ë}[X](k:@TA)(x:@aub):wN h B a:=by let{vs,h1,h2,h3}:=x;show{vs,h1,λu hu=>(h2 u hu).mono k,h3}
def QK[a_]:∀{vs:@X}{ds:@aS},@up->@bm=@g3|_,_,.nil=>rfl|_,_,.cons _ b=>(f1,_+1,_+1,QK b)
def am_[a_][ÿ][Ā](x:Up P h v @Hj):(B?,@Kn):=by induction x with|list N fU=>rw[lG]
def ana[a_][ÿ][Ā](x:Up P h v @Hk):(B?,@aaM):=by induction x with|tuple N fU=>rw[lG]
def anb[a_][þ]{d:lO}[Ā](x:G8 P h us @NS):∃(v:ai)(vs:@X),us=@Km/\@ae_/\@up:=by induction x with|cons a b=>show{_,_,@d,a,b}
def anc[u](h:n<=1048576):n<=bq:=(dy,h)
section
variable{P:EA}{h:cH}
mutual
def aDb:∀(d:lO)(v:ai),@ae_->@W!->@avY->∃A:@Ë,vm A v/\@eV|.none,_,x,_,_=>@qy|.bool b,_,x,_,_=>@qy|.int i,_,x,_,_=>@qy|.str s,_,x,_,_=>@qy|.bytes b,_,x,_,_=>@qy|.list ds,_,x,p,z=>by rw[gY];let z2:ajv ds<=1048576:=z;rw[mg,p,@akG,<-l8,<-mU];rcases eJ.mp hb with e|m;rw[n4,@Qx,<-mz]|.tuple ds,_,x,p,z=>by rw[jO];let z2:ajv ds<=1048576:=z;rw[mg,p,@akG,<-l8,<-mU];rcases eJ.mp hb with e|m;rw[n4,@O_,<-mz]|.float _,_,_,p,_=>@bX|.dict _,_,_,p,_=>@bX|.bytearray _,_,_,p,_=>@bX|.set _,_,_,p,_=>@bX|.frozenset _,_,_,p,_=>@bX|.obj _ _,_,_,p,_=>@bX
def QL:(Ca,@up->@t!->@Hr->∃A:@Ë,@kI/\@eV)
 |[],_,x,_,_=>(JY,λu m=>@aur)
 |d::ds,_,x,p,z=>by
  rw[gZ,<-nC];let{A,a1,X}:=aDb d v j q.1 (z d (pw ..));let{B,b1,b2}:=QL ds vs D q.2 λe he=>z e (í,he);let f:∀b∈A,b∈A++B:=(wS,@Qv);let c:∀b∈B,b∈A++B:=(wS,.inr hb);calc{A++B,@k8,@dp};.rcases eJ.mp hu with e|m;rw[Ē,a1.mono f];.show(b1 u m).mono c
  .rcases bX.mp hb with m|m;.show(X b m).mono f
   .show(b2 b m).mono c
end
universe z
def  QM(o:bS):@Ge:=match o.data with|.seq vs _=>(tC,@i6,(wD,.lst @TB),(wD,.tup @TB))|_=>none
def  oX[b][Æ](A:@Ë):Hp:=λb=>(pq,@pE,(V,(K.lookup b).isNone,(h.get? b).bind QM,@u))
def  LD[i]:@v:=∀b,@ŋ\/∃o u,(ŧ,@s3)
def ane(vs:@X):QM @nv=some @ajU:=(df,(tC,@avp,(zy,@SF),(zy,@R4)),TV _)
def anf(vs:@X):QM @j0=some @ajV:=(cp,(tC,AH "tuple",(zz,@SF),(zz,@R4)),@Ó)
section
variable{P:dz}{w:dc}{K:aZ}{h:cH}{A:@Ë}
def QN[Ţ](hb:@pE)(hk:@Xd)(e:@dy):@ayl=QM o:=by delta oX;rw[(@uP),hk,aj (show(@u:Option bS).isNone=@o from rfl),e]<;>rfl
def aDc[ù][Ĕ](q:@Y4):@pE/\@tx=@u:=by
 delta oX at q;by_cases hb:@pE;.rw[(@uP)]at q;cases hk:K.lookup b with|none=>rw[ć,hb]|some o=>rw[hk,(@kw)]at q;cases q
 rw[Ĥ,ag hb]
def QO(c:@eV)[ù][Ĕ](q:@Y4):(dz,@tx,(Fn,(@fn=some @nv/\u=@ajU)\/(@fn=some @j0/\u=@ajV))):=by let{hb,hk}:=aDc q;let{vs,h1,h2,h3}:=c b hb;calc{hk,vs,h1,h2,?_};rcases h3 with e|e;rw[iE,ane,(b0,e,@Rg),<-iE,anf,(as,e,@Rg)]
def aDd(c:@eV):LD @iN:=λb=>by cases q:oX K h A b with|none=>show@ì|some u=>obtain⟨_,vs,_,_,⟨_,e⟩|⟨_,e⟩⟩:=@Ok;rw[mJ,<-mJ]
def aDe(c:@eV):iw P w @iN h:=λb u q=>by
 obtain⟨_,vs,h1,h2,⟨e,rfl⟩|⟨e,rfl⟩⟩:=@Ok;.show{e,(dO,h1),vs,_,Ik h2,e}
 .show{e,(dO,h1),vs,Ik h2,_,e,@d,_,@d}
def QP{c c':ai}{vs us:@X}(e:(some (w9,c,@d8):Option bS)=some (w9,c',@mz)):c=c'/\vs=us:=by let e1:=cM e;rw[È,c,c',dS Obj.cls e1];let e3:ajw @d8=ajw @mz:=dS Obj.data e1;injection e3 with e4;rw[Ì,e2];let e5:=dS awi e4;simpa using e5
def aDf[aU][X][Ļ](ha:a∈A)(e:@Kn):@kI/\ak K @iN a @j9:=(IU,@TC,@abx,ane,{_,@mz,_,hk,@d,@d,@d,@alN,@acq})
def aDg[aU][X][Ļ](ha:a∈A)(e:@aaM):@kI/\cS K @iN a @j9:=(IU,@abx,@TC,anf,{_,@mz,_,hk,@d,@d,@alN,@acq})
mutual
def aDh{e:EA}[aU]:∀(d:lO)(v:ai),Up e h v d->@W!->vm A v->Dw K @iN (qB v) d|.none,_,x,_,_=>(e0,@ŕ)|.bool b,_,x,_,_=>(e0,@bR)|.int i,_,x,_,_=>(e0,@þ)|.str s,_,x,_,_=>(e0,.str s)|.bytes b,_,x,_,_=>by cases x;let z:=Dw.byt (K:=K) (H:=@iN) b.toArray;show z|.list ds,_,x,p,hu=>by rw[gY];let{h2,hs}:=aDf B c hu N;show .lst hs @asP|.tuple ds,_,x,p,hu=>by rw[jO];let{h2,hs}:=aDg B c hu N;show .tup hs @asP|.float _,_,_,p,_=>@bX|.dict _,_,_,p,_=>@bX|.bytearray _,_,_,p,_=>@bX|.set _,_,_,p,_=>@bX|.frozenset _,_,_,p,_=>@bX|.obj _ _,_,_,p,_=>@bX
def QQ{e:EA}[aU]:(Ca,G8 e h vs ds->@t!->@kI->wL K @iN @j9 ds)|[],_,x,_,_=>(e0,@á)|d::ds,_,x,p,hu=>by rw[gZ,<-nC];show .cons (aDh B c d v j q.1 (hu _ (pw ..))) (QQ B c ds vs D q.2 λu m=>hu u @JA)
end
universe z
def aDi[é]{mg S:@ñ}[ad][f]{g:aa}[aR]{sp:Sp}{j:aK}{i:@X}[Ā]{R:aYT}{cl:au->@aP}{d0:lO}(B:K.In @d!)(vB:j.heap.Ns ke mg)(hb:j.heap.Ns awg S)(T:@arQ)(M:j.heap.NoLimit)(hg:j.gens=#[])(nB:G8 w.params @d! i ds)(fo:@t!)(I:@Hr)(hr:@J2)(F:(r',@G0,(oK,k,g)))(Q:(rZ,@b!,@hq))(b_:(rm,@g3))(D:∀(H:Hp)(xs:@P),LD H->(lM,ds)->sp xs H (Fk,d0) @kB)(C:∀H e s',CX [] H j @kB e s'->@fd):B7 @wt OG (.call @u? ⟨i,[]⟩) (λr s'=>∃u as,r=.ok (.ret u)/\(G5,@c3,d0)/\OldK @d! @c3/\s'.os=j.os/\@G4) j:=by
 let{A,N,c}:=QL ds i nB fo I;let t:LD @K3:=aDd c;let hok:iw P w @K3 @d!:=aDe c;let hS:=QQ B c ds i nB fo N;let U:=Ik N;let J:∀b u,(ū,@ad?)->@Xd:=λb u q=>(QO c q).1;let G:∀{b:aa}{o:bS}{es:@cU}{ep:Nat},(X,@Hs)->@dU->@ad?=@u:=λ{b o es ep}e d=>by
  cases q:oX K j.heap A b with
  |none=>rfl
  |some u=>
   obtain⟨_,vs,_,_,⟨e2,_⟩|⟨e2,_⟩⟩:=@Ok;.rw[aD];cases e;rw[nJ];cases d'
   .rw[aD];cases e;rw[nJ];cases d'
 generalize@K3=H at t hok hS J G;let p:∀{b:aa}{o:bS},(X,@Hs)->@ŋ->(X,(r9,@d!)):=λe n=>aAA e n;let E:∀{b:aa}{m:@ñ},j.heap.Ns b m->(A5 @d! H).Ns b m:=λ{b m}=>om λo es ep e d r=>{o,es,ep,p e (G e d),d,r};let nK:(hn,@tx,@ŋ):=λb o e=>by cases q:H b with|none=>rfl|some u=>rw[J b u q]at e;cases e
 let l:K.In @Ol:=λb o e=>p @anE (nK b o e);let hM:Mod K mg @Ol:={l,E vB,{S,E hb,T},let⟨mc,h1,h2⟩:=M;{mc,E h1,h2}};let e0:CJ P w K mg @Ol OG [] j H:={@d,hM,λb o e=>aAB e,Ou (aAz _ _),gA,λb hb=>(ff,show@OE from hb),hok,.of_eq hg};rw[cd,i.length,(d,QK nB,b_)];calc Ue ((F _ l (E vB)).run OG [] j H ⟨i,[]⟩ i (i.map qB) _ _ hr e0 (Q j i hl) U (D H _ t hS)) λr s' x=>?_;cases r with
 |error e=>show(C H e s' x).elim
 |ok O=>
  cases O with
  |next=>show oI x
  |brk=>show oI x
  |cont=>show oI x
  |ret u=>
   let{v,H',os,bare,un,f,r',q}:=x;let a:(hn,@Hs,@XA):=λb o e=>by
    cases q2:H b with
    |none=>show un.keep b o e q2 (J9,(ff,@S4)) @A
    |some u2=>
     rcases t b with z|⟨ob,u3,z⟩;.rw[q2]at z;cases z
     .let z2:=un.frzs b ob _ z;let{e1,_}:=hok b _ z;let{e2,_}:=f b _ z2;rw[e]at e1;cases e1;show e2
   let W:K.In @c3:=λb o e=>a b o @anE;let{as,y}:=Dw.reads (R:=R) (cl:=cl) f W d0 v u q r';show{u,as,@d,y,OldK.of_keep a,os,bare}
def aDj[Ā](h:WData.layableAll ds=@o):@Hr:=λd hd=>(a2W.mp (j_.mp h d hd)).2.2
def aDk:(B!,(xC,a)=@Ţ):=by ext z_;cases z_ with|nil=>rw[ġ]|cons c cs M=>ext a;exact(xC,a.2)+1=@oi;rw[M a.2]
def aDl[eO]{q:dz}{b:@â}{Q:@acv}{m:@acu}[eF]{CX:dc->vh}[bK]{sp:dc->Sp}(c:@W7)(n:@Yr)(b_:@aec)(hr:@J2)(J:@akH)(F:(Im,CX w,sp w))(D:∀(w:dc)(H:Hp)(xs:@P)(a:@Tz),(Hf,wL @nW H xs @agc,w,λv H'=>Dw @nW H' v @Om))(C:∀(w:dc)(H:Hp)(s:aK)(e:ai)(s':aK),CX w [] H s @kB e s'->@fd):@atU:=by ext w s_0 j mg S G p g o pm cd M dV kV N hd kn hD l hg args i as x E y nB T;let{a,e1,e2}:=a2X x;let{e3,I}:=Codec.encAll_of_decAll @ja args a e1;subst e3;let B:=J w _ p;let{fd,hb,hF}:=F w mg g _ p B G.T.g l;calc a2Y (Ue (aDi (R:=[]) (cl:=classAt s_0.heap) (d0:=@Om) B G.T.g G.T.b G.T.builtins G.T.nolimit hg nB (aC_ _ _) (aDj E) hr hF hb (d,aDk,b_) (λH xs t hS=>D w H xs a t I e2 hS) λH e s'=>C w H j e s') λr' s' U=>?_);let{u,O,rfl,h1,h2,h3,h4}:=U;show{.inl {u,_,O,@d,@ę,h1,(a2Z c I _ _).mpr @d,λz=>xB (show@hc from z)},h2,h3,h4}
def aDm[eO]{q:dz}{b:@â}{Q:@acv}{m:@acu}[eF][ad][bK]{sp:aZ->Sp}(c:@W7)(n:@Yr)(b_:@aec)(hr:@J2)(J:@akH)(F:(Im,CX,@TD))(D:∀(K:aZ)(H:Hp)(xs:@P)(a:@Tz),(Hf,(lM,@agc),K,(Fk,@Om)))(C:∀(H:Hp)(s:aK)(e:ai)(s':aK),CX [] H s @kB e s'->@fd):@atU:=aDl (K:=K) (CX:=λ_=>CX) (sp:=λw=>@TD) c n b_ hr J F (λw H xs a h1 h2 h3 h4=>D @nW H xs a h1 h2 h3 h4) λ_ H s e s'=>C H s e s'
universe _L
universe z
namespace _T
open PySem PySem.Spec PyProof.Rows _L
open Vbcjac(Hand at_ comp bit Card toldRow Toks toksFrom tokens small digit valueOf cutHand turnHand dealHand everyHand imageOf done lengthAt orderOf sumAt sidesCount countOf factorial rankOrder orderIn rankSides sidesNumber exchanged through placeOf ordering downTo tour tours wayHand wayTo over_ Grid between sideOf evenIn upIn orderBad firstBad named truth fits spaced text Reached onRow State meaning rowOf leastWay)
open _M(aJ cf power pB gC bQ jf cd cuts wrong ie AS mT qt lQ g8 jG mX vc wu tN fQ GoodG rg ET Cs Wt ig j4 uZ EO lg gP r_ og wr AV oQ lS mW j5 qu iT gZ j0 je iU gM wy sg La rZ signed mZ Cw jQ oj UZ Mc Rs kg sh zo AO oO Pq CW Cm gD Co kP kf zG rb mn wq restOf jq rh cX oR both eI Gen Cv xI wx wv WF Sg uU dP rl)
open VbcjacNeutral(nats asked1)
open PyVbcjac(whole)
variable{fd:nY}{C CP m a aB aN b c cl g d dx f f0 l mo v u:aa}{K:aZ}{w:dc}{P:dz}{mg:@ñ}{base:cH}{n slot:Nat}{σ:_L.St}{α β:@è}{o:HO}{X:Cx}{te ty:TE}{p2 pos:dO}{N:@ć}{e:cq}{cs t vs:@h}{j:@ec}{ns:@À}{hs:@È}{Q:VK}{S:kL}{M:az}{tt:TT}{q:eG}{sp:Sp}{k:Hp}{es:@Ġ}{A:fG}{ss:@Č}{U:@ĕ}{tb:TS}{ds:@Ë}{G:@v}{E:@É}{ys:@P}{sv:Bool}{J I:au}
def eV[P][w](h:@xD):Qv K "list" @ã H:=.inl {@d,_,h}
def dis{a b:HO}(h:@aex)[fe]:G:=@alK
def aZU{a b:V}(h:a=b)[fe]:G:=@alK
def aZV{a:α}(h:@u=some a):G:=@WQ
def aZW{a:α}(h:some a=@u):G:=@WQ
def aZX{a b:@P}(h:(á,(ib,a),b)):a=b:=@IW
def aZY(h:@jS=@î):a=b:=@IW
def aZZ{a b:V}(h:@aex):a=b:=@IW
def _root_._L.PE.out{X:_L.Cx}{e:Et}{t:_L.TE}(h:_L.PE X e t):@ap!:=by delta _L.PE at h;show h
def aL[ħ][m](h:@aeD):@ao3:=(E',@ON)
def dA[ħ][m](h:@a7):@ao3:=(E',e)
def  gu[Ý]:HO:=(k0,.int @tG,x.2)
def  eW[i](ps:@Ë)[D]:@v:=ps.map H=h.map @Pg
def eW.same:∀{H H':Hp}{ps:@Ë}{h:az},@cY->@Í->(jB,H')
 |H,H',[],h,t,s=>by cases h with|nil=>rfl|cons x h=>rw[Ò,t,@avE]
 |H,H',p::ps,[],t,s=>@NO
 |H,H',p::ps,x::h,t,s=>by rw[jP,@cY];let ih:=eW.same t'.2 s;delta eW at ih⊢;rw[cT,cT,ih,(ą,t'.1)]
def eW.len[a!]:@b!=@ħ:=(f9,t)
def eW.get[a!][dJ]:∃x,(ai,h)/\@kO:=by let e:=dS (λl=>l[i]?) t;simp only[bB,hp,J4]at e;cases e2:h[i]? with|none=>rw[aD];simp at e|some x=>rw[aD];show(Ñ,x,@IA)
def eW.get'[a!][e][C](hx:(ai,h)):∃p,(H,ps,p)/\@kO:=by let hl:=t.len;let{hi,_}:=@FU;let hp:(H,ps,ps[i]):=@eE;rw[x,t.get hp,@gr];rw[hx]at hy;cases hy;show ab _ hp e
def eW.push[aA][U][C](t:@cY)(e:@kO):eW H @LM @aaC:=by delta eW at t⊢;rw[bF,bF,t];simp[e]
def eW.mem[a!][U](hp:p∈ps):∃x,@kO:=by let{i,hi,rfl}:=oC hp;rw[x,t.get @bH,@TF];show⟨x,e⟩
def eW.upd[aA]{D:aa}{acc:@P}[À](t:@cY)(e:(ã,D,acc)):@aax:=by rw[f?,t];delta eW at t⊢;rw[<-t];rw[Î];ext p hp;rw[cz];refine aF;ext q;rw[q,e]at ex;cases ex
def  Mv[Ċ][D]:@v:=(lm,@wl/\@cY)
def  vn:=@λ{I W p2}G j r=>@id (@Mv I W p2) ⟨G,j,r⟩
def Mv.same[cr][k](m:@bT)[m]:(ó,l,h):=(ni,@eY,vn ps @Ż @vk)
def Mv.nil[Ü]:Mv @ayf D []:=vn ([]) aq @d
def Mv.push[be][C](m:@Zd)[ah]:∃acc,(FU,acc,acc.length,acc++[@ã],@aaC):=by
 clear m;calc bj @eY;rw[nK,<-mh,<-m6,vn @LM ?_ ?_];.rw[aq];simp
 .show(b2.push (x:=x) aq).upd hD
def Mv.len[a]{l:aa}[k](m:@bT):∃xs:@P,@ex/\@Ï=@ħ:=(ni,@eY,ab _ a (by simp[b.len]))
structure Blt[ņ]:@v where
 range:(ă,"range")
 len:(ă,"len")
 abs:(ă,"abs")
 sum:(ă,"sum")
 all:(ă,"all")
 any:(ă,"any")
 sorted:(ă,"sorted")
 list:(ă,"list")
 str:(ă,"str")
 ord:(ă,"ord")
 enumerate:(ă,"enumerate")
 zip:(ă,"zip")
def  bo[ì][M][dz]:@v:=(vs,(tK,@ņ),@gO,@iX)
def bd[s][ŕ][dr](C:@atV)[ai][ep][eD]:(hz,Qn sp [] E0 t):=by clear C;calc g9 λf fd F hm hk hb=>?_;show aBt F hr hg hm hk hb @á Ij ha j he fo
def LF{lo:Int}[O](f:@XH)(hn:(ĕ,n))[ě][aj](step:∀(i:Nat)(H':Hp)(Q:VK),i<n->(gv,@aeD,ah H' p (gu @eG))->(ky,(Ï,lo+i)))(hd:(pK,(ó,D,(cj,f)))):(lV,@A5,@A6,@Bn):=by
 calc aa6 (ho,(ó,D,(l!,f))) {@jA,Mv.nil} ?_ (q!,h.2);intro i H' hi⟨hs,hm⟩;rw[ř];simp only[ni,ku];calc step i H' _ hi @Ŝ;rw[c0,@eG,hm,hp];calc(e3,acc,e1,(mt,hp));.rw[e2];simp only[aw,nI];show@ĳ
 rw[Ê,uF,bF,e3]
def Mv.cat[a]{h1 h2:az}(m1:Mv H a h1)(O:Mv H b h2):∃xs zs,(bo,a)/\@Mp/\@Ï=h1.length/\@aE=h2.length/\(rS,Mv (cd,@EI) p (h1++h2)):=by clear m1;rw[E,λps a1 b1=>?_];clear O;rw[E,λG X b2=>?_];calc c_ _ _ a1 X (by simp[b1.len]) (by simp[b2.len]) (λp hp=>vn (ps++G) (ix,bF) ?_);let c1:=b1.same @arf;let c2:=b2.same @arf;delta eW at c1 c2⊢;rw[bF,bF,c1,c2]
def Mv.at[ċ](m:@bT)[e][ũ]:∃xs p,(ĺ,l,xs)/\(İ,xs,@ú,@ã)/\@agA:=by clear m;rw[E,@eY,<-nR];show aU _ p @tA @agb e2
def tX[P][C](e:@kO):(Ű,p,[.int @tG,@axK]):=cS.of e
def ang[bk]:((ñ,a)+(ñ,b))%2=(ñ,a !=b):=@WE
def zO[ŝ][è][b!](hl:@MJ)(hs:∀i x σ H T,@au->@fs->@io->(El,@acy))[ac]:(on,@asl,@asm,@atA):=by
 rw[ŏ,@ui];ext i m σ H;calc cy @TN;subst aW;let q:=@uw;rw[Ō];.apply(bg,@FD,@mV,@ty,@oc);clear y;calc g9 λT x bf hT bu y=>?_;subst bf;subst bu;rw[dD];show hs i x σ _ T @oA p hT
 rw[Ő,@Fx,@oE]
def kz{t:TT}(h:PW X e t):PT X e t:=by delta PT;delta PW at h;show λpins s σ H Q I hw=>h _ @Æ s σ H Q I hw
def Fd{c:TT}[è](Pv:@aF)(μ:@fg->Hp->Nat)(h0:Pv σ H)(hs:∀σ H,Pv σ H->(o8,@aF,∃m',m'<μ σ H/\m'=μ σ' H'/\Pv σ' H')):@as':=by rw[â,λm σ H=>m=μ σ H/\Pv σ H,(R,h0)];rintro m σ H⟨rfl,p⟩;show hs σ H p
def Mv.set[be][C](m:@Zd)[ah][Đ]:∃xs,(FU,xs,@Ï,xs.set j @ã,h.set j x):=by clear m;rw[E,@eY,<-nK,<-mh,<-m6,vn (ps.set j p) (ix,yS) ?_];calc eW.upd ?_ hD;delta eW at b2⊢;rw[yS,yS,b2,aq]
def sE{t u:TT}[a]{Q:@cC}[eI](h2:@ag?)(h:Q @M3 H):tOr t u σ H Q:=(n1,?_,h,@aiX)
def Il{t u:TT}[a]{Q:@cC}[eI](h2:@ag?)(h:Q @M2 H):al1 t u σ H Q:=(n1,?_,@aiX,h)
def gR[ų]:(bq,@SP,@SQ,a,b):=(Ho,V.int.inj q)
def abg[G]:(E,(Đ,@ĸ),@o1)=b:=by rw[gR];induction b<;>rfl
def eC[Â]:wG X (Qr K):=(bH,amw)
def kQ[Â]:wG X (Qs K):=(bH,amx)
def tY[Â]:SlR X (aaT K):=(bH,aBT)
def cz[Â]:(na,amB K):=(bH,aBX)
def mH[f]{t:A6}[É](hp:@ag8)[Â][ee]:(Hj,K):=(bH,aAS hc hp hn fB)
def ba{ta:TE}{f:au}[ew][Â]:(CH,K):=(bH,aBn he hb)
def inS[Â]:(DV,K):=(bH,aBV)
def aDo:∀(l:@X)(f:Nat->Int),(Cb,l,∃t,v=Oj (f j) t)->bG (Ī,@Ã,V.int @eG) l:=by ext z_;cases z_ with|nil=>ext f _;show@á|cons v l M=>ext f h;rw[eE,TF,cT,b6];show .cons (h 0 v @d) (M (λj=>f @Ö) λj v e=>h @Ö v e)
def  aDp:@Ŏ:=λxs H Q=>∃i j:Int,(DS,(lN,@On))
def abh:(tQ,"range",aDp):=by ext pins s σ H xs us Q I r h;clear h;calc fb λi j aW q=>?_;subst aW;induction r with|cons r D=>induction D with|cons r' D=>cases D;rw[Ĳ];let{t',rfl}:=r';apply aXE (zU,@kH,(GK,@On,K7 _ _ _ @ad))
def  aDq:@amf:=λxs H Q=>∃(p:aa)(i j:Int),xs=@k1/\(ľ,@On)/\@ato/\(Ź,@qD)/\(oE,(be,(bP @qD).map λ(k:Nat)=>V.int (i+@ë)))
def abi[É]:(m6,aDq):=by
 ext pins s σ H xs us Q I r h;clear h;calc dF λp i j bf hp bu=>Fa λhl q=>?_;subst bf;let{h1,h2,h3,h4}:=bu;rw[bj,λu bH J=>?_];subst bH;cases J;calc aZ0 (bc,p,hp) (λt u v hg=>?_);calc PySem.call_list_range (n:=@qD) @ł hg @asc @alY @e λh' tk d c' kp e it=>?_;calc(zU,kp,(GL,_,(F?,?_)));.simp only[aw,nI];show dw hl (c9,100000<=bq)
 .let hsz:d.toList.length=@qD:=(fs,it.1);rw[<-hsz];calc aDo _ (λ(k:Nat)=>i+@ë) λa b e=>?_;let{t,ht}:=it.2 a b @IA;show{t,@JV}
 .simpa using e
def anh[a]:(s?,E_ K H @Ŀ @Hf):=by ext z_;cases z_ with|nil=>rw[ñ]|cons n ns M=>rw[ģ,@aa,M]
def shaped_ints[ā]:Uk (.list @Hf)=@o:=by cases ns with|nil=>rfl|cons n ns ih=>show ih
def ani:∀ns ms:@À,Ur @Hf (ms.map ajx)=(E,ns,ms)|[],[]=>@IB|[],_::_=>@IB|_::_,[]=>@IB|n::ns,m::ms=>by simp only[cT,Ur,Oz,ani ns ms];simp[Bool.beq_eq_decide_eq]
def aDr[bH]:Oz (.list (ns.map .int)) (.list (ms.map .int))=(E,ns,ms):=(u,Oz,ani)
def abj(p:@lx)[Ŭ][ī][cX]:(Mw,@Q)=@ahD++(fF,p x,f x):=by rw[J2,hx];simp only[EB,ajy,bF,mi,aXc];split<;>simp
def rB[Ř](p:@lx)(f:@iz)[O][bX][aM](ht:(Cc,z,tt (jz,@so) H' Q))(step:(xE,f z,@EN))(hd:(f4,(l.filter p).map f)):(y4,@uu,@uv,@ux):=by calc(EH,(ho,(ł,@ahD)),@EL);rintro i x H' hx⟨hs,hm⟩;rw[cQ,<-Á,hw _,@asT];let s3:=@Hv;let m3:=@Nx;cases hp:p z with|true=>rw[m8,(A2,s3,m3,@TP),(((l.take i).filter p).map f).length,dw (d,f_,@BP) hl,@ahE]|false=>rw[kE,@ahE]
def fg[s]{i:Int}(h:∃t,(gW,@kc))[Ą]:(np,@þ):=(CF,@þ)
def aDs[s]{i:au}(h:∃t,(gW,.str i t))[Ą]:(np,@R1):=(CF,@R1)
structure Glb[ņ]:@v where
 MOST_CARDS:(ô,"MOST_CARDS",52)
abbrev IL[bc][ā]:@v:=@JC
def ank(c ms:@À)(f:@L7)[cu](hl:(Ź,@ő))(he:(sx,@ő))[ě](U:(pu,c.map @é))(B:(uR,@od))(hw:@At)(step:∀(i:Nat)(x y:Int)(H':Hp)(Q:VK),(ai,c)->(bz,ms)->@bs->(kk,@ajn)->(t5,@I6,@I7))(hd:(f4,(c.zip ms).map @Fy)):@asV:=by
 let hz:(c.zip ms).length=@ő:=(ż,aiN);calc ab (o5,@ő-i,@ő,(Cd,i)) (oU,@ő) ?_;ext i m H;calc@Og;subst aW;rw[bQ,@ő];.apply(bg,bO _ _ (V.int c[i]) (V.int ms[i]) @lb @Hx {@nt,by simp[show i<ms.length by simp_all]},(vu,(Cd,@Q)),(vt,@ő),@oc);clear y;calc dF λT x y bf hT bu=>Fa λe1 e2=>?_;subst bf;subst bu;let e1:=e1 _ @lb;let e2:=e2 _ @Hx;let g1:(H,c,c[i]):=@k0;let g2:(H,ms,@E1):=@uF;rw[bB,g1]at e1;rw[bB,g2]at e2;cases e1;cases e2;rw[dv];simp only[ni,ku];let s2:=(d9,@ao!);rw[jj,@ao!];calc step i _ _ _ _ g1 g2 s2 (h7,O,@TR);rw[gz,(((c.zip ms).take i).map @Fy).length,(mL,f_)];.rw[aq,(fh,show(H,c.zip ms,(c[i],@E1))by rw[aY1];show⟨g1,g2⟩)]
 rw[oN,@ő,aU _ _ @lb @Hx (.inl @A)]
def  told[č]:Int:=@AM
def g_(r:eG):cg r=r.map told:=@d
def xU[č]:(di,@ũ,-@ũ,@ũ)=(v,@aZ):=by rw[bC];delta told;induction u<;>simp<;>omega
def aDt{c:dX}(h:@h1):(Ó,@ũ,0)=@aA:=by rw[bC];delta told;induction u<;>simp at h⊢<;>simp+arith[*]
def  i_[ì][h](m:au)[dz]:@v:=(vs,HY K C m f,@iX,@b1)
def kj{m:au}[ŕ]{o:cq}{ta:TE}{t:TA}{apos:dO}[ė](M:@atX)[ai][bF][eo][dW][fa]:(n_,@cd,[],E0,t):=(DH,aBu he c hm F hr hb @á Ij ha fB fo ht)
def  xV[ì][M][h][dz]:@v:=(vs,@ad9,(tK,@ck),@iX)
def CU[s][ŕ][dr](N:@atY)[Ň][ep][eD]:(Ds,[],E0):=(DI,aBw M F hr hg hm hb @á Ij ha j he fo)
def aDu[s][ŕ]{p:dO}(N:@atY)[Ň][dX][bG]:(Dk,[],E0):=(DI,aBx M F hr hg hm hb @á Ij j)
def abk(p:@abl)(f:@Ez->β)[ī][cX]:@afd=@afc++(fF,p (x,i),f (x,i)):=abj p f (hV,aW0,hx)
def QR[Ř](p:@abl)(f:@Ez->V)[cu][bX](U:@lL)(hw:@At)(ht:(Cc,(z,i),tt (qj,@Er,@so) H' Q))(step:(xE,f (z,i),(t5,@Er,@so)))(hd:(f4,(l.zipIdx.filter p).map f)):(wt,@asl,@asm,@atA,@aw2):=by
 let hz:l.zipIdx.length=@Ã:=OH;rw[â,(o5,@kb,@Ã,@afc),(oU,@Ã)];ext i m H;calc@Og;subst aW;rw[bQ,@Ã];.apply(bg,fM _ (c @eM) @lb @nt,(vu,@afd),(vt,@Ã),@oc);clear y;calc g9 λT x bf hT bu e1=>?_;subst bf;subst bu;let e1:=e1 _ @lb;let g1:(H,l,@eM):=@k0;rw[bB,g1]at e1;cases e1;let s2:=(d9,@Zm);rw[jj,@Zm,<-dv];calc ht i _ _ _ g1 s2 λH3 h3=>?_;let s3:=s2.trans h3;let m3:=h3 _ _ O;cases hp:p (l[i],i)with|true=>rw[m8,step i _ H3 _ g1 s3 (h7,m3,@TP),(((l.zipIdx.take i).filter p).map f).length,@v?,@aqv]|false=>rw[kE,@aqv]
 rw[oN,@Ã,ab _ @lb @A]
def  rC[Ù][Š][bA]:@v:=(a==qi)=@Å/\∃(o:bS)(vs:@pT),@qr/\@bQ/\∀h:cH,@jU->@awn
def  aDv:=@λ{I W p2 p3 p4}G j D B n r=>@id (@rC I W p2 p3 p4) ⟨G,j,D,B,n,r⟩
def QS[s][dp][dd](hs:QG i)[Ą]:PE X (eZ,@hl,i) (Lt,@asj):=by delta PE at*;ext pins s σ H Q I h;clear hk;calc@DW;calc(Mu,(IC,@asj,(sv,qA λy H2 I2 B k v=>cy λn l q2=>?_)));subst ex;rw[Ĝ];subst n;let U:=dd _ @OU;rw[Ì,U.typeIs,<-is,@aeH];show aYq @gu U.mapOf hw (Gu,@aw!)
def anl[s]{f:cq}{tx:TE}{p apos o8:dO}[el](he:(bW,ty))(hf:PE X f tx)(m:M2 X @hl "get" apos e f o8)[Ą]:(lx,.Call (gw,@hl,"get") [e,f] [] o8,(KB,@asn)):=by
 delta PE at*;ext pins s σ H Q I h;clear hk;calc@DW;calc wpAny_Call_method m.base m.few m.line a20 aY2 a21 (IC,@asn,?_);subst ex;rw[Ĝ];let j:=dd _ (O.kIn a o G);calc(Ø,j.typeIs,@Ho);.cases q;clear j;calc om λob _ _ h1 h2 _=>?_;show ab ob h1 h2.2.1
 rw[m.trees];calc(Ac,Uc (bY @asA λF s2=>cw λy H2 I2 B q2=>Uc (bY (hf @Æ s2 σ H2 _ I2 q2) λl s3=>Lg λz H3 I3 g k n q3=>aja ?_)));subst n;let i:=dd _ (I3.kIn a o G);show aY3 aY2 i.typeIs a22 (a23 _ _ _) (meets_dict_get_default @hB a @gu c l) (ab _ i.mapOf (aU _ H3 (I3.tok _) ((rel.val k).getD g) q3))
def aDw[Ů][s][dr][ai][ę][d3][bG][ff][fg][dW]:(hz,λσ H Q=>∃(f:aa)(fd:nY)(ps:@â)(sp:Sp),(H,σ,@Xh)/\@w2/\@am7/\@w1/\Qn sp [] E0 t σ H Q):=by delta PE PA at*;ext pins s σ H Q I h;clear h;calc i8 λf fd ps sp hi F=>cy λhk hb h=>?_;calc Ew (b7,(al0 S hv j kn).out @Æ s σ H (λv H1=>v=@ņ/\H1=H) I (Vo hi @Ű),g9 λv H1 O rv z D=>?_);subst z D;rw[jR,<-dU,hk,(nL,(Jj,s1,H1,O),λvs H2 I2 r q=>@X1)];show Qp F hr hb @á Ij I2 r q
def  anm(w:dc)(e:uO)(p:a_×V):@v:=(BS,e.key)/\e.hash=i7 w p.1/\RelV p.2 e.val
def ann[æ]:∀{es:List uO}{kvs:@ÿ},(z?,es)->∃vs:@pT,@bQ/\Pairs @dd es vs/\vs.map @ê=kvs.map @ê/\∀e∈es,∃k,(DR,e.key)/\e.hash=(jr P w).hash k
 |_,_,.nil=>(eR ([]) @á @á @d (λ_ q=>nomatch q))
 |e::es,p::kvs,.cons h t=>by
  calc O6 (ann (P:=P) t) (λvs a b c d=>?_);calc eR ((p.1,e.val)::vs) (.cons (Ì,@gU) a) (.cons @Tn @d b) (by simp[c]) (λF q=>?_);rcases eJ.mp q with q|q;.subst q;show ab p.1 @Tn @š
  .show d F q
def LG[Ñ][bg](hs:@BJ)(G:@qr)(hx:o.ExactDict)(hd:@dU)(hp:(z?,es.toList))(hn:(kvs.map @ê).Nodup):(dq,a,kvs):=by calc O6 (ann (P:=P) hp) (λvs x y z u=>?_);show aDv hs o vs G x (λh g=>cj _ es ep g hx hd (aM (λe q=>u e (aXJ.mpr q)) y (ct,z)))
def jW{f:au}(h:@Nk:=by as_aux_lemma=>k_is):@wg:=h
def aDx[w][ú]{aG:@ŀ}(G:@qr)(hc:@i6=@fu)(hd:@a1=@J1)(hz:@XW)(hv:@N?):∀H,@bV:=λ_=>.inr (cj o aG n G hc hd ⟨hz,hv⟩)
structure Ff[ņ]:@v where
 LETTERS:(pf,"LETTERS",.str "abcdefghijklmnopqrstuvwxyz" t)
 FIRST_LETTER:(ô,"FIRST_LETTER",97)
 FIRST_DIGIT:(ô,"FIRST_DIGIT",48)
 BLANK:(ô,"BLANK",32)
 LINE_END:(ô,"LINE_END",10)
 MOST_DIGITS:(ô,"MOST_DIGITS",13)
def  signs:@ÿ:=[(t',40,"("),(t',41,")"),(t',59,";")]
structure Dic[Ù][ġ](l:aa):@v where
 SIGNS:mg "SIGNS"=some @ē
 SIGNS_d:@and
def  rD[q]:@Ù:=(Ŷ,@Ú,13)&&@z7
def  cA[õ]:au:=if@gR then"word"else if@n_ then"number"else if@qP then"blank"else@atH
def aDy[õ]:(dv signs @X').getD (.str "wrong")=V.str @atH:=by
 delta dv signs;by_cases h1:b=40;.subst h1;rfl
 .by_cases h2:b=41;.subst h2;rfl
  .by_cases h3:b=59;.subst h3;rfl
   .rw[(@Ĺ),(@aQ),(@j6)];let e1:(u9,40):=λq=>h1 @tP;let e2:(u9,41):=λq=>h2 @tP;let e3:(u9,59):=λq=>h3 @tP;simp[e1,e2,e3]
def gU(a b:au):(bq,V.str a,V.str b,a,b):=(Ho,V.str.inj q)
abbrev BL[bc][q]:@v:=(cP,@Hz)
def  ju(k:au):@h->Nat|[]=>0|b::r=>(P,@ş,k,@y2,0)
def  bT[q](p:Nat):Nat:=if@ý="word"\/@ý="number"then@ģ+ju @ý @eg else@ģ
def anp(k:au):(aT,(h',@pG)):=by
 ext z_;cases z_ with
 |nil=>show@Â
 |cons b r M=>
  delta ju;split;.simpa using M
  .show@ð
def anq(k:au):∀(l:@h)(j:Nat),j<@pG->cA (eB,j)=k:=by
 ext z_;cases z_ with
 |nil=>ext j h;show by simp[ju]at h
 |cons b r M=>
  ext j h;delta ju at h;split at h;.next hb=>cases j with|zero=>show hb|succ j=>show M j @Ä
  .simp_all
def aDz(k:au):(mc,(aF,@pG)->cA (eB,@pG)≠k):=by
 ext z_;cases z_ with
 |nil=>ext h;show by simp[ju]at h
 |cons b r M=>
  ext h;by_cases hb:@ş=k
  .let e:@wC=@y2:=by simp[ju,hb]
   rw[e]at h⊢;show M @Ÿ
  .let e:@wC=0:=by simp[ju,hb]
   rw[e];show hb
def drop_getD[q](p j:Nat):(t.drop p).getD j 0=@X6:=(Ô,eY,eY,N0)
def LH[e](hi:i<@Ú):(İ,@Hz,@ú,(Ŋ,(gd,i))):=Ic (ds,bB,eY,@bH)
def  xW[q]:au:=⟨t.toArray⟩
def aDA{b:Nat}(h1:97<=b)(h2:b<123):(İ,@aaA,@ah4,b):=by rw[ę,@ah4,(o,b-97)];rw[e];calc Ic ?_;let key:∀j,j<26->(Ë,@aaA,97+j):=@ø;rw[key (b-97) @e];congr 1;simp[*]
def aDB[q]:Uo "" @HA=@vn:=by
 let key:∀t:@h,TL.LC [] (t.map @Q3)=t:=by ext t;cases t with|nil=>rfl|cons b t ih=>cases t with|nil=>rfl|cons c t=>exact[b]++([]++TL.LC [] ((c::t).map @Q3))=_;rw[ih];rfl
 let h:TL.tl (Uo "" @HA)=t:=by rw[TL.aCZ,TL.am7,b6];show key t
 let e:∀x:au,TL.tl x=t->x=@vn:=by ext x hx;cases x with|mk c=>let:c.toList=t:=hx;delta xW;rw[Ĕ]
 show e _ h
structure Pc where
 kind:au
 place:Nat
 spelt:@h
 word:au
 number:Nat
def  pf(kd:au)(pl:Nat)(sp:aa)(J:au)(nm:Nat):@Ŷ:=[("kind",.str kd),(ŝ,"place",pl),(aS,"spelt",sp),@zy,(ŝ,"number",nm)]
def  Fg[Û](p:aa)(x:Pc):@v:=∃dx sp,@ate/\@amk/\@Jc
def  abm:=@λ{I W p2 p3}G j D B r=>@id (@Fg I W p2 p3) ⟨G,j,D,B,r⟩
inductive Bb[Û]:@alR|nil:Bb C H [] []|cons{p x ps xs}:@anT->@qR->Bb C H @acO @it
def Bb.len[db](h:@qR):@KI:=@A_
def Bb.get[db](h:@qR)[dJ]:∃x,@au/\@anT:=@asu
def  spelt[aQ]:@h:=(t.drop p).take @J0
def  iI[aQ]:Pc:=let k:=@ý;let s:=@pB;{(P,k,"number",(mM,rD s,k),k),p,s,(P,k,"word",xW s,""),(P,k,"number",(V,rD s,rW s,0),0)}
def  ij[q]:(eH,@ŷ)|0,_=>[]|f+1,p=>(oz,@yI,f)
def Fh[q](p:Nat):p<@ĉ:=by delta bT;split<;>omega
def Im[cV]:@ĉ<=@Ú:=by
 delta bT;split;.let:=anp @ý @eg;rw[jC]at this;omega
 .omega
def aDC[q]:∀(f p:Nat),(h_,f+p)->(dp,@bJ)=@t2:=by ext z_;cases z_ with|zero=>ext p h;exact@ym=[];rw[ag @Ä]|succ f M=>ext p h;let hg:=Fh t p;exact(oz,_,@bJ)=(oz,_,f);rw[M @ĉ @e]
def anr[ň]{k:au}[eX](hp:@bD):@afR:=by ext x hx;delta spelt at hx;rw[gK];simp only[f_,jC]at hj;rw[avQ,avP];let e:t[p+j]'@e=@X6:=(aW,cJ);rw[e];rw[ov];cases j with|zero=>show hk|succ j=>let:=anq k @eg j @e;rw[gJ];rw[(g',p+@Ö,@lG)];show this
def  tokOf(x:Pc):OI:=(L8,@Qj,(ax,@ď,"number",@Gc,@ď,"(",@cD,(ax,@ď,")",@fR,@ď,";",@hu,@b7)))
def  xX:@ŷ->gK|[]=>[]|x::xs=>@z!
def QT[õ]:small b=(E,@ş,"word"):=by
 delta small cA;by_cases h:@gR;.rw[(@f0),(@ky),(@dh)]
 rw[o5,@eH]
def Io[õ]:Ek b=(E,@ş,"number"):=by
 delta Ek cA;by_cases h:@gR;.rw[(@f0),(@oW),dE @ø]
 .rw[ag h];rw[eP];.rw[(@gq),(@ky),(@dh)]
  rw[o5,@aQ]
def aDD{q:@Ė}{k:au}(U:@ar2):(aT,l.takeWhile q=l.take @pG):=by
 ext z_;cases z_ with
 |nil=>rw[Ø]
 |cons b r M=>
  rw[aY4,U];rw[bL,@ş]
  .let e:@wC=@y2:=by simp[ju,h]
   rw[e,(@eR),M];simp
  .let e:@wC=0:=by simp[ju,h]
   rw[e,(@hQ)];simp
def abn[cV]:@vm=@ha::@eg:=(ds,yO h,eY,cJ h)
def ant[ň]{k:au}(h:@bD)[eX]{q:@Ė}(U:@ar2):@akI=@a8/\@Oo=@lA/\(t.drop p).drop @Oo=t.drop @ĉ:=by
 rw[ov];let hr:ju k @vm=@gb+1:=by rw[abn h];exact(P,@ý,k,@gb+1,0)=_;rw[aj hk]
 let h_:=Im h;rw[Ŭ,<-É,@akI,@a8,by rw[aDD U,hr];delta spelt;congr 1;omega,<-È,@Oo,@lA,by rw[e1];delta spelt;rw[f_,jC];omega];calc(Ø,e1,e2);rw[e2,J9];congr 1;simp+arith[*]
def aDE[q](f:Nat)[ň](h:(h_,p)):@t2=[]:=by cases f with|zero=>rfl|succ f=>exact@ym=[];rw[av]
def aDF[q](f:Nat)[cV]:(dp,@bJ)=@yI++(dv,f):=(df,@ym,h)
def abo[ň](h1:¬@ý="word")(h2:(m4,@ý)):@NJ:=by delta bT;rw[ag (by ext z;rcases z with z|z;show h1 z;show h2 z)]
def aDG[q]:∀(f g p:Nat),@aba->@Ú<f+p->(h_,g+p)->Us f p @vm=xX (dp,g):=by
 ext z_;cases z_ with
 |zero=>ext g p _ h _;show@e
 |succ f M=>
  ext g p hp hf hg;rcases ft p t.length with bK|Br
  .obtain⟨g',rfl⟩:∃g',g=g'+1:=(aK,g-1);rw[Ŭ];let h_:=Im bK;let ih:=λ(e:bT t p<=t.length)=>M g' @ĉ e @e @e;rw[aDF t g' bK];generalize hc:@ha=c;let k:@vm=c::@eg:=(K,hc,abn bK);by_cases jz:c=32\/c=10
   .let hk:@bY="blank":=by delta cA;rw[(@aX),(@aX),aj jz]
    let he:@NJ:=abo @arl @arl;rw[(@r'),GF,he,k];delta Us;rw[aj jz,<-he,ih h_]
   .let l:¬@bY="blank":=by
     ext z;delta cA at z;repeat' split at z
     all_goals first|rw[Ò,z,@ø]|refine jz;assumption
    rw[ag l];exact _=(@hF,p)::(P,@hF,@b7,[],xX (dv,g'));let F:@xK=(P,@bY,"number",(mM,@j',@bY),@bY):=(kW,hc);let n:@yC=@a8:=rfl;let i:@qV=(P,@bY,"number",(yM,@Qf),0):=(kW,hc);by_cases hs:@bY="word"
    .rw[fh,ant bK @aeA @ì QT];let Ai:(m4,@bY):=(ko,hs);let a:@hF=.word @a8:=by delta tokOf;rw[F,ag Ai,aj hs,n]
     rw[g0];delta Us;rw[ag jz,aj (u,QT,bN hs)];dsimp only;rw[a,(@kw),<-ih h_];rw[r3,G,show p+@e_=@ĉ by rw[<-G,r2];omega]
    .by_cases hd:@bY="number"
     .rw[fh,ant bK @aez @bN Io];let C:(spelt t p @ĉ).getD 0 0=c:=by rw[<-G,k,aY4,Io,bN hd];rfl
      let gc:@e_=@lA:=(K,G,r2);let m:(13<@e_\/(c=48/\1<@e_))↔(fM,@j'):=by delta rD;rw[C,eZ,pk,cG,cG,cG];omega
      rw[g0];delta Us;rw[m',aj (u,Io,bN hd)];dsimp only;rw[r3,G];by_cases l:@W9;rw[m9,.num @Qf,by delta tokOf;rw[F,(@h!),aj l,ag hs,(@h!),i,(@h!),aj l],(ģ,m.1 z l),(Þ,p+@e_,@ĉ),<-kZ,by delta tokOf;rw[F,(@h!),ag l];rfl,aj (m.2 l)]
     .let he:@NJ:=abo @aeA @aez;let nE:@bY=(P,c,40,("(":au),(ax,c,41,(")":au),c,59,(";":au),@YP)):=by delta cA;rw[(ģ,(Bj,z)),(ģ,hd (by delta cA;rw[ag (λy=>(Bj,y)),aj z])),ag jz]
      rw[k];delta Us;rw[m',ag (LI,Io,hd)];let j:@xK=@bY:=(u,F,@uN);by_cases b:c=40\/c=41\/c=59;rw[m9,@oS,by delta tokOf;rw[j,nE];rcases b with z|z|z<;>subst z<;>rfl,aj b,he,<-kZ,by
       let d:@bY=@YP:=by rw[nE,(ģ,b (.inl z)),(ģ,b (l8,z)),(ģ,b (Ĕ,z))]
       delta tokOf;rw[j,d];rfl,ag b]
  rw[Ú,aDE t g Br,yP Br]
def anu[q]:@ax=xX @qK:=(d3,aDG t @W0 @Ú 0 @ð @C @C,pj)
def aDH[p]{ks:@cn}(h:sk H b ks)(ht:∀c ys,(ab,c,ys)->(Ĉ,c,@fK)):sk H' b ks:=let⟨ps,u,v⟩:=h;(alW ps @add @ap2)
def LI[dn]{ks:@cn}[á](e:sk H a ks):(Ce,ks,a):=by
 clear e;calc bj λps e all=>?_;rw[kD,@GV];calc(Ic,?_);let key:∀{ps:@Ë}{ks:@cn}{aG:@X},@anY->bG @Ķ aG->ItemsNest @dd h ks aG:=by ext ps ks aG q;induction q generalizing aG with|nil=>ext r;rw[At]at r;cases r;show@á|@cons p k ps ks hp t ih=>ext r;rw[cT]at r;induction r with|cons hv tv=>obtain rfl:=(show _=dk p from hv);show .cons (Ba ok hp) (ih tv)
 let:=key all r;simpa using this
abbrev KN[i]:(Å,@dM,@lJ):=(w8,@arL)
def KN.val[a][dy](k:@cn):@af4:=@atQ
def KN.new[a][dy](k:@cn)[aG](hb:@xp)[ä](hn:@pj):KN H @afj @asi:=by
 let e:(qW xs k)=@u:=by let:=mq.none_of (K,hn,r.val k);cases h:qW xs k with|none=>rfl|some p=>rw[ik,h]
 rw[storedH_new e];show@aoZ
def KN.keeps[p][dy](ht:@aqo):KN H' kvs xs:=(zE,aDH @Ā ht)
def LJ[dn]{kvs:@dM}[á](e:@px):(vJ,@yu,@R6):=by rw[kW,(wa,@jy)];calc@atS;rw[oc,@dM,@lJ,KN H l m,(Ce,x.1,@Œ),LI ok @ama];show@ap9
section
variable{pins:@Ç}{H:Hp}{s:aK}{kvs:@dM}{k:@cn}{v:V}{r:ai}
def abp(hu:@p9):(xG,@gZ):=hu
def aDI[I][cF][cC](l:@axZ)(h:@aqp):(yH,@î):=by rw[dp,<-o8,@aeH,@Oq,@Op]
def aDJ[I][cF][cC](h:(og,!@qk)):(Av,@î):=by rw[dp];calc aYu @Oq @Op hd dd ?_;let q:=@su;rw[Ez]at q;rw[<-q];show@Db
def aDK[ab][cF][cC](rv:@aer)(hn:@pj)(hl:@Jp)(h:(DZ,@arq)):(Da,@î):=by rw[dp,<-kT];calc(Fj,@Oq,@Op);clear j;calc dF @To;calc(EE,@ŝ,(rel.new k S rv hn).keeps @Tp);rw[aF (r_,e)];show ec
universe z
section
variable{o i value:cq}{vD Ae:dO}{td tv:TE}
def aDL[bd]{kvs:@dM}[d](g:@px):@af1:=by calc kO (LJ @Ŕ g) @Tq;show dd.typeIs
def anv[ak][aK](hs:QG i):(AE,(B0,∃a b kvs k v,(uH,@anq,H2,(ň,@fy,v,@tW)))):=by delta PE at*;ext pins s σ H Q I h;calc(Ev,λy H2 I2 B a b=>dF λkvs k v ex n g=>cy λd l q2=>?_);subst ex n;rw[Ĝ,<-gv];show{aDL I2 g,aDI hu I2 g d l λw' s3 I3 D=>(Gu,I3)}
def aDM[ak][cn]:(AM,(v1,∃a b kvs k,(uH,@anq,H2,Q (hK,@qk) H2))):=by delta PC PE at*;ext pins s σ H Q I h;calc(vM,λx H2 I2 J a b=>jt λkvs k ex n g d q2=>?_);subst ex n;rw[Ĝ,<-gv];show aDJ hu I2 g d λs3 I3=>oT @nj H2 I3 @d q2
def aDN[ak][aK](hv:@y7)(hs:@ahr):(AN,(ED,∃a b kvs k,(uH,H3 a=some @jy,H3,@pj/\@Ă<bq/\(c2,ah H3 a @arq)))):=by delta PS PE at*;ext pins s σ H D I h;calc(IG,λy H3 I3 B a b=>jt λkvs k ex n g d=>cy λl hl q3=>?_);subst ex n;rw[Ĝ,<-gv];show aDK hu I3 g d rv l hl (B',_)
def aDO[a][cE]:(oh,@ii):=@atM
def aDP{k v:cq}{tk e:TE}[ak][eW]:(Hp,(eF,@ii),(wp,sk H2 b ks,@ii,@anJ)):=by
 delta PE at*;ext pins s σ H Q I q;let hn:=I.hok.fresh @PL;rw[eJ,@Ò,@ii,@nT,@Ĝ,@ve,@Â,aDO @ä I.big];calc(Io,?_);rw[po,@atB];subst n;rw[jS];calc kO (LJ @ri hp) @TU;cases rel;rw[kw];delta ajz;apply(eb,(Ip,@ac9),@Gh)
 .rintro x rest r s'(⟨e1,e2⟩|⟨e1,_⟩);.injection e1 with e3 e4;subst e2 e3 e4;rw[nW,(xG,X.A),@pN,LI @ri d];calc@RN;clear j;calc dF @TV;calc(Iy,@anJ);let:=KN.new (H:=H2) (kvs:=[]) (xs:=[]) @á ks d g @d;show@aqw
  .cases e1
 rw[mN]
def anw{k v:cq}{tk e:TE}[ak][eW]:(Hp,@aaF,@asU):=by
 delta PE at*;ext pins s σ H Q I q;let hn:=I.hok.fresh @PL;rw[eJ,@Ò,@dr,@nT,@Ĝ,@ve,@Â,aCE @ä I.big];calc(Io,?_);rw[po,@atB];subst n;rw[jS];calc kO (QF @ri hp) @TU;cases rel;rw[kw];delta ajz;apply(eb,(Ip,@ac9),@Gh)
 .rintro x rest r s'(⟨e1,e2⟩|⟨e1,_⟩);.injection e1 with e3 e4;subst e2 e3 e4;rw[nW,(Es @hB).room X.A,@rh<jl,Ba @ri d];calc@RN;clear j;calc dF @TV;calc(Iy,@OG);let:=KT.put (H:=H2) (kvs:=[]) (xs:=[]) @á ks d g;show@aqw
  .cases e1
 rw[mN]
universe z
def  aDQ:@Ŏ:=(Fc,@wd)
def aDR:(na,aDQ):=by
 ext pins s σ H xs us Q I r h;clear h;rw[ë,@TW];subst aW;rw[bj,λu bf W=>?_];subst bf;cases W;calc kO (QF @Ŕ ha) @r8;let hT:=dd.typeIs;clear dd;calc dF λo es ep N hc j=>cy λhk hp hn=>?_;rw[lV,hk];let b:MeetsIn @Ğ X.w (Builtin.«dict.__len__» {@ch,[]}) (λ_ R s=>(dP,a)/\(t8,(hI,@Ă),@f2)):=by calc .of_wp λA R s=>Fa λN h=>?_;rw[ŋ,dictSize a];delta dictSize;rw[Q,bg (ajp N j @aK),<-ŋ,a24 a,<-Q,wpAny_pendingCount_other hd ?_];calc aXh ?_;rw[D_,c];show h
 calc Calls.call_function_entry PySem.kind_len PySem.plain_len PySem.entry_len (PySem.args_len1 _) ?_;delta Builtin.«len»;apply bg (m:=oneArg "len" _) @aK;calc bg (m:=callSpecial? @Î @Hp) (awY (name:=@Hp) hT aY9 (aY3 aY9 hT a25 (a26 _) b (À,N)));exact bn _ _ _ _ _ @f2;rw[aK,@aK,<-Q,OJ ?_,<-hQ,(o,@Ă)<0,<-av,<-hQ,(o,@Ă)>=@dA];rw[ag (by rw[Ot]at z;omega)];show bg (wpAny_mkInt (cO (R,oT @RY H @fm @c? q)))
def ixS[Â]:wG X (rIx K):=(bH,aBP)
def  Bc[Ċ][D]:@v:=(lm,(@wl\/(ab,l,@Ķ))/\@cY)
def  abq:=@λ{I W p2}G j r=>@id (@Bc I W p2) ⟨G,j,r⟩
def Mv.toS[ċ](m:@bT):@zQ:=let⟨ps,a,b⟩:=m;(abq ps (.inl a) b)
def Bc.same[cr][k](m:@zQ)[m]:Bc H' l h:=(ni,@eY,abq ps (a.elim (λz=>.inl @Yq) (λz=>.inr @Yq)) @vk)
def Bc.ix[ċ][e](m:@zQ)[ũ](q:∀p,@agA->Q @ã H):rIx K @ē (.int @ú) H Q:=by clear m;calc bj @eY;rw[nR];let M:(İ,@Ķ,@ú,@ã):=@agb;rcases a with a|a;rw[Ä,(e1,l,a,M,@aco),<-Ç,.inl (aBO l _ _ _ @d @d (cS.of a) M @aco)]
def QU[Â]:(DW,K):=(bH,aBW)
def aDS[ŝ][è](hn:(dj,n))[b!](hl:@MJ)(hs:∀i x σ H,(FV,@fs,@OK))[ac]:(on,@Bi,@Bj,@Br):=by
 subst hn;rw[ŏ,@ui];ext i m σ H;rw[Ü,@TN];subst aW;let q:=@uw;rw[Ō];.apply(kx,@as0,@ty);rw[dD];let{e,y}:=y;subst e;show hs i x σ _ @oA bK p
 rw[Ő,@Â,@oE]
def anz[ŝ][O](hn:(dj,n))[Œ](hl:@ahB)(hs:∀i x H,(FV,@dj,@an5))(hd:@ML):(iG,@Bi,@Bj,@Br):=by subst hn;rw[ŏ,@Oi];ext i m H;rw[Ü,λbf hi p=>?_];subst bf;let q:=@yN;rw[Ō,<-er,@as0,@Hm,hs i x _ @oA bK p,<-Ő,@Â,@qC]
def aDT[ŝ][è](he:@aeb)[b!](hl:(q_,@ace))(hs:∀i x y σ H T,@au->@wU->@fs->@io->(El,@Lz))[ac]:(on,@FG,@FH,@FI):=by
 rw[ŏ,@ui];ext i m σ H;calc cy λbu hi p=>?_;subst bu;let{q1,q2}:=@uw;rw[Ō];.apply(IN,@ty);clear y;calc dF λT x y bH hT cb=>@aiH;subst bH;subst cb;rw[dD];show hs i x y σ _ T @akJ @akK p hT
 rw[Ő,@as3,@oE]
def aDU[ŝ][O](he:@aeb)[Œ](hl:(Mt,@ace))(hs:∀i x y H T,@au->@wU->@dj->@io->g @tu @aG @Lz λI H2=>@us)(hd:@ML):(iG,@FG,@FH,@FI):=by
 rw[ŏ,@Oi];ext i m H;calc cy λcB hi p=>?_;subst cB;let{q1,q2}:=@yN;rw[Ō];.apply(IN,@Hm);clear y;calc dF λT x y cZ hT d_=>@aiH;subst cZ;subst d_;show hs i x y _ T @akJ @akK p hT
 rw[Ő,@as3,@qC]
def anA[ú][Ñ]{g:TG}[O][Œ](hl:∀i H,@YL->@dj->@acA)(hs:∀i k v H,@al0->@dj->g @cG @aG H λI H2=>@us)(hd:(q',@Ă)):(iG,(xT d o kvs).stop i H,(xT d o kvs).go i H,(wq,o,kvs)):=by
 rw[a!,λi m H=>m=@Ă-i/\@YL/\@dj,@Ă];ext i m H;calc cy λfz hi p=>?_;subst fz;let q:=@yN;rw[bQ,@Ă];.apply(kx,⟨q,bK⟩,λH' p'=>(pA,@Ă,p'));clear y;calc EZ λe k v hk ex=>?_;subst e ex;show hs i k v _ hk p
 rw[pA,@Ă,{q,@Â},@qC]
def aDV[s][dp][dd][Ą]:PC X .In i @hl (Gt,.bl @qk):=(I3,aYs @gu c @akL ?_)
def aDW[s][dp][dd][Ą]:PC X @mt i @hl (Gt,(hK,@qk)):=(I3,aYt @gu c @akL ?_)
def  abr[b]:R2:=(HO,ys,xs,@î,xs)
def  aDX:=@λ{I W p2 p3 p4}G j D B n z J F M N O r=>@id (@abr I W p2 p3 p4) ⟨G,j,D,B,n,z,J,F,M,N,O,r⟩
def anB[Â]:(nd,abr K):=by
 subst h;ext pins s σ H x y v u Q I J B h;clear h;calc i8 λa b xs ys aW bf=>jg λha hb hy hz q1 q2=>?_;subst aW;subst bf;by_cases hx:xs=[];.subst hx;cases J;cases B;rw[ko,<-km];cases G;calc(hL,W,λbu N hc n hd=>?_);let{cls,dd,data,D}:=bu;calc(hL,p2,λbH jL dB n2 qL=>?_);let{S,U,ajd,O}:=bH;simp only at hc hd dB qL;subst hc hd dB qL;show(o!,tuple_addW0 a b _ @g2 n n2 dd U D O @g?,LK N jL @î H I @d @S7)
 .show aBM @Æ s σ H @Î @î v u Q I J B (aBL a b xs ys @d @d ha hb hx hz (rp,hy) (λ_=>q2 hx))
def aDY{prog:dz}[S][af][I][Ń](hl:(Lu,l))(hi:@abz)(h:@ash):@aq?:=(IM,a27 hh hl @Tc)
def aDZ[É][Â]:(bv,"sum",(vq,(Ű,a,@Ŀ),@ab3)):=by subst h;ext pins s σ H vs us Q I r h;clear h;calc cw λa ns cb hs q=>?_;subst cb;rw[ü,hs,λaG rv ht _=>?_,<-Ł];show aDY @ł ht rv.ints λh' tk t' hk=>oT @nQ H (I.kept hk) @c? q
def aD0(l:aa)[dY][c](b:aa)(items2:@ŀ)(n2:Nat)(U:@aP)(O:@gs)(C:¬(Ģ,! items.isEmpty,Oy (@į+@g0)))(k:@Jb)(gd:@į+@g0<=bq+1):ajc (Builtin.«list.extend» @Nh) (λ_ R s=>(ń,l,(sd,@tS))/\@jm=some @arR/\(t8,AF,(sY,l,qk λx=>x++@d7,@Ĝ))):=(xr,by rw[aG];clear h;rw[Ü,@o2];let f1:=a28;let f2:=aXT;let M:=aY_;let j:=a29;let G:=a2_;let j9:(@œ++@d7).size<=bq+1:=(d,Array.size_append,gd);wp_walk using(Ko hl @d (hz:=k) (_hz':=j9)),vZ hl,vZ hb;show(R,h))
def anC[Â]:(zl,(Fh,(kG,zs))):=by subst h;ext pins s σ H x vs v us Q I J rv h;clear h;calc i8 λl b xs zs cB cZ=>@Hi;subst cB;subst cZ;cases J;rw[b4,λu d_ W=>?_];subst d_;cases W;calc(kc,M,@auo);rw[f5,b,zs,b,G,λz2 j r2 o2 e2 dB=>Fe λn2 qL=>?_];let nu:=r2.length;rw[md,<-nw];let{S,U,ajd,O}:=o2;simp only at dB qL;subst dB qL;calc G3 aX9 @jX aX_ (aYa _ _) (aD0 l @ò n b @g2 n2 U O N @iF @e) @agC;calc(oO,aG++j,@He);rw[eM];simp_all
def  aD1:@Ŏ:=(vo,@ÿ,@iv,(lN,@aq))
def aD2:(tQ,"dict",aD1):=by
 ext pins s σ H xs us Q I r h;clear h;rw[ë,λa kvs fz ha q=>?_];subst fz;rw[Ł,<-iK,<-dh];calc kt_call_dict hd dd hz @aw7;calc(hx,(LV,@aq,@Sl,amW z ?_ rel j),@os);.let hb:b≠@Ò:=@oZ;rw[hs.2 b hb];show@cu
 .show(Ku,I.big)
def  aD3:@Ŏ:=(vo,@ÿ,@iv,(nj,@Hn))
def anD[É]:(m6,aD3):=by
 ext pins s σ H xs us Q I r h;clear h;calc cw λa kvs jM ha q=>?_;subst jM;rw[Ł,<-iK,<-dh];calc alR (id dd) (xH,λnE dG dJ=>?_);let b:(Fm,a):=(c_ o es N kn n nE ⟨dG,dJ⟩);calc aZa (a3a (ep:=ep) hd) @ł b hz @HB;apply(hx,(Gf,@Hn,(F?,(dO,z))),@os)
 .let key:∀{kvs:@ÿ}{vs:@pT}(ws:@X),@bQ->@d9=@bm->(Cb,ws,∃k x,(Ë,vs,(k,x))/\(nu,v))->bG @Hn ws:=by
   ext kvs vs ws rel;delta KV at rel;induction rel generalizing ws with
   |nil=>ext hl _;rw[ab,ws,@gz];subst this;show@á
   |@cons p q ps G U t ih=>
    ext hl hh;cases ws with
    |nil=>simp at hl
    |cons w ws=>
     calc jH (hh 0 w @d) (λk x e1 e2=>?_);let e3:q=(k,x):=by simpa using e1
     calc .cons ?_ (ih ws @gz λj v e=>hh @Ö v e);exact(BS,w);rw[U.1,e3];show am1 e2
  show key @mA rel (d,AI,g.1) λj v e=>g.2 j v (K,G4,e)
 .simpa using hD
def  hX[t]:@ß->@ß|[]=>[]|[a]=>[a]|a::_::r=>a::hX r
def abt[t]:∀(xs:@ß),((bP ((@Ï+1)/2)).filterMap λk=>xs[2*k]?)=hX xs|[]=>@WR|[a]=>@WR|a::b::r=>by let ih:=abt r;let e:(@yd+1)/2=(r.length+1)/2+1:=(tA,eE,eE);rw[e,TF,ai3,aw1];exact a::_=a::hX r;congr 1
def aD4[dY]:(vv,@œ,@u)=hX @mo:=by let hb:(GH,@u,(0,@hX,2)):=rfl;delta Km;rw[hb];rw[nz,0,@ac6,2*k,by delta ajA;dsimp only;rw[aj @Ó];rw[n2,@a3<@hX,@hX-0,@ac6,<-Ã,<-Î];ext k _;omega];rw[hr,aw1];let:=abt @mo;rw[AI]at this;rw[Ĕ];simp only[ajs];congr 1;funext k;simp
def aD5[dY]:(vv,@œ,@FS)=hX items.toList.tail:=by
 let hb:(GH,@FS,(@Xw,@hX,2)):=by delta B9;simp only[aWU];congr 1;split<;>omega
 delta Km;rw[hb];rw[nz,@Xw,@Je,1+2*k,by delta ajA;dsimp only;rw[aj @Ó];rw[n2,(o,@E6)<@hX,@hX-(o,@E6),@Je,<-Ã,<-Î];ext k hk;let:=kt.1 hk;omega(config:={})];rw[hr,aw1];let:=abt items.toList.tail;rw[aw2,AI,(Þ,(@į-1+1)/2,@Je)]at this;rw[Ĕ];simp only[ajs];congr 1;funext k;simp[Ar]
def abu[e9]:(fP,hX @oQ=(hX l).map f)|[]=>rfl|[a]=>rfl|a::b::r=>(f1,f a::hX @Pu,f a::(hX r).map f,abu f r)
def abv[t]:(fP,(h',(hX l).length))|[]=>@Â|[a]=>@Â|a::b::r=>by let:=abv r;exact(tm,r)<=@WY+1;omega
def bG.evens[dB]:bG (hX xs) (hX us):=by induction h with|nil=>rw[ñ]|cons h t=>induction t with|nil=>rw[ģ,h,@á]|cons _ t=>rw[ģ,h,bG.evens t]
def bG.tail[dC]:bG xs.tail us.tail:=by cases r with|nil=>rw[ñ]|cons _ t=>show t
def  abw[b][Ė](g:@ahX):TE:=(xc,(Ab,(q8,@FW)))
def anE{lo st:cq}{c:@Gf}{l:@db}{g:@ahX}(hg:∀(xs:@P)(us:@X),@Ų->bG @FW (vv,@mz,l))(J:∀xs,(h!,(g xs).length))[È](hl:PO X c (fS,l))(hs:PO X @FT (fS,@sn)):(se,c,@u,@FT,abw X.K te g):=by delta PE at*;ext pins s σ H Q I h;calc ajf (tR,qA λx H1 O G a xs=>cy λex hx q1=>?_);subst ex;obtain rfl:v=@fo:=G;calc(xu,hl @Æ s1 σ H1 (λo H2=>o=l/\H2=H1) O @Ű,g9 λo2 H2 I2 pl e2 D=>?_);subst e2 D;rw[awD];calc cO (bY (hs @Æ s2 σ _ (λo H3=>o=some 2/\H3=H2) I2 @Ű) λvs s3=>g9 λM H3 I3 ps e3 D=>?_);subst e3 D;rw[jJ,(gA,H3,(K_,@Ť,vs)),<-Æ,I4.list hx,@S9];let b_:=r.length;calc awF (ops:=[@Î,@GP]) ht.isList.typeIs awK.lookup ?_ @nY;calc(HS,aX0 ..,@Ť,ps);calc oT @kF _ (I4.laid (t':=s3.toks) (o:=.lst @FW) @CW @Â ?_) @d (q1 _ (I4.hok.fresh @Â));let:=J xs;calc mr @e _ 0 (hg xs aG r) ?_;simp only[Array.toArray_toList];show@ad
def aD6{p3:dO}{k3:Nat}[es]:(HI,@u,hX):=by subst h;calc(G6,@u,abv,xO);rw[Â,aD4,bG.evens @WS];.show(pb,2)
def aD7{p3 p4:dO}{k3 k4:Nat}[es]:(HI,some (.Constant @rX k4 p4),λxs=>hX xs.tail):=by
 subst h;calc(G6,@FS,λxs=>dw (abv _) (ż,aw2),@aw?);rw[Â,aD5,bG.evens (bG.tail @WS)];.show(pb,1)
 .show(pb,2)
section
variable{prog:dz}
def aD8[Ń](I d:aa)(aQ:d≠I)[bg](j:@dU):Walks @ţ w A I [I,d] [I] @d' @as6 (λi h=>(v4,I,@d')/\@vT)where
 sub:=λb hb=>by simp at hb;simp[hb]
 frame:=λ_ _ _ st hk=>{st.1.at λo e=>hk I @A o e,hk d @A _ st.2}
 item:=λi s Q E hi st hQ=>by
  let hx:(H,es,es[i]):=by simp[hi]
  calc am0 st.1 st.2 j @d hx λh' D Aj=>?_;show hQ _ h' @Ĝ (bU,hx) {D,(Aj.2 d aQ).trans st.2} λb o hb e=>(Aj.2 b @ah8).trans e
 done:=λs Q E st hQ=>abb hh st.1 st.2 j @d @Â λh' Bq=>hQ h' @Ĝ λb o hb e=>Bq b o @ah8 e
 self:=λ_ _ _ _ st hQ=>aYO st.1 hQ
def aD9[bg](lo:@aa')[er]:a3b @ţ w "dict" d d @d' @as6 (λh=>@vT)where
 type:=λ_ hm=>@amS
 there:=λ_ hm=>{@GX,@GX}
 keep:=λ_ _ hm hk=>hk d @ì o hm
 notList:=@Ó
 notTuple:=@Ó
 hint:=λ_ _ _ _ hm U=>a3c @amS U
 iter:=λ_ _ hh hm=>aU _ _ (λ_ _ U=>aba lo hm hc j U) (aD8 hh _ d (jD @GX) j) {@gg,iX _ hm}
universe z
def aD_:∀xs:@e5,bG @akM @abT:=by ext z_;cases z_ with|nil=>rw[ñ]|cons y ys M=>rw[ģ,@d,M]
def aEa[ev]:Paired @ayX @abS kvs:=by cases r with|nil=>rw[ñ]|@cons p q ps G U t ih=>rw[Ż,U.2.1]
def  aEb:@Ŏ:=(vo,@ź,@wd,∀(p:aa)(ps:@Ë),@a7->(zi,kvs)->Q @ã (cd,@Ķ))
def aEc[É]:(m6,aEb):=by
 ext pins s σ H xs us Q I r h;clear h;calc cw @TW;subst aW;rw[Ł,<-kj,ha];clear dd;calc dF (xH,λnE _ dJ=>?_);rw[lV,nE];let qa:(rl,@Ă):=(Paired.length rel).symm;calc aZa (aD9 hd kn n) @ł N @C @HB;let e:@mA=@abT:=by
  refine TH;ext j;rcases ft j es.size with hj|hj;.let b:j<d.toList.length:=@afi;rw[x,g.2 j (@mA)[j] @agI,λW e1 e2=>?_];rw[cJ b,<-e2,bB];let e3:(Ë,es.toList,W):=(d,G4,e1);rw[nE,bB]at e3;cases e4:xs[j]? with|none=>rw[e4]at e3;cases e3|some y=>rw[e4]at e3;let e5:awd (Es @hB) y=W:=cM e3;rw[<-e5];rfl
  .rw[qg @afi,qg (c?,aw)]
 calc(hx,(Gf,@akM,(Gs,by rw[aw,aw,qa];show z)),q _ @abS @df ?_);rw[Ē,aD_ xs];.show aEa rel
section
variable{prog:dz}{s:aK}
def aEd{r:aa}{Q:@vZ}(hT:s.TypeIs @m9 "list_reverseiterator")(h:Q @Å s):(Ă,aZb @m9):=by delta aZb;calc bg (HT,@Hp,@u);wp_delta;calc@Ny;calc@Ny;rw[Q,(HT,AJ "__length_hint__",(Km,"list_reverseiterator.__length_hint__"))];generalize a:("list_reverseiterator.__length_hint__":String)=c;wp_delta;rw[show splitId c=some ("list_reverseiterator","__length_hint__")from by subst a;decide+kernel];rw[ka,"list_reverseiterator",hT,by rw[isSubtype_type];kernel_rfl];calc@Ny;subst a;calc OK @bw (λd=>absurd @ø d);calc(KR,absurd d @ø);show cO h
def aEe{I S:aa}{items:@ŀ}{R:@v0}[Ń](B:@aqx)[eY](y:S≠I)(a:S≠l)(res:ai)(r:Nat)(hS:(ń,S,(uz,r)))(hR:(HU,∀b o,b≠S->b≠I->@cx->@ok,h'.get? S,(t8,res,@kg)))(hn:@Jb):bn (bV @ţ w) @gZ (ajB @ib @oY res) (λfin s'=>match fin with|.done f=>R (.ok f) s'|.again c'=>c'.quiet=@o/\(nZ,c',s')) @auu s:=by
 let j:S∉[I,l]:=by simp only[eJ,uJ,or_false,not_or];show⟨y,a⟩
 let W:=Walks.listRev (prog:=@ţ) (w:=w) (A:=@gZ) hh I l aQ @œ;let key:∀(p tk:Nat)(h:cH),(nw,S,@fn)->h.get? S=some (uz,p)->(nZ,.builtin "list.extend.loop" ⟨[@ib,@oY,res],[]⟩,{s with heap:=h,toks:=tk}):=by
  ext p tk h hk c;let fB:0<=@į/\h.IsRevIter I l (@axM-(o,0))/\h.IsList l @œ:=(aM @ð (fs,B.at λo e=>hk I o y.symm e) (hl.at λo e=>hk l o @rj e));calc codeAny_extend_loopS W.toS hn S j res @į 0 _ #[] p @d @ð fB c (a3d _) λs' d c' hm C g=>?_;rw[Moved.eq_with hm];calc hR @c3 s'.toks d c' (λb o hb k e=>hm.heap b o @Tg (hk b o hb e)) C g;rcases eJ.mp iB with F|iB;.show hb F
  .show k (dt.mp iB)
 delta ajB;rw[Q,wpAny_typeOf (T:="list_reverseiterator") B.typeIs ?_];let h1:(A,aZe @ib @oY):=by simp[aZe,y]
 simp only[h1,show(AH "list_reverseiterator"==AH "list")=false from by decide,show(AH "list_reverseiterator"==AH "tuple")=false from by decide,aX3,qh,nR];rw[Q,awW B ?_,<-aK,aEd B.typeIs ?_];calc OK @bw (λ_=>cO {G9 aZf _,key r _ _ (λb o _ e=>e) hS});rw[Q,T4 ?_,<-Þ,<-ĺ,Ut S (λx_=>x_.push @Ť)>>=λx_=>Ut S (λx_=>x_.pop),<-j?];let n:=Ui (s8,x_.push AF) hS @d;calc Ko (hz:=by seq_fits) n @d ?_;let m:=Ui (s8,x_.pop) n @d;calc cO {G9 aZf _,key _ _ _ (λb o hb e=>?_) m};show(n0,(n0,e))
def aEf{I:aa}[e4][Ń](B:@aqx)[eY](hn:@Jb)(hQ:(HU,(nw,I,@hf),@R!,Q @Ū @kg)):(Ă,call @m4 [@oY]):=by
 calc callType_codes (Q₁:=λobj j=>obj=@Ū/\j=(mp,@nF)) a3e (a3f _) a3g (code_list_new _ @Ű) λobj j F=>?_;let{rfl,rfl}:=F;let hS:(x?,@nF,@nF):=@ad;let h:(br,I):=let⟨_,e,_⟩:=B;@Ľ;let f:@Ks:=let⟨_,e,_⟩:=hl;@Ľ;calc(Ø,(bU,hS),a3h _ _);rw[ĺ,do
  let old<-aZg (.ref s.heap.objs.size);
  a3i (.ref s.heap.objs.size) (λ_=>#[]);
  letGo old.toList.reverse;
  ajB (.ref s.heap.objs.size) (.ref I) .none];rw[Þ];delta aZg;rw[Q,Oi hS @d @aK,<-ĺ,Ut @Ò @PO>>=λ_=>letGo (#[]:@ŀ).toList.reverse>>=λ_=>ajB @Ū @oY @Ť,<-j?];let n:=Ui @Ck hS @d;let a:(nw,@Ò,(Fp,b)):=λb o hb e=>(n0,@cu);rw[Q,OJ ?_];let p:=B.at (h':=@Au) λo e=>a I o (jD h) e;let nu:=hl.at (h':=@Au) λo e=>a l o (jD f) e;obtain⟨c2,m⟩:∃c,(Fp,@Ò)=some (uz,c):={_,n};calc aEe (prog:=@ţ) (w:=w) (s:={s with heap:=@Au}) (A:=@gZ) (l:=l) (items:=@œ) hh p nu aQ (Gv h) (Gv f) @Ť c2 m (λh' tk d c' hk C g=>?_) hn;show(Ì,hQ h' tk d c' (λb o k e=>hk b o @oZ k (a b o @oZ e)) C g)
universe z
def aEg{items:@X}{acc:@ŀ}(h:(Mx,items.toArray,items.toArray.size,acc,items.toArray.size)):acc.toList=items.reverse:=by
 rw[bD];let h1:acc.size=items.length:=(yW,gB);refine TH;ext j;rcases ft j items.length with hj|hj;.let b:j<acc.toList.length:=@afh;let:=h2 j acc.toList[j] @agI;rw[cJ b,Gu hj];simpa using this.symm
 .rw[qg @afh,qg (tq,lK)]
def bG.reverse:(vp,@Ų->bG @rk us.reverse)|_,_,.nil=>@á|_,_,.cons h t=>(Ç,mQ,mQ,bG.append (bG.reverse t) (cf,h))
def abx{W q1 q2:dO}[É](r:(fl,"list"))(m:@abZ)[È](J:@aj:=by rfl)(i:Gl X "list":=by rfl)(c:@Zr:=by rfl)[bL](gd:(kg,[@FF],@X_):=by rfl):(lx,.Call (.Name "list" W) [@FF] [] q1,(k3,(Ab,@MF))):=by
 subst J;rw[nv];delta PE PA at*;ext pins s σ H Q I h;calc Ew (zI I i r B_ ?_);calc GS ?_ gd @d;let inner:(ao,@X_,λu s2=>∃(s1:aK)(H1:Hp)(a:aa)(xs:@P),(lJ,s1)/\@ars/\@MF/\u=@awQ/\s2={s1 with heap:=s1.heap.push @akN}):=by calc Ew (zI I c m amX ?_);calc GS (IW,q2,match vs with|[x]=>∃a xs,x=@jS/\@ars/\@MF|_=>False) hs @d;.match vs,G,q1 with|[x],G,⟨a,xs,e1,U,q⟩=>subst e1;rw[bG.ref1 G];calc bW (O.list U) @nB;let hl:=rv.length;rw[mj];calc(xA,?_);rw[fB];show bO s1 H1 a xs O U (Ũ,q,@d)
 calc Uc (gJ,inner,i8 λs1 H1 a xs O U=>cy λq f es=>aja ?_);subst f es;rw[f6];let hl:=rv.length;rw[mj];let bK:@aaj:=@T0;calc aEf (l:=a) (items:=@ò) (O.ok.hd hc) (tp,@gg) (xI,@cu) @vf @iF @HB;let hsz:(s1.heap.push @akN).objs.size=@Ļ+1:=by simp[Heap.push]
 calc oT @kF _ (O.laid (t':=tk) (o:=.lst @rk) (λb o e=>hk b o @oZ @cu) @aah (Gs,(c?,lK))) @d (q _ (O.hok.fresh @aah));rw[aEg g];show bG.reverse rv
section
variable{k:Nat}{ps:@â}
def anF[bd][aY]{E':@É}(F:@w2)(hr:@iB)(M:A.frames=X.A.frames)(hb:@w1)[al](r:@f')(h:sp vs H Q E0):(pp,call @ņ us,@rJ,E'):=by rw[cd,@gY,(K,r.length,(oX,h))];let e0:(IA,A):=let e:=I.env0;{M.trans e.frames,e.mod,e.bs,e.bsz,e.funs,e.frf,e.hok,e.bare};let j:=(Ff,@gz);simp only[iO]at j;calc awt (xq,F.run A @bk s H @jz us vs Q E0 hr e0 j r h);cases r with|error e=>show oI U|ok O=>rw[oy]
structure QV[l](sp:Sp)[i][T](m:@am0)(lt:@Kp):@v where
 keep:∀{H1 H2 i v},@f_->m H1 i v->@an0
 turn:∀i x H1,@au->@ō->∀Q:VK,(∀H2 v,@f_->@an0->@tW)->sp [x] H1 Q E0
 cmp:∀{pins:@Ç}{σ:_L.St}{H1:Hp}{s1:aK}{i j:Nat}{vi vj:V}{ui uj:ai}{Q:@É}{E':@É},(lJ,s1)->m H1 i vi->m H1 j vj->RelV vi ui->RelV vj uj->Q (.bool (lt i j)) s1->bn @ei @mu (ih,ui,uj) Q E' s1
 trans:∀a b c,lt a b=@o->lt b c=@o->lt a c=@o
 irr:∀a,(A,lt a a)
def anG{pins j:@Ç}[a][S](I:(LK,j,H,s)):@lV:=(s3,(eV,(bb,@axG)))
def aEh[d9]{It S:aa}[w]{m:@am0}{lt:@Kp}(F:@w2)[Ň][eU](hl:@ex)(y:S≠It)(M5:l≠It)(hQ:@aqy):∀(r j i:Nat)(s:aK)(H1:Hp)(vb:ai)(R:ai)(D:V)(U:V)(c:Nat),@Ï-@Ö=r->(h!,@Ö)->(lJ,s)->@ō->(aA,H1,S)->(aA,H1,It)->(ń,S,@AH)->s.heap.IsListIter It l @Ö->(H,xs,U)->RelV U vb->m H1 i D->RelV D R->@gH->(∀n,n<=j->(A,lt n i))->B7 @ei X.A (.builtin "min.loop" ⟨[@GO,@ņ,@ib],[]⟩) (λr s'=>match r with|.ok (.ret v)=>(k4,v)|.ok _=>False|.error e=>@akc) s:=by
 rw[oA,<-jT];ext r;cases r with
 |zero=>ext j i s H1 vb R D U c N hj I hs h d T hit hxi rxi BC afW E DF;let dM:(dj,@Ö):=@e;calc bW (I.list (rz,@ZQ)) @nB;let b_:=rv.length;rw[d7,It,<-dA];calc@Or;rw[Uv Kq _];rw[ĳ,aw5 @ib,<-di,<-fF,@GO,<-Q,OL (W.done _ _ _ {(kn,hsz,dM,hit),@i?} λh' G jw=>?_),<-o!,<-dW];let s1:=Um h' S (qk @aut);rw[ĳ,Ut S @PO,<-Þ];calc Ko C @d (bg @TX);let I2:=O.turned (t':=G) @OZ h.1 @š h.2.2.2.1 h.2.2.2.2.1 h.2.2.2.2.2;show oT U H1 I2 rxi (hQ i U H1 hxi (λn g=>@Os) hs)
 |succ r ih=>
  ext j i s H1 vb R D U c N hj I hs h d T hit hxi rxi BC afW E DF;let bK:@Ö<@Ï:=@e;rw[é,(rz,@ZQ),@nB];let b_:=rv.length;rw[d7,It,<-dA];calc@Or;rw[Uv Kq _];rw[ĳ,aw5 @ib,<-di,<-fF,@GO,<-n!,@Ö,bK,{hit,@i?},<-jU,(Æ,aG,@Ö,v)];let hxj:(Æ,xs,@Ö,xs[@Ö]):=@k0;let rj:RelV xs[@Ö] v:=(H3,hxj);rw[kl,<-o!,<-dW,<-pr,(S,@AH),It,H1,<-lz,<-px,rj,@Ö,H1,hxj,hs,@f_/\m H2 @Ö v2];clear he;calc g9 @T2;let I2:=anG FW;let J:=FW.pin (S,@AH) @kR;rw[jV,It,<-l7,<-mk,It];let aMs:s2.heap.IsListIter It l (@Ö+1):=(bC P pI.1 FQ jx);let gd:=hs.trans gw;rw[ĳ,tryCatch (zg [v,x] ((ih,x,R)>>=_)) _,<-Q,OL (AG (bg (M.cmp I2 k2 @akO r2 afW ?_)))];calc bg (AG @GS);rw[Q,@TX];cases ip:lt (j+1) i with
  |true=>rw[lm,<-oB];simp only[ku];rw[Þ];calc Ko J.1 @d @RM;rw[M6];rw[pb];calc cO {G9 Kq _,ih @Ö @Ö _ H2 v x v2 _ c2 @e bK I3 gd t SH dB (EB,It) hxj rj k2 r2 @Â @T1};by_cases e:n=@Ö;rw[Đ,M.irr _];.let h1:=@Os;cases h2:lt n (j+1)with|false=>rfl|true=>rw[M.trans n @Ö i h2 ip]at h1;cases h1
  |false=>simp only[qh,nR];calc@RM;rw[M6];calc cO {G9 Kq _,ih @Ö i _ H2 vb R D U c @e bK I2 gd t SH J.1 aMs hxi rxi @akO afW @e @T1};by_cases e:n=@Ö;rw[Đ,ip];.show@Os
universe z
def aEi[dk][b3](hsz:@aft)[r]:∀(i:Nat)(ns ms:@À),@į-i=k->i<=@į->uN (items.toList.drop i) ns->uN (items2.toList.drop i) ms->(Ik,Builtin.«list.__eq__.loop» ⟨[@ē,@î,GR i,GR 0],[]⟩):=by
 cases k with
 |zero=>ext i ns ms hk hi hv hw prog w A R s h;rw[aG];clear h;rw[Ü,@o2,<-a3];let o:(@œ)[@wn]?=@u:=@ŝ;let J:(@d7)[@wn]?=@u:=@cX;rw[yP @ŝ]at hv hw;cases hv;cases hw;rw[o,J];rw[a3];exact(q5,(Ó,@į,@g0),_);rw[hsz,dE @fJ];show h
 |succ k ih=>
  ext i ns ms hk hi hv hw prog w A R s h;rw[aG];clear h;calc cy @o2;rw[a3];let bK:i<@į:=@e;let f:i<@g0:=@Ä;let o:(Æ,@œ,@wn,@YH):=@nt;let J:(Æ,@d7,@wn,@YI):=by simp[f]
  let hc:@vI=@sT:=by push_cast;rfl
  rw[yO (by simpa using bK)]at hv;rw[yO (by simpa using f)]at hw;generalize hx:(@mo)[i]'(by simpa using bK)=x at hv;generalize hy:items2.toList[i]'(by simpa using f)=y at hw;let C:@YH=x:=(fz,hx);let S:@YI=y:=(fz,hy);induction hv with|cons a t F=>induction hw with|cons c u j=>rw[HT.Ia]at h;rw[o,J,C,S];rw[x,(G7,@gZ,⟨hp,g,d,tk,os⟩),@T3,<-Q,he @ţ w _ _ ?_];induction e with|true=>rw[ô,@T4];wp_walk;rw[hc];show(Ga,ih @Q _ _ @e @e F j @ţ w A R _ @aoR)|false=>rw[ě,@aiZ];let z:=HT.aaP @gZ @Bk a t c u @ţ w;rw[a3];rw[o,J,C,S];wp_walk using z;show h
def aEj[dk][b3](hsz:@aft)[bH](hv:@K6)(hw:@M9):(Ik,Builtin.«list.__lt__» @Nh):=by ext prog w A R s h;rw[aG];clear h;rw[Ü,@o2];let M:=aY_;rw[a3];all_goals show(Ga,aEi l b @œ @d7 n n2 dd U D O hsz _ 0 ns ms @d @ð @pf @sd @ţ w A R _ @aoR)
section
variable{pins:@Ç}{H:Hp}{s:aK}
def aEk{ms:@À}[I][al](ha:@qs)(hb:(ã,b,@od))(hl:(sx,@ó))[bz](h:@acD):(aM,(ih,@Î,@î)):=by calc E3 (show gE @Ğ X.w H @ä a (.lst @Ŀ)from(bc,a,ha)) (λ_ aG n r e=>?_);calc E3 (hD,b,.lst @od,b,hb) (λ_ j n2 r2 e2=>?_);let l1:=r.length;let l2:=r2.length;rw[aw]at l1 l2;show aXU (op:=.Lt) @jX (bU,e2) a3j a3k (a3l _ _) (aEj a b @ò @g2 n n2 @u @u #[] #[] @ŝ ns ms (intsAre_of r) (intsAre_of r2)) (aM e e2 (GM,@tf,@acD)) hu
def  tZ(a c:Int)[bH]:@Ù:=(P,a,c,@tf,@agx)
def aEl{P:(Ķ,aZj)}[eC]{t u:Tok}{ms:@À}{o1 o2:bS}{n1 n2:Nat}[bz](h1:(ń,x,o1))(c1:o1.cls=@fu)(d1:o1.data=.seq #[@pt,@ã] n1)(h2:(ń,y,o2))(c2:o2.cls=@fu)(d2:o2.data=.seq #[@pM,@ĥ] n2)[al](hp:@adS)(U:@acH)(h:(sV,@apd,s)):(pp,Builtin.«tuple.__lt__» ⟨[@dk,@kE],[]⟩,P,E):=by
 let n:s.TypeIs @kE "tuple":=(ab o2 h2 c2);rw[cl,@kE,<-cE,n];simp only[Ep,qh,nR];rw[aL,h1,d1,<-aL,h2,d2];let k1:(B_,ns.map kc,p):=(y5,hp);let k2:(B_,@TO,q):=(y5,U);let b:(ns.map (kc:Int->a_)=@TO)↔ns=ms:=(lO,by let:=dS (aw6 @T5) e;rw[fN];let f:(@T5∘kc)=(id:@aea):=rfl;rwa[f,uC,uC]at this,@D7);rw[f5,p,@Ŀ,p,hp,λ_ aG g M e3 C=>Fe λn3 d3=>?_,<-f5,q,@od,q,U,λ_ j r2 o4 e4 c4=>Fe λn4 d4=>?_,<-Þ];apply(eb,λrest(r:Option aZj×PUnit)s'=>s'=s/\(dz,r.1,@Į=[(@pt,@pM),(@ã,@ĥ)]\/(a=c/\@Į=[(@ã,@ĥ)])\/(a=c/\ns=ms/\@Į=[])),(Ł,@ì))
 .rintro⟨F,v'⟩;ext rest r s';calc@ai';subst es;rcases M7 with hc|⟨d,hc⟩|⟨_,_,hc⟩;.injection hc with J wW;injection J with hy hx;subst hy hx;rw[x,(G7,A,s'),@T3,<-Q,he @Ğ X.w _ _ ?_];cases e with|true=>simp only[Ep,qh,nR];show cO (Ł,.inr (b0,@T4,wW))|false=>simp only[awc,ku];let aQ:¬a=c:=@aiZ;delta tZ at h;rw[ě,aQ,<-Q,T4 (bg (HT.aaP A s' a t c u @Ğ X.w _ _ ?_))];show@Mh
  .injection hc with J wW;injection J with hy hx;subst hy hx;rw[Q,aXi (knd:=@hB) hu k1 k2 ?_];delta tZ at h;rw[ô,d];by_cases e:ns=ms;.rw[bN (b.2 e)];simp only[Ep,qh,nR];show cO (Ł,(Ĕ,aM d e wW))
   .rw[dE (λz=>e (b.1 z))];simp only[awc,ku];rw[Q,T4 (bg (HT.aBF (items:=@ò) (items2:=@g2) (HU M e3 C n3 d3) (HU o4 e4 c4 n4 d4) (_L.intsAre_of g) (_L.intsAre_of r2) hu ?_))];show@Mh
  .cases hc
 .rintro⟨G,v⟩;ext s';calc@ai';simp only at o;subst o es;rcases M7 with hc|⟨_,hc⟩|⟨d,e,_⟩;.cases hc
  .cases hc
  .apply@aK;delta tZ at h;let m:@apF:=λl=>by cases l with|nil=>rfl|cons x l ih=>rw[HT.Ia,(@Þ),ih]
   rw[aj d,e,m]at h;show h
def aEm[eC]{ms:@À}[I][al](hx:(Ö,x,(a3,@j8,@ã)))(hy:(Ö,y,(a3,.int c,@ĥ)))(hp:@adS)(U:@acH)[bx](h:(hv,@apd)):(aM,(ih,@dk,@kE)):=by calc Fb (hD,x,_,x,hx) (λ_ aG r o1 e1 c1=>Fe λn1 d1=>?_);calc Fb (hD,y,_,y,hy) (λ_ j r2 o2 e2 c2=>Fe λn2 d2=>?_);induction r with|cons C D=>induction D with|cons B D=>cases D;induction r2 with|cons d D=>induction D with|cons b D=>cases D;let{t,rfl}:=C;let{u,rfl}:=d;cases B;cases b;show aXj (op:=.Lt) @ahu (ab o2 e2 c2) aww (Kc aww @ahu aXV (aEl (by first|show hu|omega) e1 c1 d1 e2 c2 d2 I hp U (Ą,@tn,h)) @akg) @e
universe z
section
variable{k:Nat}{ps:@â}
def aEn[bd][w]{m:Hp->Nat->(ú,V)}{lt:@Kp}(F:@w2)[Ň][eU][al](hl:@ex)(aQ:@D')(hQ:@aqy):(cg,call (.builtin "min") @j3 @OB):=by rw[oA,<-jT,<-i6];let b_:=rv.length;let yC:@Ks:=@T0;calc kmk_tree a3m a3n a3o (kmk_min_key _ _) ?_;rw[c5,@mu,@aso>>=_,<-Q,aYM (show@aso=pure [@Xh,@u]from rfl) ?_,<-Ĩ,<-Q,awk @i? ?_,<-Q,wpAny_newList ?_ @ð];rw[M6];let hS:(yv,@o0):=size_push' ..;let M5:@acQ:=jD yC;let y:@o0≠@Ò:=(d,hS,Gv @kq);calc cO @aml;let c:(tk,@jR,@l7,@Ò,@jR):=iX _ @ad;let T:(tk,@jR,@l7,@o0,@l7):=@ad;let I0:(gA,H,{s with heap:=(s.heap.push @jR).push @l7,toks:=@Ĝ}):=I.kept λb o e=>@YR;let d:(aA,H,@Ò):=@akA;let h:(aA,H,@o0):=I.fpOk @aag (I.hok.fresh @aag);rw[d7,@Ò,<-dA];calc@Or;rw[Uv Kq _];rw[ĳ,aw5 @kF,<-di,<-fF,@Ū];generalize@o0=S at*;rw[n!,0,aQ,{bC _ c @d @d,(xI,@YR)},<-jU,(bC,aG,v)];let r:(bC,xs,xs[0]):=cJ aQ;let r0:RelV xs[0] v:=(H3,r);rw[kl];let O:(gA,H,@C7):=I0.turned (λb o hb e=>@O1) d.1 d.2.1 d.2.2.2.1 d.2.2.2.2.1 d.2.2.2.2.2;rw[dW,<-pr,(S,@l7),@Ò,H,<-lz,<-px,r0,0,H,r,@ŗ,@gB/\m H2 0 v2];clear he;calc g9 @T2;let I2:=anG FW;let J:=FW.pin (S,@l7) @kR;rw[jV,@Ò,<-l7,<-mk,@Ò,<-lm,<-oB,<-ĳ,Ut S @sp,<-Þ];calc Ko J.1 @d ?_;rw[M6];rw[pb];calc cO @aml;show aEh F hr hb M hl y M5 hQ _ 0 0 _ H2 v x v2 _ c2 @d aQ I3 gw t SH dB (EB,_) r r0 k2 r2 @Â λn g=>(d,(Ò,n=0),M.irr 0)
def anH[s]{p kp:dO}(C:@atV)[Ň](hm:(fl,"min"))[È](hg:Gl X "min":=by rfl)(a:@ŏ:=by rfl)[Ł][bL]:(lx,.Call (.Name "min" p) [e] [{some "key",(jl,p2),kp}] pos,(gT,λy H1=>@atC)):=by clear C;calc g9 λf fd F SJ hk hb=>?_;rw[nv];delta PE PA at*;ext pins s σ H Q I h;calc Ew (zI I hg hm boot_min ?_);calc callWith_kw (e:=e) (rest:=[]) ?_ @X2 @X2;calc(IW,pos,match vs with|[y]=>@atC|_=>False);match vs,G,q1 with|[y],G,⟨l,xs,m,lt,n,hl,aQ,M,q⟩=>subst n;rw[bG.ref1 G];calc kws_cons (LM,(CA (v:=@ņ) a SJ @d hd).out @Æ s1 σ H1 (Ms,@ņ) O @Ű,kws_nil ?_);subst z D;rw[jR];show aEn F hr hb M I2 hl aQ q
universe z
structure dh[ņ]:@v extends@ā where
 max:(ă,"max")
 min:(ă,"min")
 tuple:(ă,"tuple")
 dict:(ă,"dict")
 reversed:(ă,"reversed")
def  nL[à]:@À:=o.map @TS
def lX[à]:(nL o).length=@ĺ:=by simp[nL]
def Fi[à][o]:(@tC)[i]?=o[i]?.map @TS:=by delta nL;rw[bB]
def QW:∀o:@h,(nL o).sum=(Î,o.sum):=by ext z_;cases z_ with|nil=>rw[Ø]|cons x o M=>let:=M;simp only[nL,cT,jB]at this⊢;simp[*]
def CV[à]:(Ä,o)=@Rc:=by delta nL;rw[b6];rfl
def  aEo(i j:Int):@v:=0<j/\j<18446744073709551616
def aEp:(DY,aEo):=(s5,by rw[jf];let h2:j<18446744073709551616:=hc.2;calc(G0,a3p ?_);let:j.natAbs<2^64:=@e;rw[Ļ,j.natAbs,0,@e];let:=(aXe aQ).2 this;omega)
def  top[o]:bi:=a3q.main.body.getD i @A8
def  xY(f:Nat->az):Sp:=(sl,(aQ,∀(H':Hp)(p:aa),@Í->(ë,@a7,(ó,p,f n),@ã)))
def  xZ(f:(eH,az)):Sp:=λvs H Q _=>∃n k:Nat,(a7,@aa,@eU,0<n,@ï,@Ŋ,(f7,f n k))
def  aEq[İ][G]:az:=@NW
def  aby:Sp:=λvs H Q _=>∃(n k:Nat)(b:Bool),(cA,@aa,@eU,.int @ĸ,0<n,@ï,@Ŋ,(f7,aEq n k b))
abbrev abz:bi:=top 66
def abA:(F5,abz):=@E
def aEr(F:(h,"nothing","nothing",abz))[n]:(tT,@BM):=by
 calc(e,abA,@H);.clear h;calc@x8;subst aW;rfl
 .clear h;calc tR λn bf h0 hn k=>?_;subst bf;rw[w,<-cN,"place",abA.nd,@wR,abA.nd,@xm,<-s,<-f8];calc(oy,@Ý,k H' D hs hD hm);calc(Ą,@bA,@Ŝ);let e:gu @Ý=HO.tup [@Hb,@aH]:=@WT;rw[Ć];show@qj
abbrev abB:bi:=top 67
def abC:(Ü,["size","number","place"],"size","number",abB):=@E
def aEs(F:(h,"cut","cut",abB))[n]:(dD,"size","number",xZ eg):=by
 calc(e,abC,@H);.clear h;calc fb @T_;subst bu;rfl
 .clear h;calc@aj_;subst bH;rw[w,<-Ñ,(ŵ,"place",2,abC.nd,@wR,2,abC.nd,(ņ,bA iy (aw,@R,@K) @Ð,aH)),<-s,<-f8];calc(oy,@vU,(rT,(bB,_M.UL hk h0)));rw[Ï,(Ĩ,(É,(aH,@C,(dY,@Ŝ)))),<-iX,@vU,(@ar+@ë)%@ö,@WT,<-Ć];show@qj
abbrev abD:bi:=top 71
def abE:(F5,abD):=@E
def aEt(F:(h,"every","every",abD))[n]:(tT,@T7):=by
 calc(e,abE,@H);.clear h;calc bj λn cb _=>?_;subst cb;rfl
 .clear h;calc tR λn cB h0 hn k=>?_;subst cB;rw[w,<-cN,"place",abE.nd,@wR,abE.nd,(ņ,@K,@Zk),<-s,<-f8];calc(oy,@wX,k H' D hs hD (bB,_M.aj4));rw[Õ,_,(ı,@d,@aI,@bA,@Ŝ),<-fH,@wX,@Hb,(0+@ú)%2,by simp only[gu,_M.axO,ajD],<-Ć];show@qj
abbrev abF:bi:=top 68
def LL:(õ,["size","number","turned","place","first"],["size","number","turned"],abF):=@E
def aEu(F:(h,"turned_round","turned_round",abF))[n]:(Â,1,["size","number","turned"],aby):=by
 calc(e,LL,@H);.clear h;calc lA λn k b aW _=>?_;subst aW;rfl
 .clear h;calc dF λn k b bf h0 hn=>Fa λhk q0=>?_;subst bf;rw[w,<-Ĉ,(oQ,LL.nd,"place",(jI,@K),LL.nd,(ņ,(aR,(aX,@K),@Á),@R)),(b4,@Ô,(ŵ,"place",3,LL.nd,(nN,(Ď,@K,@Ð)),3,LL.nd,@acG)),<-a8,(ì,aP),<-s];calc(dJ,k,@Ę);calc(Le,(Ŕ,k),@Cy,λH1 hs hm=>?_);.rw[á,(cz,@adR),<-fH,@Cy,V.int @apw,@ĸ,(af,HO.tup (aB,(Ŋ,@fH),@ĸ),(fX,@fH,@apw)),<-Ć];show@qj
  .rw[ð,aU k n @d (bU @C @e @C @e) @dH];calc LF (lo:=k) (n:=@af') (λi=>@BW) @e ia @ę @auP λH2 gd m=>?_;.apply@adR;rw[iX,@BW,@YG,(af,HO.tup [(Ŋ,k+i),@aH],(Ā,(o,k+i),@YG)),<-Ć];show@qj
   .apply Fj (Mv.cat (hm.same gd) m) (λxs zs e1 e2 l1 l2 kk=>?_);calc E9 D D2 xs zs @d @d e1 e2 ?_ (wQ,aL @Hw hp);.rw[l1,l2];simp only[aw,nI];show@uy
    .let:=kk p hp;rw[(Ā,@af',@ř),(iF,k,k)]at this;show this
abbrev abG:bi:=top 69
def aEv:(Gv,abG):=@E
def aEw(F:(h,"turn","turn",abG))(a:@atm):(Dv,xZ jd):=by
 calc(e,aEv,@H);.clear h;calc fb @T_;subst bu;rfl
 .clear h;calc@aj_;subst bH;rw[w,<-Ñ,(bt,a,@Ð,@K,aH),<-s,<-oH,@o,_M.UM hk]
abbrev abH:bi:=top 70
def aEx:(Gv,abH):=@E
def aEy(F:(h,"deal","deal",abH))(a:@atm):(Dv,@T9):=by
 calc(e,aEx,@H);.clear h;calc fb λn k cb _=>?_;subst cb;rfl
 .clear h;calc jt λn k cB h0 hn hk q0=>?_;subst cB;rw[w,<-Ñ,(bt,a,@Ð,@K,aH),<-s,<-oH,@Å,_M.aj3 hk]
abbrev abI:bi:=top 72
def QX:(Ü,["first","second","both","between","turned"],"first","second",abI):=@E
def  CY:Sp:=λvs H Q _=>∃(la N:aa)(a b:az),(a7,.ref la,.ref N,Bc H la a,Mv H N b,@aY<=52,@Qc/\(f7,@aw))
def aEz(F:(h,"followed","followed",abI)):(dD,"first","second",CY):=by
 calc(e,QX,@H);.clear h;calc pH λla N a b cZ _=>?_;subst cZ;rfl
 .clear h;calc i8 λla N a b d_ ha=>gX λhb um vI q0=>?_;subst d_;rw[w,<-ck,QX.nd,(gz,@T',3,QX.nd,4,QX.nd,(m',(ņ,@aq!,(bJ,@aq!,@Ô)))),@R,<-ĭ,<-s,<-Ġ];clear hb;rw[E,@gv,<-lR];apply{_,@d,N,@d,(jg,j _ _ dG),(Ń,N,@Ķ,λi σ H'=>∃v3 v4:@Ñ,σ=[(T,la),(T,N),@ū,v3,v4]/\@Í/\@an3,(C3,j,Mv.nil),λi σ H' _=>(w6,(ii,dG)))}
  .ext i y σ H' hi;calc cw λv3 v4 fz hs hm=>?_;subst fz;rw[P,<-P,<-ù,<-gb,<-bu,@vo,<-P];let Ss:=(ĭ,ex);let qa:@ax!:=vI x @ts;let M:=ha.same hs;calc(eC,p,@T?,@ju);clear hm;rw[E,λG xf g=>?_,<-s];calc(Ą,(a5,xf),?_);rw[Ï,M.ix qa λpa d=>?_];calc(ac,pa,(fb,tX d,(É,M.ix qa λu X=>?_)));calc(ac,u,(tJ,X,(cz,(CZ,@es))));rw[fH,@Zi,(Đ,(at_ a x.1).1),((ñ,(l_,a))+(ñ,x.2))%2,(Q,ang),<-Ć,<-c0,@Zi,(vn G xf g:@an3),cP];calc(H5,D,(Ć,(mt,cP)));.rw[e2];simp only[aw,f_];show@ĳ
   rw[Â,@Lf,e3]
  .ext σ H';calc cw λv3 v4 jM hs hm=>?_;subst jM;rw[s,<-mc];show(R,@aeX)
abbrev abJ:bi:=top 75
def QY:(bA,(kt,"move","turned"),"move",abJ):=@E
def  QZ[b]:Sp:=λvs H Q _=>∃(g d:aa)(r:eG)(h:az),(a7,@u?,@Ş,(ĺ,g,@sC),Mv H d h,@ħ<=52,(∀x∈h,@aaR)/\(uf,@eA))
def aEA(F:(h,"moved","moved",abJ)):(ce,1,"move",QZ K):=by
 calc(e,QY,@H);.clear h;calc pH λla N a b aW _=>?_;subst aW;rfl
 .clear h;calc i8 λg d r h bf hR=>gX λbu h1 h2 q0=>?_;subst bf;rw[g1,<-w,<-dF,"place","turned",QY.nd,@T',QY.nd,QY.nd,rw @JP (CF CH @tZ) @tZ,<-s];calc(Ĳ,d,dG,@Ę);apply QB (K:=K) (a:=d) (xs:=@Ķ) (Ax,(Ų,@Nf)) {@EO,aq} (λi H' _ hh=>ak.of (hh.1 _ _ dG)) ?_ ?_
  .rintro i y H' hi⟨hs,hm⟩;rw[ù,<-gb,<-bu,@vo];let Ss:=(ĭ,ex);let qa:@aaR:=h2 x @ts;let M:(İ,@sC,@tG,V.int @AN):=Ic (c1,_M.axY qa);let U:=hs.seq hR;let b_:(rA,@Nf)<bq:=by simp only[aw,cg,done,f_];show@ĳ
   rw[È,cg (Ky,@Q),cg @Nf++[(V,x.2,-@AN,@AN)],by delta cg done;rw[(@Lf),bF,<-_M.aj7];rfl];calc(eC,p,@T?,(cZ,@ľ));simp only[ni,ku];calc@a';rw[abg];cases hb:x.2 with|true=>calc dg (Gk,Qj _ @d @arT);rw[aq,e2,hb,(@Þ),bF];rfl|false=>rw[ç,(Gk,@arT)];rw[aq,e2,hb,ag (show¬@hc by simp),bF];rfl
  .rintro H'⟨hs,hm⟩;rw[mc];show@aeX
abbrev abK:bi:=top 78
def Q0:(Ü,["one","other","rest"],"one","other",abK):=@E
def  anI:Sp:=λvs H Q _=>∃a b:Nat,vs=[@j8,@k?]/\(cv,NY a b)
def aEB(F:(h,"common_divisor","common_divisor",abK)):(dD,"one","other",anI):=by
 calc(e,Q0,@H);.clear h;calc fb λa b bH _=>?_;subst bH;rfl
 .clear h;calc fb λa b cb q0=>?_;subst cb;rw[w,<-Ĉ,(aO,(gL,@K),(ĳ,2,Q0.nd,(yU,@Ð),0,Q0.nd,@K,(d7,Q0.nd,@R))),@Ð,<-í,_,@Ũ,@Ħ,(cJ,(d2,bI)),<-s];calc(f_,H'=H/\∃(x y:Nat)(v:@Ñ),σ=[@I6,@I7,v]/\NY x y=NY a b,match σ with|[_,some (.int y),_]=>y.toNat|_=>0,anJ @d a b _ @d @d);ext σ H1;calc anK λcB x y v cZ hg=>?_;subst cB;subst cZ;rw[ĩ];apply@í
  .let hy:0<y:=@gN;apply ab (λσ' H'=>σ'=[@I7,(ê,x%y),(ê,x%y)]/\H'=H1) ?_ ?_
   .rintro σ' H'⟨rfl,rfl⟩;calc anL _ ?_ @d @d y (x%y) @dK;.exact(ij,(Î,x%y))<(ij,y);let:=fJ x hy;omega
    .rw[<-hg,aZl x y,Nat.gcd_rec y x,aZl]
   .rw[s,<-Ï,(aH,(iN,y),(Ŭ,_,?_,@d))];rfl
  .rw[s,<-nG,y,y];subst hy;rw[s,<-ĕ];rw[Nat.gcd_zero_right]at hg;rw[hg];show q0
def anM[J]:@Qe:=by ext x hx;rw[eG];rw[<-_M.iF hk];show@xQ
abbrev abL:bi:=top 77
def Fl:(Ü,["move","start","place","turned","steps"],"move","start",abL):=@E
def  anN:Sp:=λvs H Q _=>∃(l:aa)(h:az)(n i:Nat),(a7,@ē,@þ,@bT,@à,i<n,(cv,@ů))
def aEC(F:(h,"round_length","round_length",abL)):(dD,"move","start",anN):=by
 calc(e,Fl,@H);.clear h;calc pH λl h n i aW _=>?_;subst aW;rfl
 .clear h;calc i8 λl h n i bf hm=>cy λk hi q0=>?_;subst bf;let hl:=k.len;calc r8 (_M.aj6 k hi) (λg d c b=>?_);rw[kr,@gC,λxs p sq M hp=>?_,<-w,<-Û,@jb,@ZD,(æ,@jb,@ZD),(è,4,@jb,aH,(aO,(c!,(dt,@R,@K),@JP),(ĳ,3,@jb,(bJ,@Á,@ZC),2,@jb,@ZC,(bi,4,@jb,@wF))),(à,@Ô)),<-î,@Ũ,@Ħ,(d2,bI),@ahj,<-s,<-Ï,li l xs _ _ @d @d sq M (ac,p,(fb,tX hp,(LF,xs,sq,M,p,(tJ,hp,?_))))];calc(f_,H'=H/\∃t:Nat,1<=t/\t<=@ů/\σ=(Gg,@hA,@qx,(Ï,t)),match σ with|[_,_,_,_,some (.int y)]=>@ů-@mC|_=>0,aED @d 1 @C g ?_);.let e:(nO,1)=@ĵ:=(af,@eB,_M.qm);rw[e];rfl
  .ext σ H1;calc aa9 λbu t t1 J bH=>?_;subst bu;subst bH;let hw:=_M.KC k (x:=@Ý) hi t;calc sE (dd,@hA,i) @qx (λQ' q=>(Ň,@aet)) @Ua ?_;rw[Ê,gR,(lT,@hA,@ú,@hA,i),q,<-Â,abg,q]
   .rw[ì]
    .rw[Ļ,(nO,t),@Ý,by ext e;rw[e]at hc;simp at hc];let bK:t<@ů:=by
      rcases ft t (lJ h i)with q|q;.show q
      .rw[Ċ,t,@ů];rw[this,c]at aQ;show(kO,aQ)
     rw[kr,@hA<@ħ,λys p2 a M_ cP=>?_];let e:(nO,@f5)=(@ZY,@Kt !=@qx):=rfl;rw[â,(Fa,(Gg,(Jd,@f5),(JW,@f5),(ê,@f5))),?_];.rintro σ' H'⟨rfl,rfl⟩;calc Q1 _ ?_ @d @d @f5 @C (ć,@e);show ajE (show t<@ů by assumption) (Aq t)
     .rw[s];calc(ų,(HE,(tJ,cP,(CR,(HE,(f0,tX cP,_,(lF,@d,@d)))))));rw[È,((ñ,@qx)+(ñ,@Kt))%2,(ñ,@Kt !=@qx),(d,Int.add_comm,ang _ _)];rw[e];show(cr,[(aD,l),(ī,i),(mY,@ZY),@kP,(ī,(v,t)+1)],e2)
    .rw[s];let he:(nO,t)=@Ý:=by simp only[pk,AA,oK,not_or,aZm,N4]at hc;show aiA hc.1 hc.2
     let ht:t=@ů:=by
      rcases ft t (lJ h i)with q|q;.show absurd he (b t t1 q)
      .omega
     subst ht;rw[s];show@I5
abbrev abM:bi:=top 79
def LM:(Õ,["move","order","start","length"],"move",abM):=@E
def  anO:Sp:=(Fq,@ï,(cv,orderOf h))
def aEE(F:(h,"order_of","order_of",abM))[n](c:(an,"round_length","move","start",anN))(e:(an,"common_divisor","one","other",anI)):(bu,"move",anO):=by
 calc(e,LM,@H);.clear h;calc lA λl h n cb _=>?_;subst cb;rfl
 .clear h;calc dF λl h n cB hm k=>@x_;subst cB;let hl:=k.len;rw[x,hm.len,@Uc,<-w,<-Ģ,LM.nd,aH,(cC,@č,2,LM.nd,(þ,(æ,LM.nd,(q0,c)),(cy,LM.nd,bA xN (Af,(jA,e,@Á)) @Á))),<-lv,<-s];calc(č,l,xs,(Ý,hx),eR _ @d @C @e ?_);calc(ÿ,H'=H/\∃v2 v3:@Ñ,σ=[@ac,(ê,@E5),v2,v3],(Fw,(Ŕ,@Ï),aEF @d @u @u @d));.ext i σ H1 hi;calc aEG λcZ v2 v3 d_=>?_;subst cZ;subst d_;rw[P,<-cc];let Lq:=_M.aj6 k g;let hg:@aiP<=@ů:=Nat.gcd_le_right _ @lg;let d:0<@aiP:=Nat.gcd_pos_of_pos_right _ @lg;rw[à,l,h,c_ n i @A hm k g ?_];calc(ar,(y?,(aH,@aaZ,(tx,aEF @d @tH (ê,@ů) ?_))));rw[_M.axZ,<-_M.axX];show(cr,[(aD,l),@kP,(ī,@ar),(mY,@ů)],(u,OM,Uw))
  .ext σ H1;calc aEG λfz v2 v3 jM=>?_;subst fz;subst jM;rw[s,<-ĕ];delta orderOf at q0;rw[(iF,@Ï,@ħ)];show q0
def LN[Ä](h:j<n):(dN,xP n @f4):=@ao2
abbrev abN:bi:=top 73
def Q2:(Õ,(c5,"move","back","source"),"move",abN):=@E
def  abO:Sp:=(Fq,0<n,(aQ,(f7,aWL h)))
def aEH(F:(h,"undone","undone",abN))[n][Ĝ]:(bu,"move",abO):=by
 calc(e,Q2,@H);.clear h;calc lA λl h n aW _=>?_;subst aW;rfl
 .clear h;calc dF λl h n bf hm k=>@yc;subst bf;let hl:=k.len;clear hm;rw[E,λps hx ht=>?_];let fo:=ht.len;rw[w,<-Ģ,Q2.nd,@adP,(i0,2,Q2.nd,3,Q2.nd,(lp,(ņ,@R,@tQ),@K,@tQ)),<-ĭ,<-s,<-Ð,l,(Ý,hx),eR n (by simp[fo,hl]) h0 hn @Ud,<-ĉ,l,(pj,hx)];apply(ÿ,∃(v2 v3:@Ñ)(g:az),(d8,[@ac,@ū,v2,v3],(ó,D,g),@vQ,∀j,j<i->@afB=(j,@iG)),(J?,l,@Ķ,(CS,s1,r,{_M.rY n,λj hj=>@avV}),(ii,hx)))
  .ext i y σ H' T hi;calc dF λv2 v3 g bu hs ot=>@x';subst bu;ext hT;rw[P,<-P,<-ù,<-gb,<-x,@vo,λx C ex=>?_,<-P];let dM:i<n:=(bE,hl,C);let O:x=@ĵ:=(kF,@C,(gL.1 C).2.symm);let s2:af H (ah H' T @wo):=(mt,hT);let m:=ot.same (nq,@wo);let qa:@hH:=(d,O,k.lt _ dM);calc@dX;rw[s,<-Õ,p,(m?,(ġ,ex),(dY,@es)),<-Æ,Mv.set (x:=(i,x.2)) m cP x.1,λxs e1 e2 e3=>?_,<-Õ,p,(m?,aL s2 cP _ _ ex,Lk D xs _ x.1 @d @d e1 (LN @Ä) (D0,x.1,(i,x.2),(Ć,aL s2 cP),e3))];ext j hj;rw[_M.axR @Ä];by_cases u:j=i;.subst u;rw[aj (ø,O),O]
   rw[ą,λq=>u (k.inj j i @e dM (b1,q,O)),hg j @e]
  .ext σ H';calc dF λv2 v3 g bH hs ot=>@x';subst bH;rw[s,<-kQ];rw[aw,fo,hl]at hg;rw[<-_M.axQ k J hg];show ot
abbrev abP:bi:=top 74
def Fm:(Ü,["move","times","result","doubled","left"],"move","times",abP):=@E
def  anP:Sp:=λvs H Q _=>∃(l:aa)(h:az)(n m:Nat),(a7,@ē,@RX,@bT,@à,0<n,@ï/\@ab_/\(f7,@MW))
def aEI(F:(h,"repeated","repeated",abP))[n][Ĝ][ŉ]:(hU,"move","times",anP):=by
 calc(e,Fm,@H);.clear h;calc pH λl h n m cb _=>?_;subst cb;rfl
 .clear h;calc i8 λl h n m cB hm=>jF λk h0 hn hmm q0=>?_;subst cB;let hl:=k.len;rw[x,hm.len,@Uc,<-w,<-Û,@jc,@adP,(æ,@jc,@Ð),(è,4,@jc,@K,(aO,(gL,@Ô),(Č,(tD,@Ô,(bi,2,@jc,(ş,ur,@Á))),(æ,@jc,(fW,@Á,@Á)),(bi,4,@jc,(mP,@Ô)))),(à,@R)),<-î,@Ũ,_,@awc,(AK,(d2,cC)),<-s,<-Ð,l,(Ý,hx),eR n (by simp[qa,hl]) h0 hn @Ud,<-fu];calc(f_,∃(g ld:aa)(a d left:Nat),(d8,(wc,(Ï,@å)),(ó,g,(î,a)),(ó,ld,(î,d)),a+d*@å=m),@Ue,(ŉ,D,l,0,1,m,bU s1 r (d,show(î,1)=h from _M.xE hl,hm.same s1) @e));ext σ H';calc gQ λg ld a d left cZ=>gX λhs c z e=>?_;subst cZ;rw[ĩ];let Ha:=_M.v_ k a;let j:=_M.v_ k d;apply@í
  .let hy:0<@å:=@gN;calc(n2,(Fx,σ',@Í,(ó,g,(î,J)),(ó,ld,(î,@kk))));.ext σ' H2;calc dF λg ld J d_ b1 b2=>Fa λT R=>?_;subst d_;calc abQ _ ?_ @d g ld J (é,@kk,@hL,b1,b2,T,R);exact(Ŕ,(Î,@hL))<(Ŕ,@å);omega
   .rw[s,<-ş];let tail:∀(H2:Hp)(b:aa)(X:Nat),@gB->Mv H2 b (î,X)->Mv H2 ld (î,d)->X+@kk*@hL=m->∃v,(HB,@a5,∃v',(HB,@avh,CY ([v,v']++[]) H2 (λx H3=>(Fx,(wb,@FR,@ID/2),af H H3,Mv H3 g (î,J),Mv H3 ld (î,@kk))) E0)):=by ext H2 b X c1 c2 C c4;rw[à,ld,ld,(gn,C.toS,C,@abC,{(d,j.len,anM j),λH3 p e1 e2=>(Ã,b,p,X,c1.trans e1,c2.same e1,{?_,c4})})];rw[_M.Hj k];show e2
    rw[c6]
    .rw[s];let Na:@å%2=1:=by let:=cF dB;let:=V.int.inj this;omega
     calc(Ē,g,ld,(gn,c.toS,z,@abC,{(d,Ha.len,anM j),λH2 p e1 e2=>?_}));let{v,g1,v',g2,g3}:=tail H2 p (a+d) (hs.trans e1) (hP,_M.Hj k) (z.same e1) (by rw[Ċ,@å,2*@hL+1];rw[this,aWS,aWT,<-NX]at e;rw[(@anr)];omega);calc f6 v g1 v' g2 ?_;clear g3;rw[kz];show@atJ
    .rw[s,<-l',@å%2=0,@ID,dB (bN (show(j5,@ID)=@o1 by rw[q]))];let{v,g1,v',g2,g3}:=tail H' g a hs c z (by rw[Ċ,@å,2*@hL];rw[this,<-NX]at e;rw[(@anr)];omega);calc f6 v g1 v' g2 ?_;clear g3;rw[kz];show@atJ
  .rw[s,<-nG,@å,@å];subst hy;rw[s,<-Å,q0 H' g hs ?_];rw[_M.O4 k hmm,show m=a by simp_all];show c
abbrev abR:bi:=top 4
def aEJ:(Õ,["card"],"card",abR):=@E
def  sF(z:Int):Int:=(di,z,1,0)
def  CZ:Sp:=λvs H Q _=>∃z:Int,vs=[@RW]/\(fm,@DX)
def aEK(F:(h,"side_of","side_of",abR)):(ę,"card",CZ):=by
 calc(e,aEJ,@H);.clear h;calc bj λz aW _=>?_;subst aW;rfl
 .clear h;calc bj λz bf q0=>?_;subst bf;rw[w,<-Ñ,(qv,(gM,@Ð)),<-s,<-ĩ];delta sF at q0;calc@í;.rw[ŭ,@Ī];show q0
  .rw[(fq,(ŭ,q))]at q0;show q0
abbrev abS:bi:=top 2
def abT:(Gm,abS):=@E
def  Fn[b]:Sp:=(Fr,(aQ,(Ŝ,(uk,@pl))))
def aEL(F:(h,"is_row","is_row",abS))[n]:(AC,Fn K):=by
 calc(e,abT,@H);.clear h;calc lA λa ns n bu _=>?_;subst bu;rfl
 .clear h;calc dF λa ns n bH ha hn q0=>?_;subst bH;rw[w,<-Ĉ,(aG,(dt,@č,@K)),(am,aCi hr.units,(u6,(F6,abT.nd,abT.nd,@axT)),(A5,@K)),<-ņ,<-s,<-ĝ,(É,Qm @d @Ą)];rw[gR];apply@í
  .rw[s];let:¬@pl:=by ext e;rw[aw,e]at hc;simp at hc
   rw[fC,<-eu,this];show q
  .rw[s];let hl:@pl:=by
    rw[aw]at hc;by_cases e:(@vH=@ö);.omega
    .rw[dE e]at hc;simp at hc
   calc@iT;calc(vU,@uo);rw[É,ns.filter @cq,ns,@cw];rw[e1]at u;rw[È,(xt,@uo),(LA,λz=>@uo),(Q,b6)];rw[e2]at u;calc(b5,D,@ih,@tM,λG p hp hs m=>?_);rw[dP];calc(o0,@vp);let s2:(iv,ah @acC p2 @iW,p3,(bP @sh).map @aw'):=aL (aL (aL s1 m) cP) iL;calc aCg (.list (G.map .int)) (.list (Ch,.int)) (Ci,@hS) (Ci,(Ch,@é)) @Uf @Uf ?_;.let n1:(á,(ah H1 p (.lst @hS)) p,@hS):=aq;let n2:(á,(ah @acC p2 @iW) p,@hS):=aL @ĩ cP _ _ n1;show aL @ĩ iL _ _ n2
   rw[ä,aq,b6,@qt];.rw[aDr];let q:=q0 _ s2;rw[bN hl,Eo,<-_M.ax1 hp hs,hl]at q;show q
abbrev abU:bi:=top 3
def aEM:(Õ,["numbers"],"numbers",abU):=@E
def  anQ[b]:Sp:=(My,(Ŝ,(uk,@amy)))
def aEN(F:(h,"is_deck","is_deck",abU))[n](G:Glb mg)(J:@l'):(bu,"numbers",@Ug):=by
 calc(e,aEM,@H);.clear h;calc fb λa ns cb _=>?_;subst cb;rfl
 .clear h;rw[ë,λa ns cB ha q0=>?_];subst cB;rw[w,<-Ñ,wA (am,A8,@č,aH) (Er,G.MOST_CARDS,(bk,J,@č)),<-s,<-ĝ,(nY,?_)];apply@í
  .let h1:@Jh:=@ag1;rw[ĝ,(nY,?_),<-ì];.let h2:@n0:=@ag1;calc(Ē,a,_,u_ @d @kA a ns @ó @A (aM ha h2 (λH' hs=>?_)));let q:=@adG;rw[bN (⟨h1,h2⟩:@amy)]at q;rw[(@dh)];show q
   rw[nh,@n0,e.2]
  rw[nh,@Jh,e.1]
abbrev abV:bi:=top 5
def abW:(Em,abV):=@E
def  Q3[b]:Sp:=(AX,(jm,.int ((ns.map sF).sum)))
def aEO(F:(h,"faces_up","faces_up",abV))[cz]:(iI,Q3 K):=by
 calc(e,abW,@H);.clear h;calc fb λa ns cZ _=>?_;subst cZ;rfl
 .clear h;calc g9 λa ns d_ ha hn q0=>?_;subst d_;rw[w,<-Ñ,(i4,(dG,"card",1,abW.nd,1,abW.nd,@aaN)),<-s];calc@iT;calc@ahP;rw[(@cw),show(xt,@DX)=@agd by rw[b6];rfl]at u;show(Ğ,D,@ih,@e7)
def Bd{c:dX}(h:@h1):@HF=@Jo:=by let e:=aDt h;delta sF;cases hu:c.up with|true=>rw[hu]at e;rw[aj (cF e)];rfl|false=>rw[hu]at e;rw[ag (G_ e)];rfl
def Q4[ţ]:((cg r).map sF).sum=(o,@bE):=by rw[g_,b6];let:∀c∈r,@h1:=λc hc=>@Ui;revert H;cases r with|nil=>rfl|cons c r ih=>rw[cT,cT,jB,jB,ih (λc hc=>this c (by simp[hc])),Gs,Bd (this c @A)];simp[*]
abbrev abX:bi:=top 6
def Q5:(Ao,"sums",abX):=@E
def  LO[b]:Sp:=(sj,@ï,(hr,@aqz))
def aEP(F:(h,"sums_of","sums_of",abX))[cz]:(iI,LO K):=by
 calc(e,Q5,@H);.clear h;calc lA λa r n aW _=>?_;subst aW;rfl
 .clear h;calc dF λa r n bf ha R=>@x_;subst bf;let hl:=R.len;rw[ł,<-w,<-Ģ,Q5.nd,bA aB8 @m5 @č,(i0,2,Q5.nd,3,Q5.nd,(lp,(m7,@R,@Á),@K,(aX,@wW))),<-ĭ,<-s,<-Á,@cM,@Ŝ];let s1:af H (cd,[@ſ]):=@ax8;rw[b?,aB6 p _ _ @d @d aq @C (by rw[ŧ];omega) (aa,fO,@xs) @Ę];rw[aw,fO,(ſ,(ij,n)=n)];let hz:(tI n @bv).flatten=@aqA:=by cases n with|zero=>rfl|succ n _=>simp[Ox,List.flatten_replicate_singleton]
  rw[hz];let SA:(Á,D):=s1.free hD;rw[ſ,@aqA,hD,<-ĉ,a,@Ul];apply(ÿ,∃(v2 v3:@Ñ)(g:@À),(d8,(iT,v2,v3),(ł,g.map @é),@vQ,(uK,@arr)),(sr,(CS,s2,aq,{@A,@axa})))
  .ext i y σ H' T hi;calc dF λv2 v3 g bu hs xf=>@x';subst bu;ext hT;rw[P,<-P,<-pS];let dM:@dL:=by
    rcases ft i r.length with q|q;.show q
    .rw[qg q]at hi;cases hi
   rw[cJ dM]at hi;cases hi;rw[P];let{b1,b2}:=R.no_bounds dM;let s3:=(d9,@ab5);let ia:=(eR,@ab5,@aw9,hT,xf);calc@dX;rw[s];calc(go,@DV,(Ĩ,(go,@DV,(cZ,Lk D _ _ @vO @d @d ia ?_ (D0,@vO,@ú+aD (r[i]).up,dA s3 SA,?_)))));rw[Ö,xU,aw,(iB,(v,@auX)-1,@vO),LN @e];.rw[aq,(@vq),yS]
   .ext j hj u;rw[aC];.subst e;rw[ai4 @e]
    .rw[Ļ,@vO,@dn-1,by let{c1,c2}:=R.no_bounds hj;ext q;let U:=R.nodup;rw[qT,Av,rQ]at U;show U j i hj dM @e @e];rw[TY aQ];show hg j hj @e
  .ext σ H';calc dF λv2 v3 g bH hs xf=>@x';subst bH;rw[s];rw[aw,fO]at hg;rw[kQ];rw[<-_M.ax3 R J (λj hj=>hg j hj @Ä)];show xf
abbrev abY:bi:=top 7
def Q6:(ou,"one","two",abY):=@E
def  abZ[b]:Sp:=(zX,(hr,(Cj,λd=>(ś,d))))
def aEQ(F:(h,"odd_differences","odd_differences",abY))[n](m:@yr):(iK,3,abZ K):=by
 calc(e,Q6,@H);.clear h;calc@aj6;subst cb;rfl
 .clear h;calc@aqf;subst cB;rw[w,<-dF,"one","two",Q6.nd,(n6,@KG,(aP,m)),Q6.nd,Q6.nd,(bJ,@R,@Á),<-s,<-dM];calc(Ŏ,b,q,n,bU @ik S hn @gw);calc(ğ,W,p2,_,@lQ,{@f3,@Ę});calc(HX,@ads,(li,@abP),@e8,by simp[_M.iR];omega,@A,@lQ,@f3,(tU,(cZ,{@aI,@eC})));calc(dF,H3,@fY);rw[h3];delta jf;rw[R.len];congr 2;(rewrite[List.zip_map',b6,b6];with_reducible try rfl);rw[Î];ext x _;simp only[Gs];congr 1
abbrev ab0:bi:=top 91
def Q7:(ou,"differences","difference",ab0):=@E
def  Iq[b]:Sp:=(l3,@T,@Ø/\0<n/\(aQ,∀(H':Hp),@Í->Q (.bl @kV) H'))
def aER(F:(h,"can_come","can_come",ab0))[n](y:@zx)(p:@aro):(iK,4,Iq K):=by
 calc(e,Q7,@H);.clear h;calc gQ λa b r q n cZ _=>?_;subst cZ;rfl
 .clear h;calc gQ λa b r q n d_=>lW λha hb R S h0 hn q0=>?_;subst d_;let FE:@at!=n:=(pB,R.len);let g:@HI=n:=(pB,S.len);rw[w,<-Ī,(iA,@č,(As,@KF,(aP,y))),(ae,Q7.nd,@aeO),(D9,3,Q7.nd,@R,3,Q7.nd,@Á,@wr),<-cU,<-s,<-cg];rw[aw,FE];calc@í;.rw[s];let Na:@iE:=@BX;rw[Ð,a,ha,@abX];calc(D5,b,@ik,@Um);calc@ae4;rw[dj];rw[_M.tL R S Na]at k;rw[gR,Q4 R,Q4 S];let e:(E,@aeB,(o,@k7)%2)=(E,@oj,@k7%2):=@Ub;rw[e];show k
  .rw[s,<-l',@Ċ,@ö,(JJ,@o1,q),<-lH];calc(Ĳ,W,h1,@Ę);rw[nL,<-og];calc rB (λd:Nat=>(ś,d)) @Fh @cq (Bm,@aR) @e hD @vl @ę @Uo @Up @oe;rw[pm,W,h1,@aR,@aR];.rw[(@cw)]at h2;calc(iW,D,(Cj,@adt),by rw[h7,h2,b6];rfl);rw[dj];rw[_M.akb R h0 u]at k;rw[Ey];show k
def Ir[T][r]:oW xs @PH @u=@RV:=by
 delta oW;rw[HT.E8,HT.Qq];rw[Eg @wG];rcases aZn k xs.length with h|h;.rw[yZ h]
 .rw[ajH h,yP @Â,yP h]
def aES[T](h:@D'):(fH,xs,@u,-1,xs.dropLast):=by
 delta oW;rw[HT.Qq];let:(LT,some (-1))=@Ï-1:=by exact(di,(v,-1),((v,-1)+(v,@Ï)).toNat,min (Ŕ,-1) @Ï)=_;rw[aj @Ó];omega
 rw[this,pj,J0,List.dropLast_eq_take]
def Iu[a][å](h:@cp):@YQ:=by delta IL at h;rwa[g_,b6]at h
abbrev ab1:bi:=top 92
def Q8:(Eq,"sides",ab1):=@E
def  Q9:Sp:=(AT,@ı)
def aET(F:(h,"sides_of_one_order","sides_of_one_order",ab1))[n]:(tT,Q9):=by
 calc(e,Q8,@H);.clear h;calc@x8;subst aW;rfl
 .clear h;calc tR λn bf h0 hn q0=>?_;subst bf;rw[w,<-ľ,(iA,@Ð,aH),(cy,Q8.nd,aH),(bS,(nN,(Ď,aH,@Ð)),2,Q8.nd,(d7,Q8.nd,@y9)),@K,<-iZ,<-s,<-ş];calc@í;.rw[s,<-ac];rw[_M.KD I]at q0;show q0
  .rw[s,<-ai];calc(č,1,n,bU @C @C @C @cL,?_);calc(G',(oe,@bF,2^i),(he,1,@s4,@ag9));.ext i σ H1 hi;calc Fo λbu v bH=>?_;subst bu;subst bH;rw[P,<-á,HD @zf @d @I9 ?_];show(Es,show(o,2^i)*2=(o,2^@Q)by rw[Gq];simp[*])
   .ext σ H1;calc Fo λcb v cB=>?_;subst cb;subst cB;rw[s,<-ĕ];rw[_M.Pa jx,<-(@zd)]at q0;show q0
abbrev ab2:bi:=top 93
def Q_:(Eq,"count",ab2):=@E
def  ab3:Sp:=(AT,@eJ)
def aEU(F:(h,"count_of_rows","count_of_rows",ab2))[n](d:@zv):(bu,"size",ab3):=by
 calc(e,Q_,@H);.clear h;calc bj λn cZ _=>?_;subst cZ;rfl
 .clear h;calc tR λn d_ h0 hn q0=>?_;subst d_;rw[w,<-Ģ,Q_.nd,(b9,@Ð),(bS,(nN,@Mu),2,Q_.nd,(d7,Q_.nd,(t?,@K))),<-ĭ,<-s];calc(c',n,h0,hn,?_);rw[nZ];calc(ÿ,(oe,@bF,@xo),(he,1,@sh,(LW,(yo,@ı*fk 0,@ı))));.ext i σ H1 hi;calc@akQ;subst fz;subst jM;rw[P,<-Ï,(q1,Iv @d @I9 ?_)];show(Es,show(o,@xo)*@ho=(o,@acI)by rw[_M.ax6,OM @xo @Q,(@zA)])
  .ext σ H1;calc@akR;subst qP;subst qQ;rw[s,<-ĕ];rw[(@qt)];show q0
abbrev ab4:bi:=top 94
def ya:(Õ,["row","card","numbers","rank","place","number","behind","other","smaller"],"row",ab4):=@E
def  anS[b]:Sp:=λvs H Q _=>∃(a:aa)(r:eG),(kd,@cp,r.length<=52/\(fB,Az (b7 r)))
def aEV(F:(h,"rank_of_numbers","rank_of_numbers",ab4))[n]:(ę,"row",@Uq):=by
 calc(e,ya,@H);.clear h;calc fb λa r sR _=>?_;subst sR;rfl
 .clear h;calc g9 λa r vK ha hn q0=>?_;subst vK;rw[w,<-č,(fe,2,@c5,[("card",1)],@HE,(ej,1,@c5),@hb,(gN,@K)),(ok,@c5,aH,(e!,@R,4,@c5,5,@c5,(ĳ,6,@c5,(j_,@R,@wF,xO),8,@c5,(He,"other",7,@c5,@Ł,7,@c5,(gX,@Ń,@Ć),@Ń),aA (æ,@c5,(aw,bA xN @Á (ay,@Ja),@aU))))),<-î,@Ũ,@Ħ,@sY,@Mr,<-s];calc@iT;rw[g2];calc(k8,@aJ,r,@ayn,@ayC);rw[Ľ];let eL:(r.map λc=>(ś,@aZ))=(b7 r).map @ċ:=by delta b7;rw[b6];rfl
  rw[eL]at u;let sN:(hE,(b7 r).length):=by delta b7;simp
  generalize b7 r=l at u q0 sN;rw[ĉ,D,@ih];apply(ÿ,∃(v1 v4 N v6 v7 v8:@Ñ),σ=[@Ě,v1,@ū,(ê,@Na),v4,N,v6,v7,v8]/\@bs,(hc,D,@P4,(Il,@u,@ĩ),bv (xB,λ_ s5=>(ii,u))))
  .ext i y σ H' T hi;calc(Ck,λvL hs=>?_);subst vL;ext hT;rw[P,<-P,<-ù];let dM:@XN:=by
    rcases ft i l.length with q|q;.show q
    .rw[qg q]at hi;cases hi
   rw[cJ dM]at hi;cases hi;rw[P];let xa:@nH=@eM:=(aW,cJ dM);let s3:=(d9,(cV,(ď,@eM)));calc@dX;rw[s,<-Õ,_,(f0,@d,D,(ź,(mu,u),λU m=>?_))];rw[(Ā,@ú+1,@sT),Ir,<-yU];rw[aH,(l.drop @Q).map @ċ,m];calc(Ĳ,U,aq,@dH);calc rB @ċ @oR @EW @ċ @Jv ia @eZ @ę (λj z H' Q _ _ q=>(Ň,@fE)) (λj z H' Q _ _ q=>@avH) λH5 s5 d=>?_;rw[Â,(c4,(Ó,(v,z),(Î,@eM))=(Ó,z,@nH),(d,xa,(bY,@Ä,@C))),@ao];.apply(ē,D2,(Ý,d));rw[Õ,U,(u_,(Ý,(ad,aq)),(re,(gZ,(mL,jC)),ES @d _ _ @d @d ?_))];calc dZ v1 @sB (ê,@eM) (T,U) v7 (ê,@qF) {?_,@hU};rw[É,(((l.drop @Q).filter @EW).map @ċ).length,@qF,(Q,aw)];rw[e1];show(cr,[@Ke,v1,(aD,D),@kP,(ī,i),(mY,@eM),(aD,U),v7,(mY,@qF)],show(o,@Na)*((v,((l.drop @Q).map @ċ).length)+1)+(v,@qF)=(o,_M.wj l @Q)by rw[aw,jC,(iB,(o,@kh)+1,@kb)];exact _=(o,@Na*@kb+@qF);rw[Kr,OM])
  .ext σ H';calc(Ck,λg hs=>?_);subst g;rw[s,<-ĕ];rw[aw,<-_M.ax5];show q0 H' @Un
abbrev ab5:bi:=top 95
def Ra:(Õ,["row","rank","card"],"row",ab5):=@E
def  anT[b]:Sp:=(D8,GK r)
def aEW(F:(h,"rank_of_sides","rank_of_sides",ab5))[cz]:(iI,@Ur):=by
 calc(e,Ra,@H);.clear h;calc lA λa r n m _=>?_;subst m;rfl
 .clear h;calc dF λa r n l ha R=>@yc;subst l;let hl:=R.len;rw[w,<-ľ,(iA,@č,(b9,@kQ)),(cy,Ra.nd,aH),(aC,(u7,@Lg),2,Ra.nd,(d7,Ra.nd,(m7,@y9,@R))),@K,<-iZ,<-s,<-g2,<-cg];rw[aw,hl];apply@í
  .rw[s,<-ac];let{b1,_}:=R.no_bounds (j:=0) @C;calc(kJ,ha,(ku,@eE),told r[0],?_);rw[(@vq)];let k:=q0 H @ĩ;let e:GK r=aD (r[0]).up:=by
    let e0:GK r=aD ((r.map mj).headD @Å):=by delta GK;rw[aj (d,hl,I)]
    rw[e0];cases r with|nil=>simp at hl;omega|cons c r=>rfl
   rw[e]at k;show k
  .rw[s,<-ai,<-jc,1,(d',ha,@Ŝ)];rw[(bD,-@cJ,-1),aES _ @J!,<-aZo];rw[Ŋ,@HL,hp];calc(bL,p,aq);calc(fy,(hk,σ=[@Ě,(ê,(td,i)),v]/\H'=(cd,@HL)),p,@HL,(yp,@d),λi σ H' _=>bj λ_ _ e=>(ŋ,@eZ));.ext i y σ H' hi;rw[E,λv g M=>?_];subst g;subst M;rw[P,<-P,<-ù];cases ec:r.dropLast[i]? with|none=>rw[ec]at hi;cases hi|some c=>rw[ec]at hi;cases hi;rw[P];let C:@h1:=(_M.kN.1 (R.nos.mem_iff.1 (ý,c,(av9 r).subset (eD ec)))).1;rw[á,aAw @zf _ @d @ũ @d (Ĩ,ab (Ï,@ũ) ?_ @d)];rw[Bd C];show(cr,[@Ke,@kP,(ī,@ũ)],show(o,(td,i))*2+@Jo=(o,(td,@Q))by rw[(fh,ec)];delta Ux;rw[Gr];simp only[BX,List.foldl_nil];omega)
   .ext σ H';rw[E,λv J D=>?_];subst J;subst D;rw[s,<-ĕ];let k:=q0 _ s1;let e:GK r=Ux ((r.dropLast).map mj):=by delta GK;rw[hl,ag jx,aZo]
    rw[aw,iQ,<-e];show k
abbrev ab6:bi:=top 96
def aEX:(Õ,["row"],"row",ab6):=@E
def  anU[b]:Sp:=(D8,aw7 r)
def aEY(F:(h,"rank_of","rank_of",ab6))[n](c:(ĩ,"rank_of_numbers","row",@Uq))(d:@zv)(b:(g1,"rank_of_sides",@Ur)):(mQ,"row",@Us):=by
 calc(e,aEX,@H);.clear h;calc lA λa r n z _=>?_;subst z;rfl
 .clear h;calc dF λa r n j ha R=>@yc;subst j;let hl:=R.len;rw[ł,<-w,<-Ñ,(aw,bA xN (cc,c) (b9,@č),(cc,b)),<-s];calc(č,a,r,ha,@abX);let bK:=@Ut;rw[b?,anL n @XD h0 hn _ _ (lF,@d,@auB)];calc(Ŏ,a,r,n,dI @ŭ R h0 hn (λH2 s2=>@lq));rw[dj];delta aw7 at k;rw[hl,Kr,OM]at k;show k
def  rf(cl:aa)(n t:Nat)(g:aa):@Ŷ:=[(aS,"cards",cl),@NP,(ŝ,"top",t),(aS,"cuts",g)]
def aEZ(cl:aa)(n t z:Nat)(g:aa):ck "top" @RW @afq=(sm,z):=@d
structure vo[Û][e2](r:eG)[Ĳ][Ķ]:@v where
 ins:(te,@afq)
 cards:(ã,cl,@j4)
 cuts:(ã,g,@Uu)
 ne:cl≠g
def  di(p cl g:aa)[ļ]:@v:=∀b o,@co->@bz->@v7->@ir->@Xx
def vo.same[ħ][å]{t:Nat}(R:@x3)[m]:(iM,r,t,cs):=by let{{dx,a},b,c,d}:=R;show{{dx,@Ż},@v!,(ą,c),d}
def anV[č]:@apv:=by rw[bC];induction u<;>simp[told,NZ]
def aE0[P][bM][w][bN](h:@ŉ):(m_,@wf):=by rcases h with(h|⟨o',h⟩)|h;rw[ix,@afl,<-ý,.inl (l9,o'),aF @afl,h,<-Ç,h]
structure C0[j]:@v where
 cl:@b1
 nA:@Y0
 nS:@JG
 nT:(ß,"top")
 nU:(ß,"cuts")
abbrev ab7:bi:=(mW,1)
def aE1:(eK,"place","place",ab7):=@E
def  ab8[h]:Sp:=(Cf,(ě,@þ,@x3,t<n,@Ţ<=10000,(fC,(iM,r,i,@ZW),@h6)))
def aE2(F:(h,"bring_up","Ring.bring_up",ab7))(T:@iQ):(Ş,1,"place",ab8 C):=by
 calc(e,aE1,@H);.clear h;calc(fT,fb λcs i aW _=>?_);subst aW;rfl
 .clear h;calc(fT,jt λcs i bf R ht hc q0=>?_);subst bf;let{{dx,hp},ja,l,aQ}:=R;let c:p≠cl:=(vr,hp,ja);let a:p≠g:=(vr,hp,l);rw[w,<-ß,(þ,(fn,(t!,(aR,@K,@ç))),@gF),<-a8,(ì,aP),<-s,<-ø,T.nU,(À,.inl (Iv @d _ (ak.of l)))];calc(ų,(b2,hp,T.nT,(Ĩ,(Di,(C2,l)))));rw[Â,aw,oB hc (c9,10000<bq)]
  .rw[s,<-ŀ,(d1,a),T.nT,4,<-s];calc q0 _ (ol,(d,aq,(cr,some (HO.ins C dx z),aEZ cl n t i g)),aQ) ?_;rw[Ê,aF c.symm,aF aQ,ja];.rw[aF @rj,aq];exact(ib,@Uu++[V.int (@ah3%@ö)])=_;rw[_M.ayd ht,bF];rfl
   rw[h!,aF h1,aF h3,e]
abbrev ab9:bi:=(mW,2)
def ab_:(c7,["self","place","below","card"],"place",ab9):=@E
def  aca[h]:Sp:=(Cf,(iH,@þ,@x3,r.length=n/\@õ/\i<n/\t<n/\@Ţ<=10000/\(fC,(iM,@dt,i,@ZW),@h6)))
def aE3(F:(h,"exchange","Ring.exchange",ab9))(T:@iQ)(I:@arj):(Ş,2,"place",aca C):=by
 calc(e,ab_,@H);.clear h;calc(fT,fb λcs i bu _=>?_);subst bu;rfl
 .clear h;calc(fT,jt λcs i bH R hl h2=>gX λhi ht hc q0=>?_);subst bH;rw[eX,<-h0,<-w,<-č,(ae,ab_.nd,(t!,@Z')),(Č,(dh,I,@K),(æ,ab_.nd,(lB,@K)),(þ,(DC,@adQ,@K),(DC,@Á,@R))),<-kH,<-s,<-á,(Di,?_)];let ej:@vI%@ö=(o,@ds):=(Q,B2);calc(m1,cl,g,n,r,t,cs,i,(ı,R,ht,hc,λH1 d o1=>?_));rw[s];let{{u,O},a,k,_}:=d;let c:p≠cl:=(vr,O,a);calc(GE,(ı,@d,@tA,(fY,i,@avx),?_));calc(GE,rm @d @d @tA (iA (j:=@ds) ej @JZ) _ @d ?_);rw[Ĺ,u,O,T.nA,(Ej,i,a,LN @J!),<-s,<-fd,(R,(Ţ,p,u,(C,c,O),T.nA,(Ej,@ds,aq,?_))),<-Ö,B1,aw,ej,LN @C]
  .rw[s];calc q0 _ {{u,(Ç,@gt,@gt,O)},?_,(Ç,@Sa,@Sa,k),aQ} ?_;.rw[aq];delta iE;rw[yS,yS,hl];rw[ci,(ib,(D?,(xl,cd r @ds),(xl,@wz))),(D?,(dU,(g3,@ds)),(dU,@abu))];rw[anV,anV]
   rw[h!,aF h2,aF h2,o1 b o e h1 h2 h3]
def di.trans[ay](a:(eM,H1))(b:(nX,H2)):(eM,H2):=λx o e h1 h2 h3=>b x o (a x o e h1 h2 h3) h1 h2 h3
def di.of_same[eb](a:@ō):(eM,H1):=λx o e _ _ _=>a x o e
def C1[ų]:pP @SP @SQ=(E,a,b):=by
 by_cases h:a=b;.subst h;simp[pP]
 .rw[(@hQ)];simp[pP,h]
abbrev acb:bi:=(mW,3)
def acd:(c7,(eI,"number","card"),"number",acb):=@E
def  Rb[h]:Sp:=λvs H Q _=>∃(p cl g:aa)(n:Nat)(r:eG)(t:Nat)(cs:@h)(no:Nat),(ě,.int no,@x3,@T,@ï,@bL/\@bK/\(fB,@Ŭ))
def aE4(F:(h,"place_of","Ring.place_of",acb))[ŗ]:(y!,Rb C):=by
 calc(e,acd,@H);.clear h;calc(fT,fb λcs no aW _=>?_);subst aW;rfl
 .clear h;calc(fT,jt λcs no bf R J hn=>cy λb1 b2 q0=>?_);subst bf;rw[eX];let hl:=J.len;rw[w,<-Ñ,(HJ,acd.nd,acd.nd,@K),<-s,<-ø,T.nA,(gE,cl,ja,@Ę)];calc(F9,r,ak.of ja);rw[Ľ];let{pl,pe}:=(k!,J);calc(Ů,u,(ç,D,_,_,@Ŭ,(ò,_,@d,@ih,@d,?_,bU @JZ ?_ ?_ @e7)));.rw[j_];ext x hx;rw[ň,@Rj];subst bu;rfl
  rw[j9];.ext m z' hm hz;rw[jW];cases hz;rw[C1];calc dE @Ź;let:@Ŭ=m:=(Cm,J);simp_all
abbrev ace:bi:=(mW,0)
def aE5:(õ,@yp,@yp,ace):=@E
def  LP[j]:Sp:=λvs H Q _=>∃(p a dx:aa)(r:eG)(n t:Nat),(cA,@ã,@Î,.int t,@lH,@YQ,@Š,∀(H':Hp)(cl g:aa),(iM,r,t,[])->(Á,cl)->(ë,@po,@lM,@ŕ))
def  aE6:=@λ{I W p2 p3 p4 p5}G j D B n z J F M N r=>@id (@LP I W p2 p3 p4 p5) ⟨G,j,D,B,n,z,J,F,M,N,r⟩
def aE7(F:(iy,"Ring.__init__",ace))[ŗ]:(Â,1,@yp,@Ov):=by
 calc(e,aE5,@H);.clear h;calc(xM,@tq);subst bH;rfl
 .clear h;calc(xM,jF λcb hp ha hl q0=>?_);subst cb;rw[w,<-Ă,(ü,@agY),(ü,@pq),(þ,@Jk,@cV),<-a4,<-s,<-ĝ,@eT];let d:p≠c:=eT hp hc;let O:(ž,(ah H c @SE) p,[]):=(d1,d);let i:ak K (û,c,@j4) a @j4:=(aL @ŗ hc).seq ha;calc(ob,T.nA);rw[s,<-è,a,aE0 O i,(aI,aq,T.nS,1),<-s,<-ŀ,aq,T.nT,2,<-s,<-Ó,@k8];let j:p≠u:=eT aq hu;let l:c≠u:=by calc eT (o:=@SE) ?_ hu;rw[(@ie),(@ie),(@ie),aq]
  rw[fv,j,T.nU,3,<-s];calc q0 _ c u (ol,(ds,aq,aw,hl),l) hc ?_ ?_;.rw[(@ie),aF l,(@ie),(@ie),(@ie),aq]
  rw[Ú,@sr,aq];.let:=hu;rw[nn];show this
  .ext b o e hb;let g:b≠c:=eT e hc;let M:(Á,u):=by let:=hu;rw[nn];show this
   rw[(@ak),(dE,M),(@ak),(@ak),(@ak),aF g];show e
abbrev acf:bi:=top 113
def aE8:(bA,@aip,"other",acf):=@E
def  t_[c](r q:eG):Nat:=@xM
def  anW[j]:Sp:=(l3,@T,@Ø/\0<n/\@ï/\@W_/\∀(H':Hp)(p cl g:aa),(iM,(j!,@eD,@eD),@adg,[])->@a7->(Á,cl)->(ë,@po,@Í,@ã))
def aE9(F:(h,"ring_of","ring_of",acf))[n](p:@aro)(m:(fI,"Ring",@yp,1,@Ov)):(iK,4,@akS):=by
 calc(e,aE8,@H);.clear h;calc gQ λa b r q n cB _=>?_;subst cB;rfl
 .clear h;calc gQ λa b r q n cZ=>lW λha hb R S h0 hn=>Fa λkY q0=>?_;subst cZ;let hl:=R.len;let pY:=Iu ha;let fin:∀(H1:Hp)(x dx a1:aa)(k t:Nat),@ō->@JN->@JO->@EX->ak K @qz a1 ((@uR++@uS).map @aJ)->@eD=k->@adg=t->LP K C (@dk::([.ref a1,.int t]++[])) @qz @O0 E0:=by
   ext H1 x dx a1 k t s1 nx nd ne sq G et;calc aE6 x a1 dx _ n t @d aq sq (by simp[hl];omega) (λH' cl g D c1 c2 O=>@ľ);rw[<-G,<-et]at D;let s2:@Í:=(Fy,nx);let hx:(Á,x):=s1.free nx;let f1:∀u,(B8,@auD,u)=@u->(Á,u):=λu hu=>by
    by_cases e1:u=x;.rw[e1,aq]at hu;cases hu
    .rw[aF e1]at hu;by_cases e2:u=dx;.rw[e2,aq]at hu;cases hu
     .rw[aF e2]at hu;show s1.free hu
   show q0 H' x cl g D hx (f1 _ c1) (f1 _ c2) s2
  let keep:∀(H1:Hp)(x dx a1:aa)(xs:@P),@JN->@JO->ak K H1 a1 xs->ak K @qz a1 xs:=by
   ext H1 x dx a1 xs nx nd h;by_cases e:x=dx;.subst e;rw[np,ah (Ľ,x,@m') x (.ins C x []),(fA,nx)];show@Uk
   .rw[np,@qz,(fA,nd)];show@Uk
  let d:∀(H1:Hp),@ō->@eD=0->Li C @Ov [] E0 (Ec,0) (_L.start @aip [@Î,@î]) H1 Q:=by ext H1 s1 e0;rw[Å,λx dx nx nd ne=>fin H1 x dx a 0 0 s1 nx nd ne ?_ e0 (Q,e0)];rw[pj,Gx,iO];show(HY,H1,a,@HJ)
  rw[w,<-Ĉ,(đ,(bG,(eO,@č),(a',(cX,@aeO))),(zQ,(b4,(za,aH),(u7,aH)),(aX,@č))),(zQ,@Ð,aH),<-ņ,<-s,<-è,a,pY,@CI];rw[aw,hl];apply@í
  .rw[ac,<-lH,<-nL,<-og];let ik:(A,@au!)↔@aR=1:=by
    let fU:=kY;rw[_M.akb R h0 I,j_]at fU;let vI:@aR=0\/@aR=1:=by let hm:@aR∈@Fh:=eD T;let ot:@aR∈(wH,@F5):=hm;rw[À,ot,@TF];let h2:=fJ (b5 r x+b5 q x) (c9,2>0);rw[e]at h2;omega
    let iB:∀no∈@ô,@nI=@aR:=λno db=>cF (fU _ (by delta jf;rw[hl];show(ý,no,db)));let i:@II∈@ô:=_M.kN.2 @aaZ;delta OO;rw[_M.uS R];constructor
    .ext hf;rcases vI with q0|q1;.exfalso;let:((bQ n).all λno=>@nI==0)=@o:=j_.2 λno db=>(Ê,iB no db,q0);rw[this]at hf;cases hf
     .show q1
    .ext nv;calc jA.2 λht=>?_;let:=j_.1 ht 1 i;rw[iB 1 i,nv]at this;cases this
   calc(ac,W,bU @vl @ax2 @d @Ą);apply@oB
   .rw[s];let e1:@aR=1:=(Ŀ,V.int.inj @uz);let es:@eD=1:=by delta t_;rw[aj {I,ik.2 e1}]
    calc(zn,a,(tS,@HJ));rw[ob,<-ſ,@akT,cP];calc(cO,1,(d',s2.seq pY,@vp));let Nc:(fH,@j4,@u,@cJ,@Ow):=by delta oW;rw[HT.Qq,(bD,@cJ,@D_),HT.E8,pj,J0,yV,aw,hl,(@GG)]
    rw[Nc];let s3:=(Ŗ,@Ow,s2,iL);let y:=(iZ,@Ow,iL,(ĉ,H1,p2,@akT));calc(nz,p2,p3,y,aq,@D0);.rw[aw,aw,jC,f_];show@uy
    .rw[<-bF];rw[aH,(r.drop 1++r.take 1).map @aJ,c,<-è,a,s4.seq pY,(cZ,λx dx nx nd ne=>?_)];let:=fin _ x dx p4 1 @Û s4 nx nd ne (HY,_,p4,@eZ) es (Q,es);rw[(fX,@Û,@f6)]at this;rw[aw,hl];show this
   .rw[s];let e1:¬@aR=1:=λe=>dB (bN (show(Ŋ,@aR)=@o1 by rw[e];rfl));rw[mo,e1 (ik.1 z.2)];show d H1 s1 es
  .rw[ai,<-mo,jx z.1];show d H @ĩ es
abbrev ua[Û][e2](G:eG)(t0:Nat)[ï]:@v:=(kL,@n4,@F!,@adZ)
def ua.push[P]{G:eG}{t0:Nat}{l:@h}[e](R:(kL,iE @n4 i,i,@adZ++[(i+n-@F!)%n])):(g6,H,@KZ):=by
 delta ua;rw[_M.Cg,_M.akj];let:(l++[i]).getLastD t0=i:=by simp[aZp]
 rw[Ã];show R
def acg{t0:Nat}{l:@h}(h:@ku)(ht:t0<n):@F!<n:=by rw[aZp];cases e:l.getLast? with|none=>show ht|some x=>show h x (aiM e)
def aE_[U][cg](o:@h6)(h1:@bz)(h2:@v7)(h3:@ir)(h:(ĺ,b,xs)):ak K H' b xs:=by rcases h with(h|⟨o',h⟩)|h;rw[Ä,.inl @atu,<-Ä,(as,o',@atu),<-Ç,h]
def aFa[e]{y:V}(h:(bz,@Zs)):i<@Ì/\y=(dU,@sf):=by
 rw[bB,g_,bB]at h;rcases ft i q.length with hi|hi;.rw[_M.qZ hi]at h;cases h;show(ć,hi)
 rw[ī,qg hi]
abbrev ach:bi:=top 114
def LQ:(Ü,["ring","other","place","card","at"],"ring","other",ach):=@E
def  anX[j]:Sp:=λvs H Q _=>∃(p cl g b:aa)(n:Nat)(G q:eG)(t0:Nat),(ě,@î,(g6,H,[]),@IK,@B!,@Ø/\@ï/\t0<n/\@bz/\@v7/\@ir/\(zT,@wJ))
def aFb(F:(h,"put_in_order","put_in_order",ach))[n](Nd:@z5)(c:@arn):(Â,3,["ring","other"],@akU):=by
 calc(e,LQ,@H);.clear h;calc(xN,fb λq t0 aW _=>?_);subst aW;rfl
 .clear h;calc(xN,jt λq t0 e R O hb=>lW λJ hn ht e1 e2 e3 q0=>?_);subst e;let m:=J.len;let sN:@lm:=by simp[b7,m]
  rw[mV,q,m,<-w,<-ß,aA (e!,@K,2,LQ.nd,3,LQ.nd,(AD,(a?,Nd,@wW),(aO,(ĝ,lV,@Ô,@R),(AD,(aX,@Ô),(dh,c,@Ô))))),<-í,@cf,sn _ aR,@Ħ,(cJ,(Ļ,bI)),<-s,<-ĉ,b,hb];apply(ÿ,∃(v2 v3 v4:@Ñ),σ=[@bM,@cA,v2,v3,v4]/\(h1,@l1)/\@h6,(hc,b,@Zs,(Gc,R,di.of_same @ŗ),om λ_ _ _ _ _ o=>aE_ o e1 e2 e3 hb))
  .ext i y σ H' T hi;calc om λv2 v3 v4 bf R' o'=>?_;subst bf;ext hT;rw[P];let{dM,rfl}:=aFa hi;rw[P];let u:i<n:=@Ä;let{b1,b2}:=_M.r9 J u;let r:=(nq,(pZ,@tB));let iB:(my,@l1):=@aqC;rw[gt,cQ G @l1,iB];let b_:(D_,@B1):=(HH,f_,(ys,@aul));let x:gk (Jq,@Q) 0 G=@l1++fZ (zA,@l1) i:=by rw[J2,show(H,@ŧ,@h4)by delta b7;rw[bB,_M.qZ dM];rfl,EB,_M.aye,f_,oE,(@GG)]
   rw[jX];let l:∃dx,(lR,(sm,(gk @B1 0 G).getLastD t0)):=R'.ins;generalize v:@l1=E' at*;generalize hS:(zA,E')=S at*;let{dx,hp}:=l;calc@dX;rw[s,<-Ň,aci (r _ _ hp) @d _ @d @tB @d (o6,c_ _ @h4 @Jg (R'.same r) I2 hn (aM b1 b2 (λH2 s2=>?_)))];rw[hS];let o2:(eM,H2):=o'.trans (di.of_same (r.trans s2));calc(JK,λσ H3=>∃k:Nat,k<=S-i/\σ=(HD,@bI-k)/\(g6,H3,@zY)/\(eM,H3),@Ue,eR 0 @C (Q,(Ā,@bI-(o,0),@bI)) (Ç,Gx,iO,(R'.same r).same s2) o2);ext σ H3;calc tR λk hk bu W M=>?_;subst bu;rw[Ï,@fE];apply@í
   .let N:i+k<S:=@ix;let d:(my,@zY):=by
     ext j hj;rcases bX.1 hj with h|h;.show iB j h
     rw[ā,_M.Pd @PS]
    let I3:aJ n (cQ G @zY):=(k?,d);let{BI,iL}:=W.ins;rw[â,(B1,(HD,@am?),(h1,E'++(fZ S i).take @û),@h6),?_];.ext σ' H4;rw[Ü,λbH R4 o4=>?_];subst bH;calc Iw _ ?_ @d @û @e @d ⟨R4,o4⟩;exact(@bI-(o,@û)).toNat<(@bI-@ë).toNat;omega
    .rw[s,<-á,(mU,(ez,iL,p,cl,dZ g n _ _ _ @K8 (kl ?_ W I3.len @e @e @age {?_,λH4 R4 o4=>aM ?_ ?_ (M.trans o4)})))];.exact(aB,@ns,@vP)=(zN,@K8);rw[(fX,@K8,@vP)]
     .rw[_M.UU,eM,f_];omega
     .exact[(aD,p),(aD,b),(ī,@nD),(ī,@tB),(ī,@vP)]=_;rw[(g',@vP,@am?)]
     .rw[_M.UQ @e,<-gh];show@Uw
   .rw[s];let h_:S<=i+k:=(CI,@ú,@bI-@ë);rw[Eg (by rw[_M.Pb];simp+arith[*]),<-x]at W;show zq _ _ _ @d W M
  .ext σ H';calc om λv2 v3 v4 cb R' o'=>?_;subst cb;rw[s];rw[fO,Eg @C]at R';show q0 H' R' o'
abbrev acj:bi:=top 116
def ack:(Ü,["ring","number","start","step"],"ring","number",acj):=@E
def  anY[h]:Sp:=λvs H Q _=>∃(p cl g:aa)(n:Nat)(G:eG)(t0:Nat)(l:@h)(no:Nat),(ě,.int no,(g6,H,l),@IK,@ku,(l7,8000)/\@ï/\t0<n/\@bL/\@bK/\(zT,l++@aej))
def aFc(F:(h,"bring_round","bring_round",acj))[ŗ](Nd:@z5)(c:@arn):(Â,3,["ring","number"],@Ux):=by
 calc(e,ack,@H);.clear h;calc(xO,fb λl no cB _=>?_);subst cB;rfl
 .clear h;calc(xO,jt λl no e R O hl=>jg λyC hn ht b1 b2 q0=>?_);subst e;rw[gt,@n4,hl,<-jX,<-Ā];let k:@aej=(Ī,@Û,(@Zo+i)%n):=by delta oG;rw[I2.len]
  generalize hS:@Zo=S at*;rw[w,<-ß,(þ,(ae,ack.nd,(a?,Nd,@K)),(cC,(aX,@ç),3,ack.nd,aA (dh,c,(t!,(aw,@R,@Á))))),<-a9,(Ļ,aP),(ì,aR),<-s,<-aR,cl,g,n,_,_,_,no,(Ĵ,R,I2,hn,b1,b2,@DZ)];rw[hS];rw[ak,@nE,T.nS,Ip _ _ @d @d @f6 @d (tO,@e)];apply(ÿ,(hk,σ=[@bM,(Ï,no),(Ï,S),v]/\(h1,@anX)/\@h6),(Fw,@s4,bC @u @d (by rw[List.range_zero,At,iO];show@sP) (di.of_same s1)))
  .ext i σ H' hi;calc cV λv cZ R' o'=>?_;subst cZ;rw[P];let d:(my,@anX):=by
    ext j hj;rcases bX.1 hj with h|h;.show hl j h
    .rw[À,h,λa _ d_=>?_];subst d_;show@nu
   let I3:=(k?,d);rw[g4];calc(mU,(fb,iL,(cz,(Al,BI,T.nS,(aH,@e,(o6,c_ _ @ET ?_ R' I3.len @e (bU @nu @age ?_ (λH4 R4 o4=>bC @tH @d ?_ @Uv))))))));.exact(aB,@ns,(@bI+@ar)%@ö)=(zN,@ET);rw[B2,(Ā,(o,S+i),@bI+@ar)]
   .rw[_M.UU,eM,aw,nI];omega
   .rw[uF,bF,<-gh];show@Uw
  .ext σ H';calc cV λv fz R' o'=>?_;subst fz;rw[s];rw[(@zd),<-k]at R';show q0 H' R' o'
abbrev acm:bi:=top 115
def Rc:(Ü,(c5,"ring","other","card"),"ring","other",acm):=@E
def  anZ[j]:Sp:=λvs H Q _=>∃(p cl g b:aa)(n:Nat)(r2 q:eG)(t:Nat)(cs:@h),(ě,@î,(kL,r2,t,cs),@vL,@B!,@Ø/\@ï/\∀(H':Hp)(d:aa),@Í->(ë,@vY,(Û,d,(wrong r2 q).map @ċ),@Ş))
def aFd(F:(h,"cards_on_wrong_side","cards_on_wrong_side",acm))[ŗ][am]:(hU,"ring","other",@akV):=by
 calc(e,Rc,@H);.clear h;calc bv λp cl g b n r2=>lA λq t cs aW _=>?_;subst aW;rfl
 .clear h;calc bv λp cl g b n r2=>dF λq t cs bf R I2=>gX λhb J hn q0=>?_;subst bf;rw[eX];let m:=J.len;rw[w,<-Ñ,(DU,"place","card",Rc.nd,@aaQ,Rc.nd,Rc.nd,(dt,@aaP,(b9,@adQ)),@wW),<-s];let ip:=@HK;rw[Ð,b,ip,@Ę];apply QR @aJ q @afH (lg,@mf) @e hD ip @ļ (λi z H' Q hz hs k=>?_) (λi z H' Q _ _ k=>(KV,@eC)) @vs
  .rw[a',(bE,m,hz)];let a:z=@sf:=by let:=_M.qZ (r:=q) (i:=i) @C;rw[aA];show@Q0
   let{c1,_}:=_M.r9 J hi;let{c2,_}:=_M.r9 I2 hi;rw[jc,@auO,(b2,@axC,T.nA,(ly,cl,(ĭ,ja),(fY,i,_M.qZ (Į,I2.len)),(Ñ,told (cd r2 i),@aet)))];rw[Bd c2,a,Bd c1,gR];let e:(dd,(ñ,@pW),(ñ,@KN))=(@pW !=@KN):=by cases(cd q i).up<;>cases(cd r2 i).up<;>rfl
   let k':=@eC;rw[a]at k';rw[e];show k'
  .apply q0 H1 D s1 hD ?_;rw[h1];delta wrong;rw[b6];rfl
abbrev acn:bi:=top 117
def aco:(ou,"ring","number",acn):=@E
def  an0[b]:Sp:=(l3,∃o,@co,@T/\@Ø/\0<n/\@ï/\@kV=@o/\(hr,(wayTo r q).map @ċ))
def aFe(F:(h,"way_to","way_to",acn))[ŗ](aMM:(ki,"ring_of",4,@akS))(aMN:(È,"put_in_order",["ring","other"],3,@akU))(aMO:(È,"cards_on_wrong_side",["ring","other"],2,@akV))(aMP:(È,"bring_round",["ring","number"],3,@Ux))(I:@arj)(Nd:@z5):(iK,5,@UA):=by
 calc(e,aco,@H);.clear h;calc gQ λa b r q n bu _=>?_;subst bu;rfl
 .clear h;calc gQ λa b r q n bH=>lW λha hb cb R S h0=>cy λhn kY q0=>?_;subst bH;let{ob,FY}:=cb;let hm:=_M.ayk R S h0 kY;rw[w,<-Û,aco.nd,(bk,aMM,@K),eP (ş,aMN,@K),(it,(d6,(ş,aMO,@K),3,aco.nd,eP (ş,aMP,@Á)),(xJ,I,(gp,Nd,@R,(gN,@cO))),@ap),<-aV,_,(um,a6),@f9,<-s,<-gF,im R S h0 hn kY (λH1 p cl g D np X N s1=>?_)];let ec:@eD=@xM:=rfl;rw[<-ec]at hm;generalize@eD=c at D hm;dsimp only at hm;let O:aJ n @ul:=_M.Ph R;generalize@ul=G at D hm O;let ht:@xL<n:=@WD;generalize@xL=t0 at D hm ht;let bp:@bz:=eT FY np;let bcl:@v7:=eT FY X;let bcu:@ir:=eT FY N;let k:∀{H'},(nX,H')->@Í:=λ{H'}o x u e=>o x u (s1 x u e) (eT e np) (eT e X) (eT e N);rw[à,p,cl,dZ g b n G q t0 (Ĵ,D,O,@ik,S,hn,dI ht bp bcl bcu @CZ),<-s];let l:(hH,@wJ):=@aqC;let Jn:(D_,@ŧ):=(HH,show@lm by simp[b7,S.len],hn);generalize@wJ=e at R2 l Jn hm;rw[gt,@fQ,l];let vI:IL K H2 b @jx:=(k o2).seq hb;rw[à,p,cl,dZ g b n _ q _ (ò,_,R2,I2,vI,S,{hn,λH3 d s3 nd h3=>?_})];let nB:(wrong @fQ q).length<=52:=by delta wrong;rw[aw];rw[eD];rw[OH,S.len];show hn
  let Ng:∀no∈@acV,1<=no/\@bK:=by ext no db;delta wrong at db;rw[À,db,λx hx cB=>?_];subst cB;let{z1,z2}:=_M.UX @GE;rw[<-z2];show _M.r9 S (K,S.len,z1)
  generalize@acV=W at h3 nB Ng hm;let dp:d≠p:=λz=>by let{dx,h}:=R2.ins;rw[z,h]at nd;cases nd
  let dcl:d≠cl:=(Dz,R2.cards);let dcu:d≠g:=(Dz,R2.cuts);calc(bL,d,h3);let M:(nX,H3):=o2.trans (di.of_same s3);let J:∀i,i<=@ca->(oF @avy @fQ).length<=2704:=λi _=>(vD,_M.akl _ _ I2.len,f_,(ys,@ca));let FG:∀i,(my,@NC):=λi j hj=>by
   rcases bX.1 hj with h|h;.show l j h
   .show _M.akm h0 _ _ I2.len j h
  calc(ÿ,(hk,σ=[@Ě,@cA,@bM,v]/\(h1,@NC)/\(nX,H')/\(Û,d,@UB)),(Ń,d,@UB,Pz,(bx,@u,by rw[Gx,show oF [] @fQ=[]from rfl,iO];show@D1,M,h3),λi σ H' _=>tR λ_ _ _ _ h=>@DU));.ext i y σ H' hi;calc tR λv cZ R' o' U=>?_;subst cZ;rw[P,<-P,<-ù];cases ew:W[i]? with|none=>rw[fi]|some no=>rw[bh];cases hi;rw[P];let{b1,b2}:=Ng no @u7;let hiw:i<@ca:=@Q9;let b_:=J i @e;rw[à,p,cl,dZ g n G t0 @NC no (Ĵ,R',O,FG i,(Ú,eM),hn,bU ht b1 b2 (λH4 R4 o4=>(bx,_,?_,@Uv,o4 _ _ U dp dcl dcu)))];rw[J2,ew,EB,_M.ayf,<-gh,<-_M.Cg];show R4
  .ext σ H';calc tR λv d_ R' o' U=>?_;subst d_;rw[s];rw[aw,iQ]at R';let iB:=FG @ca;let b_:=J @ca @Â;rw[iQ]at iB b_;let I3:=(k?,iB);rw[g4];let s5:=k o';let{b1,b2}:=_M.r9 S h0;calc(mU,(Ũ,iL,?_));calc(mU,(f0,iL,b,(Ŵ,s5.seq @HK,(ku,_M.qZ (d,S.len,h0)),cY (told (cd q 0)) @d p cl g n (bO _ _ _ @Em @Jg R' (dI I3 hn b1 b2 (λH5 s6=>?_))))));calc(o6,(é,_,(zB,e++oF W @fQ),R'.same s6,acg iB ht,(tA,_M.UU,eM),λH6 R6 o6=>?_));rw[s];let{{dx6,m},_,aMV,_}:=R6;rw[Ĺ,dx6,m,T.nU,q0 H6 g (k (o'.trans ((di.of_same s6).trans o6))) ?_];rw[aMV,hm,_M.akj]
def  LR[ā][c]:@Ù:=!(@KK||@ajh)&&(y7,@afz)
abbrev acp:bi:=top 118
def acq:(Gm,acp):=@E
def  an1[b]:Sp:=(Fr,@ó<=4000/\(Ŝ,LR ns n))
def aFf(F:(h,"is_way","is_way",acp))[n]:(AC,@UC):=by
 calc(e,acq,@H);.clear h;calc lA λa ns n aW _=>?_;subst aW;rfl
 .clear h;calc dF λa ns n bf ha hn q0=>?_;subst bf;rw[w,<-Ĉ,(f2,(a',@č),(bG,(a',@K),(gL,@č))),(sn,(F6,acq.nd,acq.nd,(EA,@K))),<-ņ,<-s];let b_:@UD=@ó:=aw _;calc sE @KK @ajh (xL,@cm) (λQ' q=>Il @ax0 @Fi @Ua (xL,@bG) q) ?_;rw[Ö,gR,b_,(ha,(eS,@vH)=@KK),q,<-Ê,gR,(ha,(bq,@ö,1,n,1)),q,<-Ê,b_,(Ar,(Ó,@cJ,@vH)=@Fi),q]
  .delta LR at q0;calc@í;.rw[s];let q:=q0 H @ĩ;rw[hc]at q;show q
   .rw[s];rw[(@nm)]at q0;calc@iT;apply(k8,@é,ns,λz=>.bl (sc,@afz),(į,@dK))
    .rw[bz];calc@í;.rw[hc,Eo]at k;show(tU,k)
     .rw[(@nm),zd]at k;show k
    .rw[Ľ];calc(iW,D,ns.map (λ(z:Int)=>(sc,(Ó,z,@ö))),@aeJ);rw[Ey];show@e7
abbrev acr:bi:=top 119
def Ix:(bA,["row","way","size","result","number","two_turned"],"way",acr):=@E
def  an2[b]:Sp:=λvs H Q _=>∃(a b:aa)(r:eG)(l:@h)(n:Nat),(kz,(ĺ,b,@P4),@Š,0<n/\@ï/\@dz/\@Ga/\@Ad/\(uf,@X7))
def aFg(F:(h,"walked","walked",acr))[n](G:@AW)[b9]:(ce,3,"way",@UE):=by
 calc(e,Ix,@H);.clear h;calc gQ λa b r l n bu _=>?_;subst bu;rfl
 .clear h;calc gQ λa b r l n bH=>lW λha hb hl h0 hn aQ=>cy λhk h2 q0=>?_;subst bH;rw[mV,r,hl];rw[_M.ako h0 l r hl aQ hk h2]at q0;obtain⟨u,l',rfl⟩:∃u l',l=u::l':=by cases l with|nil=>rw[ö,aQ]|cons x y=>show wk x y @d
  let yu:u<n:=hk u @A;let d:=λk(hk:k<n)=>_M.lz @hO h0;rw[w,<-cq,@mE,@č,@mE,(yC,G,@cO),(aC,@ahl,4,@mE,(cw,5,@mE,(mO,G,(ş,Nh,aH)),(æ,@mE,(ť,G,@Ć,(ş,DJ,@Ô))))),@Á,<-iT,<-s,<-ĝ,?_];rw[fO];rw[ð,(ac,b,LK hb @sE n u @d h0 (aM hn (jc yu) @UF))];calc(â,a,W,r,@Yn,@ŭ,bU m1 (ct,@akX) (aU,hl,d u yu) (λH2 p2 s2 O=>?_));calc(zn,b,(ź,@Ml,@vp));rw[ob];let g:(u::l').drop 1=l':=rfl;rw[g];let s3:=(Ŗ,@k_,@bC,iL);let e:=(ä,@k_,H2,iL);calc(bL,p3,aq);let h3:(á,(ah H2 p3 (.lst @k_)) p3,@k_):=aq;rw[aa,p3,@k_];apply(ÿ,∃(v4 N:@Ñ)(c:aa),σ=[@Ě,@cA,@bF,(T,c),v4,N]/\af H3 H'/\(Û,c,(Ų,@Nz))/\(_M.Hs n r @av5).length=n,(Ń,p3,@k_,Pz,(r0,p2,@ĩ,e _ _ O,by exact(done @Yn r).length=n;delta done;rw[aw,(@akX)]),(xK,λ_ _ _ _ s _=>(ta,h3))))
  .ext i y σ H' hi;calc dF λv4 N c cb s4 hc ja=>?_;subst cb;rw[P,<-P,<-ù];cases ew:l'[i]? with
   |none=>rw[fi]
   |some k=>
    rw[bh];cases hi;rw[P];let v:k<n:=hk k (by simp[eD ew]);let M:@õ:=h2 (by let:=@Q9;simp;omega);let HT:=_M.tM (n:=n) M;let m:_M.Hs n r (u::l'.take @Q)=done @Ů (done @ś @Nz):=by exact(l'.take @Q).foldl _ _=_;rw[J2,ew,EB,Gr];rfl
    generalize@Nz=D at*;rw[à,n,2,(ı,h0,hn,M,λH5 p5 s5 m5=>?_)];calc(â,c,p5,D,@ś,(ii,hc),bU m5 (ct,HT.len) (aU,ja,HT) @UG);rw[ð,(é,n,k,h0,hn,jc v,@UH)];let p:(sL,D)=n:=@aeP;calc(â,U,p7,done @ś D,@Ů,(xD,m6),bU m7 (ct,@akW) (aU,p,d k v) @UI);calc(Ã,_,_,p8,(((s4.trans s5).trans s6).trans s7).trans s8,(d,m,m8),?_);rw[m];delta done;rw[aw,(@akW)]
  .ext σ H';calc dF λv4 N c cB s4 hc ja=>?_;subst cB;rw[s];rw[aw,iQ]at hc;show(R,q0 H' c @cP hc)
abbrev acs:bi:=top 30
def aFh:(Õ,["byte"],"byte",acs):=@E
def  LS:Sp:=λvs H Q _=>∃b:Nat,vs=[@k?]/\(lz,@ş)
def aFi{l:aa}(F:(h,"kind_of","kind_of",acs))[Ŋ](D:@as!):(ę,"byte",LS):=by
 calc(e,aFh,@H);.clear h;calc bj λb aW _=>?_;subst aW;rfl
 .clear h;rw[E,λb bf q0=>?_];subst bf;rw[w,<-ľ,(HF,G.FIRST_LETTER,@Uh),(HF,G.FIRST_DIGIT,@HH),(đ,(c!,(lA,@Ð,G.BLANK),(lA,@Ð,G.LINE_END)),dY),(FA,D.SIGNS,D.SIGNS_d,@Ð,dY),<-f9,@za,<-s];delta cA at q0;calc(Ht,97,97,26);calc@í;.rw[s];let h1:@gR:=(tB,eZ);rw[(@cT)]at q0;show q0
  .let h1:¬@gR:=@agV;rw[(@Ĺ)]at q0;dsimp only[vf,ax,bZ];calc(Ht,48,48,10);rw[ì];.rw[s];let h2:@n_:=(tB,eZ);rw[(@gq)]at q0;show q0
   .let h2:¬@n_:=@agV;rw[(@aQ)]at q0;try dsimp only[vf,ax,bZ]
    calc sE (E,@fD,32) (E,@fD,10) (nP,gR) (nP,gR) ?_;rw[ì];.rw[s];let h3:@qP:=(tB,pk);rw[ŭ,h3];show q0
    .rw[s];let h3:¬@qP:=(dr,by rw[bw];omega);rw[(@j6)]at q0;calc(cO,@X',?_);rw[aDy];show q0
abbrev acu:bi:=top 31
def Re:(Ü,["text","place","kind","end"],"text","place",acu):=@E
def  an3[b]:Sp:=(Cg,vs=[@Î,@vc]/\@hx/\@bD/\(cv,@ĉ))
def aFj(F:(h,"end_of_piece","end_of_piece",acu))[n](J:@yF):(hU,"text","place",@UJ):=by
 calc(e,Re,@H);.clear h;calc lA λa t p bu _=>?_;subst bu;rfl
 .clear h;calc dF λa t p bH ha hp q0=>?_;subst bH;rw[cO,<-w,<-č,(ae,Re.nd,@aeK),(ok,Re.nd,@Z',(Ť,(c!,@ZO,@ZO),aA (aO,(bG,(nf,@Á),(ee,(ð,J,@KA),@R)),aA (æ,Re.nd,@Z?)))),<-õ,sn _ aR,@aam,@f9,<-s,<-kF,ha];delta bT at q0;generalize hk:@ý=k at q0;rw[á,?_];dsimp only[mw,vf,ax,bZ];calc sE (LE,k) (J_,k) (nP,gU) (nP,gU) ?_;apply@í
  .rw[s];let h1:@qM:=by rw[ie];show hc
   rw[(@cT)]at q0;let h_:=anp k @eg;rw[jC]at h_;calc(f_,H'=H/\∃j:Nat,j<=@gb/\σ=(F7,@lG),match σ with|[_,_,_,some (.int y)]=>@W0-@mC|_=>0,fH @d 0 @ð @d);ext σ H1;calc Cy λcb j hj cB=>?_;subst cb;subst cB;rw[Õ,a,(k2,@kA)];rw[b_];let exit:¬j<@gb->Q (Ŋ,@lG) H1:=λc=>(d,(Þ,j,@gb),q0);apply@í
   .let bK:(ei,@lG):=@ix;rw[Ï,(ba,a,ha,LH bK,(Ñ,(gd,@lG),(yl,@axl)))];rw[gU];rw[ì]
    .let b:=@Ī;let d:j<@gb:=by
      rcases ft j (ju k (t.drop (p+1)))with z|z;.show z
      .let ej:j=@gb:=@e;let:=aDz k @eg @Jv;rw[<-ej,drop_getD]at this;show absurd b this
     calc ab (Fa,(F7,@ģ+@Ö)) ?_ (į,@Ű);rintro σ' H'⟨rfl,rfl⟩;calc Q1 _ ?_ @d @d @Ö @e @d;show ajE (J5 bK) (Aq @lG)
    .rw[s,<-hG];let:=anq k @eg j z;rw[gJ];show(ŭ,this)
   .rw[hG];show(ŭ,@cL)
  .rw[s];let h1:¬@qM:=(dr,by rw[bw];show z);rw[(@Ĺ)]at q0;show@I5
abbrev acv:bi:=top 33
def Rf:(Õ,["spelt","number","byte"],"spelt",acv):=@E
def  acw[b]:Sp:=(L1,(∀x∈t,48<=x)/\(cv,rW t))
def aFk(F:(h,"number_of","number_of",acv))[Ŋ]:(ę,"spelt",acw K):=by
 calc(e,Rf,@H);.clear h;calc fb λa t cZ _=>?_;subst cZ;rfl
 .clear h;calc g9 λa t d_ ha ht q0=>?_;subst d_;rw[w,<-Ģ,Rf.nd,aH,(uA,Rf.nd,(d7,Rf.nd,(aR,(aw,@y9,@R),@HH))),<-ĭ,<-s];apply(Ŭ,a,@js,(Ń,a,@Hz,λi σ H'=>(oe,@Ě,@Mk),@ag9,λi σ H' _=>Fa λe _=>(ŋ,ha)))
  .ext i y σ H1 hi;calc@akQ;subst fz;subst jM;rw[P,<-P,<-ù];cases ew:t[i]? with
   |none=>rw[fi]
   |some x=>
    rw[bh];cases hi;rw[P];let hx:=ht x @u7;rw[á,{@zf,(cz,(k5,@d,(À,@I6)))}];show(cr,[@Ke,@kP,some @jk],show(o,@Mk)*10+@og-48=(o,@adF)by
     let e:@adF=10*@Mk+(x-48):=by delta rW;rw[J2,ew,EB,Gr];rfl
     rw[e];omega)
  .ext σ H1;calc@akR;subst qP;subst qQ;rw[aw,iQ];show@I5
abbrev acx:bi:=top 34
def acy:(F4,acx):=@E
def  acz[b]:Sp:=(AO,(Ŝ,@UK))
def aFl(F:(h,"is_decimal","is_decimal",acx))[n][Ŋ](J:@yF):(bu,"spelt",acz K):=by
 calc(e,acy,@H);.clear h;calc fb λa t sR _=>?_;subst sR;rfl
 .clear h;calc g9 λa t vK ha hl q0=>?_;subst vK;rw[cO,<-w,<-Ĉ,(f2,(a',@č),(c6,(sn,(zv,acy.nd,acy.nd,(bh,(aP,J),dY))))),(tg,(rL,@č),(am,wC,@kQ,@HH)),<-ņ,<-s];delta _M.AU at q0;rw[ĝ,@cm];rw[b_,gR];calc@í;.let h0:@Ú=0:=@gN;let e:t=[]:=rS.1 h0;subst e;rw[fC];show q
  .let h0:0<@Ú:=by
    rcases aiC t.length with z|z;.show absurd (bN @axq) hc
    .show z
   calc@iT;calc(k8,@ċ,t,λx=>.bl @EZ,(Ŭ,z,@d,(d,gU,@ao)));rw[Ľ,<-È,t.map λx=>V.bl @EZ,(t.map @Pf).map V.bl,(Q,b6)];rw[e2]at u;calc(ē,D,@ih);let e3:(t.map @Pf).all id=@DG:=by rw[Ey];congr 1;funext x;show(Io x).symm
   rw[e3];calc@Ą;let q1:=@e7;rw[(@aqX)]at q1;calc@oB;.rw[s,<-jg,(A,@DG)];rw[hd]at q1;show q1
   .rw[s,<-jg,@W'];rw[hd]at q1;rw[b?,@ľ];rw[b_,gR,(lT,@Ú,1,@Ú,1)];rw[ĕ];calc@akP;.rw[j]at q1;show q1
    .rw[jA.2 j]at q1;calc(eP,(L',@ŭ,LH h0));rw[gR];let e:(dd,(o,@Co),48)=decide @avP:=by by_cases z:@Co=48;rw[Ě,z,<-Ú,bN z,@oW]
     rw[e];show q1
abbrev acA:bi:=top 35
def aFm:(Õ,["spelt"],"spelt",acA):=@E
def  an4[b]:Sp:=(q?,(du,@hx,0<@Ú,@n3,(∀x∈t,@afv)/\(Ŝ,rD t)))
def aFn(F:(h,"is_number","is_number",acA))[n][Ŋ](j:@arc):(mQ,"spelt",@UL):=by
 calc(e,aFm,@H);.clear h;calc fb λa t vL _=>?_;subst vL;rfl
 .clear h;calc jt λa t g ha h0 hl=>Fa λhd q0=>?_;subst g;rw[cO,<-w,<-Ñ,(Er,G.MOST_DIGITS,(cc,j)),<-s];delta rD at q0;rw[ĝ,@ju];rw[b_];rw[ĕ];apply@í
  .let h1:(h_,13):=@ix;calc(č,a,t,ha,{hl,λH' s1=>?_});let q:=q0 H' s1;let e:@UK=@z7:=by delta _M.AU;let e1:@W':=j_.2 λx hx=>(u,Io,bN (hd x hx));rw[e1,(@aqX)];simp
   rw[(@uQ),Eo,<-e]at q;show q
  .let h1:¬(h_,13):=λz=>(ŭ,@e);rw[fC,<-eu,h1];show q
structure zP[j]:@v where
 cl:@b1
 nK:(ß,"kind")
 nP:(ß,"place")
 nS:(ß,"spelt")
 nW:@JF
 nN:(ß,"number")
def an5{b:Nat}(h:@ş="word"):@gR:=by
 delta cA at h;split at h;.assumption
 rw[nP]
def an6{b:Nat}(h:@ş="number"):@n_:=by
 delta cA at h;split at h;rw[Í,h,@ø]
 .split at h;.assumption
  rw[nP]
abbrev acB:bi:=top 32
def acC:(F4,acB):=@E
def  an7[b]:Sp:=(q?,(du,@hx,@n3,∀x∈t,97<=x/\x<123,(jm,.str @vn)))
def aFo(F:(h,"word_of","word_of",acB))[Ŋ]:(ę,"spelt",@UM):=by
 calc(e,acC,@H);.clear h;calc fb λa t aW _=>?_;subst aW;rfl
 .clear h;calc jt λa t bf ha hl ht q0=>?_;subst bf;rw[w,<-Ñ,aC2 dY (zv,acC.nd,acC.nd,cI amy (aDs G.LETTERS) (aR,@K,@Uh) @ļ),<-s];calc aFp @c? _ @d a @d @js @Ę;calc(j',@ċ,t,λb=>V.str ⟨#[b]⟩,ha,λi z H' Q hz _ q=>?_);.let{h1,h2}:=ht z @k';show(į,(Ã,_,_,z,@d,@ø,{aDA h1 h2,@ao}))
  .rw[Ľ];apply(Ã,_,D,@HA,@d,(Ý,@aeJ),@hY)
   .let e:((t.map @Dq).map @awv).sum=@Ú:=by revert u ha ht hl q0;cases t with|nil=>rfl|cons x t ih=>rw[cT,cT,jB,ih,eE];exact 1+@Ú=_;omega
    rw[e];exact@Ú+(t.map @Dq).length*0<=16777216;omega
   rw[Â,aDB,@e7]
abbrev acD:bi:=(en,29,0)
def aFq:(õ,@yG,@yG,acD):=@E
def  an8[h]:Sp:=λvs H Q _=>∃(p dx sp:aa)(kd:au)(pl:Nat),vs=[@ã,.str kd,.int pl,.ref sp]/\@lH/\(fC,(lR,pf kd pl sp "" 0),@lM)
def aFr(F:(iy,"Piece.__init__",acD))(T:@KY):(Â,1,@yG,@UN):=by
 calc(e,aFq,@H);.clear h;calc gQ λp dx sp kd pl bu _=>?_;subst bu;rfl
 .clear h;calc gQ λp dx sp kd pl bH=>@aiI;subst bH;rw[w,<-Ă,@gF,@Jk,(tr,(ü,@Á),aA @v_),<-kH,<-s,<-d',hp,T.nK,@CG,<-s,<-ŀ,aq,T.nP,1,<-s,<-ŀ,aq,T.nS,2,<-s];calc(bw,T.nW,3);rw[s];calc(bw,T.nN,4);rw[s];calc q0 _ (Q,aq) @Ti;rw[(@ak),(@ak),(@ak),(@ak),(@ak)];show e
def acE[T]{p e:Nat}(hp:p<=e)(he:(h!,e)):(D1,@IC,(v,e),p,@J0):=(F2,yZ (Ò,p<=@Ï),yZ he)
def  yb[cA](p:aa)(x:Pc):@v:=∃dx sp,@ate/\@amk/\@Jc/\k p=@u/\k sp=@u
def  Rg:=@λ{I W p2 p3 p4}G j D B n z r=>@id (@yb I W p2 p3 p4) ⟨G,j,D,B,n,z,r⟩
def yb.same[ħ][Ë](h:@x4)[m]:yb C k H' p x:=by clear h;calc jt λdx sp a b c d e=>?_;show Rg dx sp @Ż @v! c d e
inductive pR[cA]:@alR|nil:(jZ,[],[])|cons{p x ps xs}:@x4->@gS->(jZ,@acO,@it)
def pR.same[Ę]{k H H':Hp}{ps:@Ë}[Ŗ][m]:pR C k H' ps xs:=by cases h with|nil=>rw[ñ]|cons a _ ih=>rw[Ż,a.same s]
def pR.push[db][U][Ë](h:@gS)(hx:@x4):(jZ,@LM,@Kl):=by cases h with|nil=>rw[ģ,hx,@á]|cons a _ ih=>rw[Ż,a]
def pR.len[Ŏ][Ŗ]:@KI:=@A_
abbrev acF:bi:=top 36
def acG:(õ,["text","place","end","spelt","piece"],["text","place","end"],acF):=@E
def  an9[j]:Sp:=(Cg,(cA,@Î,@vc,(ď,@ĉ),@hx,@n3,@bD,(qd,yb C H H' q @m0)))
def aFs(F:(h,"piece_at","piece_at",acF))(T:@KY)(J:@yF)(Ni:(fI,"Piece",@yG,1,@UN))(R:(ĩ,"word_of","spelt",@UM))(S:(È,"is_number",["spelt"],3,@UL))(W:@ao_):(Â,4,["text","place","end"],@akY):=by
 calc(e,acG,@H);.clear h;calc lA λa t p aW _=>?_;subst aW;rfl
 .clear h;calc dF λa t p bf ha fO=>@aiI;subst bf;rw[Ŭ,<-fD];let gc:@e_=@lA:=@agz;rw[w,<-č,(æ,acG.nd,(rW,@K,@R)),(è,4,acG.nd,CU Ni @ž (ac @aeK (Ď,@K,@Á)),(CJ,(AY,R)),(ħ,(CJ,(hM,kh (hT,S),(AY,W),(Mz,dY))),@Ô)),<-î,_,bZ _ aR a6,(ķ,bI,aP),(b3,_,@Nd,@hJ,@tK),<-s];calc(ar,(ų,(d',ha,λsp D=>?_)));rw[acE _ @e (dO,h_),<-yU,<-yV];rw[Ŋ,@qZ,D];let G:(á,(ah H sp (.lst @qZ)) sp,@qZ):=aq;let g:∀H1,@ō->(dQ,sp,@qZ)->∀(q dx:aa),@vX->(ž,H1 q,pf @xK p sp @aqD @qV)->@aaJ:=by
   ext H1 s1 h1 q dx U h2;let aQ:@yC≠[]:=by ext z;let z2:@e_=0:=(Ř,z);omega
   show q0 H1 q s1 (Rg dx sp h2 h1 aQ U D)
  exact _;rw[kF,@ŭ];calc(ų,λq dx n nd ne=>?_);calc(ŉ,q,dx,sp,@ý,p,{aq,λH2 B O=>@ľ});let s2:@gB:=(Fy,n);let I:(á,H2 sp,@qZ):=af.made n nd O _ _ G;let y:@vX:=s1.free n;let c:sp≠q:=eT G n;let j:(AL,@xK,(mM,@j',@ý)):=rfl;let l:@aqD=(P,@ý,"word",xW @a8,""):=rfl;let m:@qV=(P,@ý,"number",(yM,rW @a8),0):=rfl;let nE:∀k,@ý=k->@qM->@afR:=λk e hw=>anr e hw hp;generalize@ý=k at*;let M:k="number"->∀x∈@a8,@afv:=λe x hx=>(Ņ,(G!,.inr e));rw[dE,B];rw[gU];calc@í;.rw[s];let d:k="word":=@Ī;let Ai:(m4,k):=(ko,d);rw[ű,sp,I,aM @e (λx hx=>an5 (K,d,(G!,@Qq))) (λH3 s3=>?_)];calc(bR,q,@Yt,(et,T.nW,5));rw[s,<-dE,aq];rw[gU];rw[ŷ,λdB=>absurd @uz Ai,<-s,<-ds,<-c1,(Í,s2 b o e),<-å,c,(Í,I)];.rw[aq,j,ag Ai,l,aj d,m,ag Ai];rfl
  .rw[s];let d:¬k="word":=@ER;rw[dE,B];rw[gU];rw[c6]
   .rw[s];let v:k="number":=@uz;rw[ű,sp,I,bU @e @e (M v) @vt];let SO:=@Yt;let r:=(Í,I);let u:=@dG;calc b9 @G5 @G5;.rw[s,<-ű,sp,r,(À,λx hx=>(an6 (M v x hx)).1)];calc(bR,q,SO,(et,T.nN,5));rw[s,<-ds,<-c1,u b o e,<-å,c,r,<-pf,@uP,@uP]
    .rw[s];calc(ç,q,C,dx,_,(jv,SO,T.nK,5));rw[s,<-ds,<-c1,u b o e,<-å,c,r,<-pf,ag hb,ag hb]
   .rw[s];let v:(m4,k):=λz=>dB (bN z);rw[Å,g _ s2 I q dx y ?_];rw[B,j,ag v,l,ag d,m,ag v]
abbrev acH:bi:=top 37
def LU:(Õ,(c5,"text","pieces","end"),"text",acH):=@E
def  Rh[cA](l:aa)(xs:@ŷ):@v:=(lm,@wl/\@gS/\k l=@u)
def  acI:=@λ{I W p2 p3 p4}G j D r=>@id (@Rh I W p2 p3 p4) ⟨G,j,D,r⟩
def  acJ[j]:Sp:=(AO,∀(H':Hp)(l:aa),(cQ,Rh C H H' l @qK,@ē))
def aFt(F:(h,"pieces_of","pieces_of",acH))[n](J:@yF)(W:(pz,"end_of_piece","place",2,@UJ))(S:(È,"piece_at",["text","place","end"],4,@akY)):(Â,5,["text"],acJ K C):=by
 calc(e,LU,@H);.clear h;calc fb λa t bu _=>?_;subst bu;rfl
 .clear h;calc g9 λa t bH ha fO q0=>?_;subst bH;rw[cO,<-w,<-ß,(è,1,LU.nd,@Ĵ,(ae,LU.nd,aH),(ħ,(aO,(nf,@R),(è,3,LU.nd,(q0,W),(iz,(dt,(ð,J,@tZ),dY),@K,(om,S)),(bi,2,LU.nd,@Á))),@K)),<-õ,_,@nA,(L_,(d2,cC)),<-s,<-Ġ,<-lR];calc(f_,∃(p f:Nat)(v:@Ñ)(done:@ŷ),@aba/\@Ú=f+p/\(d8,(iT,(Ï,p),v),Rh C H H' D done,done.length<=p,done++@t2=@qK),match σ with|[_,_,some (.int y),_]=>@Ú-@mC|_=>0,bO 0 @Ú @u ([]) @C @C (ı,j,acI ([]) aq @á hD,@Â,@d));ext σ H1;calc i8 λp f' v done hp hf=>jF λcb s1 hd Ak he=>?_;subst cb;rw[h5,@ŭ];rw[b_];rw[ì]
  .let bK:@bD:=@ix;rw[Ŭ];let h_:=Im bK;obtain⟨f2,rfl⟩:∃f2,f'=f2+1:=(aK,f'-1);let m:(dp,@W1)=@yI++@abq:=by
    rw[É,(dp,@W1),@yI++(dv,f2),(df,@ym,bK)];rw[e1];congr 1;let key:∀k,(dv,@km+k)=@abq:=by ext k;cases k with|zero=>rfl|succ k ih=>rw[<-qf,aDC t _ _ @e,ih]
    let:=key @ah2;rw[(Þ,@km+@ah2,f2)]at this;show this
   rw[aX,λσ' H'=>∃o:@ŷ,σ'=(iT,@Y5,@Y5)/\@Í/\Rh C H H' D o/\@ĺ<=@ģ/\o++(dv,@km)=@qK];.ext σ' H';calc UK λo cB b1 b2 T R=>?_;subst cB;calc abQ _ ?_ @d @ĉ @km _ (iu o h_ @Ä @d b1 b2 (aJ,R));show ajE bK @bZ
   .rw[s,<-à,a,t,eR p @d @ŭ bK ?_,<-Ï,(ba,a,@ŭ,LH bK,(qW,@ha,@Ą))];rw[gU];clear hd;rw[Ë,λps u fU _=>?_];apply@í
    .rw[s];let l:¬@ý="blank":=λz=>by rw[bN z]at hc;simp at hc
     rw[Ý,u,(ar,(Ã,a,t,p,@ŭ,fO,{bK,λH2 q s2 U=>?_}))];calc(gS,@Y!,@hY);rw[đ,fU.len,@ĳ]
     .rw[s];apply(c',@alS,(Ć,@bC),acI @ac4 @Ka ?_ hD,(À,@iA))
      .let G:yb C H H2 q @m0:=by clear U;calc jt λdx sp a1 X M I a5=>?_;show Rg dx sp a1 X M (s1.free I) (s1.free a5)
       let e:=(fU.same s2).push G;revert m;generalize@ac4=ps2 at e;generalize@alS=d2 at e;let n:=@Y!;let up:∀{p' d},yb C H H2 p' d->yb C H (Ù,H2,D,(œ,@Ķ,q)) p' d:=by
        ext p' d;calc jt λdx sp e1 e2 e3 e6 e7=>?_;calc Rg dx sp (C,(λz=>by rw[z,n]at e1;cases e1),e1) ?_ e3 e6 e7;by_cases z:sp=D
        .exfalso;rw[z,n]at e2;let e4:@Ķ=d.spelt.map @Cc:=by injection e2 with e2;injection e2
         cases g:d.spelt with|nil=>show e3 g|cons b r=>rw[g]at e4;cases ps with|nil=>cases e4|cons c r'=>injection e4 with e5;cases e5
        rw[å,z,e2]
       cases e with|nil=>rw[ñ]|cons a _ ih=>rw[Ż,up a]
      .rw[m,ag l]at he;rw[gh];show he
    .rw[s];let jz:@w3:=by
      by_cases z:@w3;.show z
      .rw[dE z]at hc;simp at hc
     calc(c',done,s1,acI ps u fU hD,(À,@e));rw[m,aj jz,GF]at he;show he
  .rw[s];let wZ:p=@Ú:=(CI,@IC,(v,@Ú));let O:f'=0:=@e;subst O;let:(dp,0)=[]:=rfl;rw[this,iO]at he;rw[Å,(dF,H1,s1)];rw[<-he];show hd
def aFu(x s:Nat):(m9,(v,s),@og,@og)=told ⟨x,s==1⟩:=by
 delta told;by_cases h:s=1;.subst h;simp
 rw[Ú,@aX,ag @Iv]
def aFv(o s:@h):((nL o).zip (nL s)).map (λz=>V.int (m9,z.2,z.1,z.1))=(Ų,@as):=by rw[g_];delta ie nL;rw[List.zip_map,b6,b6,b6];rw[Î];ext z _;exact V.int (m9,(o,z.2),@Xu,@Xu)=(dU,⟨z.1,z.2==1⟩);rw[aFu]
def an_[aX]:@al1:=(zL,Ay h)
def Fp[a](h:@hM)(hb:@ŋ):a≠b:=(ea,hb)
def aoa[T][r]:(fH,xs,@u,@ë,@RU):=by
 delta oW;rw[HT.E8,HT.Qq,pj,J0];rcases aZn k xs.length with h|h;.rw[yZ h]
 .rw[ajH h,iQ,Eg h]
def LV[e9]:(xv,@akZ=@ak0)|[],_=>rfl|_::_,0=>rfl|a::l,i+1=>(f1,f a::@akZ,f a::@ak0,LV f l i)
def aFw(i m:Nat):@asy:=@an4
def aFx(i m:Nat):i/@ej/@ü=i/@CR:=by rw[aZq];exact i/(@ej*@ü)=i/@ait;rw[B0]
def aFy{i j c:Nat}(h:(Ë,(gI,i),c))[bm]:c<n-j:=by rw[jb];simp only[g8,aw,nI,bB]at h;rw[(@F7)]at h;simp at h;rw[kJ];omega
def aFz(m i:Nat):(wB,@Nn)=(ia,@Nn)++[(i/2^m)%2]:=(Ê,uF,bF)
abbrev acK:bi:=top 8
def Ri:(Ü,["numbers","sides","number","side"],"numbers","sides",acK):=@E
def  acL[b]:Sp:=λvs H Q _=>∃(a b:aa)(o s:@h),(bf,@î,(eo,@tC),(tX,s),@xN,@ĺ<=52/\(uf,@as))
def aFA(F:(h,"with_sides","with_sides",acK))[g]:(dD,"numbers","sides",acL K):=by
 calc(e,Ri,@H);.clear h;calc pH λa b o s aW _=>?_;subst aW;rfl
 .clear h;calc i8 λa b o s' bf ha=>gX λhb he hn q0=>?_;subst bf;rw[w,<-dF,"number","side",Ri.nd,(n6,@Ð,@K),Ri.nd,Ri.nd,rw @JP (CF CH @R) @R,<-s,<-à,a,b,(b5,_,ha,hb,@Ę)];apply(HX,@tC,nL s',(m9,y,x,x),@Yy,by rw[lX,lX];simp[*],ha,hb,?_)
  .apply@a';rw[gR];rw[ì];.let hc:=@Ī;rw[fd,?_];let k:=@eC;rw[(@oP)]at k;show k
   .let hc:¬y=1:=@ayp;calc(É,?_);let k:=@eC;rw[(@oO)]at k;show k
  .rw[aFv]at h3;show q0 H3 D s3 h3
abbrev acM:bi:=top 97
def C4:(õ,["row","numbers","place","side","sums","at","number","sides","change","other"],@Fp,acM):=@E
def  acN[b]:Sp:=λvs H Q _=>∃(a b:aa)(r:eG)(o:@h)(n p s:Nat),vs=[@Î,@î,@vc,.int s]/\@cp/\@aa2/\@T/\@ĺ=n/\@UO/\p<n/\@ï/\(f5,AS r o p s)
def aFB(F:(h,"sides_by_one","sides_by_one",acM))[g](m:@yr):(Â,3,@Fp,acN K):=by
 calc(e,C4,@H);.clear h;calc bv λa b r o n p=>bj λs bu _=>?_;subst bu;rfl
 .clear h;calc bv λa b r o n p=>rE λs' bH ha hb R sN=>gX λC hp hn q0=>?_;subst bH;rw[w,<-aT,(iw,@g4,@KG),(fe,7,@g4,[("at",5),("number",6)],@aaQ,(hj,5,@g4,6,@g4),@hb,(bJ,(ō,@Ô,(aX,@Ł)),@Ć)),(Ĝ,8,@g4,(bJ,(ō,@Ń,@R),@Á)),(ŵ,"other",9,@g4,gn @Ń,9,@g4,(bJ,@ij,@aU)),<-a4,<-s,<-dM,<-Ð,b,@ik,@Ę];let um:=@ik;rw[CV]at um;calc QR @ċ o @cq (zg,@amE) @e hD um @ļ @rL @UP @oe;.let{z1,z2}:=C z @k';calc(AH,(e1,W,@ZR,(Fz,z,z),(cz,@ae3)));rw[bz];rw[(Ā,z-1+1,z)];rw[B2,Kr]at k;show k
  .rw[(@cw)]at h2;rw[È,o.zipIdx.map λz=>(Ŋ,@amE),(xW,@ċ),(Q,b6)];rw[e2]at h2;let c:(f5,(xW,λz=>(z+(@apT+s')%2)%2)):=q0;let yC:(o.zipIdx.map @sm).length=n:=by simp[sN]
   revert q0 e2;generalize@QN=l at h2 c yC;let d:(Æ,l,p,@Kg):=(aW,@eE);rw[Õ,D,(Ŵ,@f3,(fY,p,d),(į,@ae3))];calc(Ĳ,D,h2,@dH);calc rB @ċ l @cq (zg,(z+(@Kg+s')%2)%2) @e ia @f3 @ę @rL (λi z H' Q _ _ q=>(tU,@adU)) @DY;.rw[bz];rw[B2,Kr,B2,Kr]at k;show k
   .rw[(@cw)]at h3;calc c H3 D2 @fY ?_;rw[h3,CV,b6];rfl
abbrev acO:bi:=top 98
def aob:(õ,(kt,"sides","settled"),["row","sides","place"],acO):=@E
def  acP[b]:Sp:=λvs H Q _=>∃(a b:aa)(r:eG)(l:@h)(n p:Nat),(cA,@Î,@î,@vc,@cp,(tX,l),@T,(aF,p)/\@ï/\@Ã<=52/\(f5,mT r l p))
def aFC(F:(h,"settled_by_others","settled_by_others",acO))[g](y:@zx):(Â,3,["row","sides","place"],acP K):=by
 calc(e,aob,@H);.clear h;calc bv λa b r l n p=>Fa @tD;subst cb;rfl
 .clear h;calc bv λa b r l n p=>lW λcB ha hb R hp hn=>Fa λhl q0=>?_;subst cB;rw[w,<-ß,(è,3,aob.nd,@agY,(lp,(bJ,(aw,@KF,(i4,(KY,@K,@R))),(i4,(Ma,@Z!))),@Á,@R),(à,@Á)),<-ga,<-s,<-è,b,hb,@Ę,<-Ŋ,@gE,hD,<-Ð,a,@ŭ,{(CX,R.len),λH1 s2=>?_}];let u:=(ġ,(ĉ,H,D,@gE));let s3:=@bC;calc(ar,CL b _ @d (s3.seq hb) @vu);rw[aoa];rw[aH,@Av,O];let d4:=(eR,.lst @Av,@TG,O,u);rw[É,@Av,(Ä,@TT),(Ah,yV,yV)];calc(iW,W,nL @TT,(ix,e1));calc(Ĩ,(Ē,_,_,(f0,@d,b,(tS,s4.seq hb))));rw[(Ā,@IC+1,(o,@ģ)),Ir];let s5:=(Ŗ,@Aw,s4,cP);let C:=(iZ,@Aw,cP,d4);rw[È,@Aw,(Ä,@P!),(Ah,yU,yU)];calc(iW,p2,nL @P!,(ix,e2));calc(CR,(É,Lk D _ _ p @d @d C (LN (aa,lX,hp)) @dK));calc(dF,_,@Yw);rw[aq,Q4 R,QW,QW];delta mT nL;rw[yS,yS];congr 3
abbrev acQ:bi:=top 99
def Fq:(Ü,["size","rank","choices","left","to_come","numbers","choice"],"size","rank",acQ):=@E
def  aoc[b]:Sp:=(Fs,@ï,(f5,(f?,i)))
def aFD(F:(h,"numbers_of_rank","numbers_of_rank",acQ))[g]:(AB,@UQ):=by
 calc(e,Fq,@H);.clear h;calc fb λn i cZ _=>?_;subst cZ;rfl
 .clear h;calc cw λn i0 d_ hn q0=>?_;subst d_;rw[w,<-Û,@jd,@Ĵ,(bS,(nN,@Mu),3,@jd,(þ,(iC,(yT,@Á)),(cy,@jd,(Af,@Á)))),(ĳ,4,@jd,(v?,@Mu),5,@jd,@Ĵ,(ħ,(bS,(oH,@R),6,@jd,(b8,@Ć,(FW,@Ô,@Ł))),@Ć)),<-õ,@m_,@Ħ,(b3,_,@hr,ax (Ļ,fj) cC,@tK),<-s,<-Ġ,<-Ş,<-nZ];apply(ÿ,(Az,(LG,i),[@bF,(ê,@x0),@ū,v,@u,@u,@u]),(he,1,@sh,(E5,(yo,i0/fk 0,i0))))
  .ext i σ H1 hi;calc P9 λs2 d2 v fz=>?_;subst fz;rw[P,<-Ý,d2,(Ň,(aH,@anh,(gS,d2,(À,by rw[aw,lX];simp only[g8,aw,nI];show@ĳ)))),<-s,<-Ï,(aH,{@anh,(y2,@ho)},HD @Jt ?_ @I9 ?_)];.rw[aq,aFw];delta nL;rw[bF,bF];rw[ci,(ib,_++[V.int ((o,@x0)%@ho)]),_++[(Ŋ,@x0%@Q)]];rw[B2,(@zA)]
   .rw[<-aFx,Uw @x0 @Q,(@zA)];rfl
  .ext σ H1;calc P9 λs2 d2 v jM=>?_;subst jM;rw[s,<-s];rw[(@qt)]at d2;rw[dP];calc(o0,@UR);rw[(@qt)];let s3:=aL (o:=@iW) s2 cP;let d3:=(eR,@iW,@ĩ,cP,d2);let r:=Fp d3 hT;let y:=s3.free hT;rw[o?];rw[et];rw[aH,@f8,hT];let d4:=(iZ,@f8,hT,d3);let t4:=(ĉ,(Ľ,p2,@iW),T,@f8);rw[Ó,@US];let u:=Fp d4 S;let Jy:=Fp t4 S;let z:=s4.free S;let s5:=(Ŗ,[],s4,S);let C:=(iZ,[],S,d4);let t5:=(iZ,[],S,t4);rw[ĉ,D,ak.of C];let ja:(qa,g8 i0 n)=n:=by simp[nL,g8]
   let g:(g8 i0 n).length=n:=by simp[g8]
   apply aDS (K:=K) (a:=D) (xs:=@agt) @d (λi σ H'=>@Í/\(ł,@agt)/\∃(d l:@h)(v1 v3 v6:@Ñ),(Û,T,@gE)/\(Û,N,(Ä,d))/\@Ã=@Ř/\d.length=i/\d++lQ @ahF l=(f?,i0)/\σ=[@bF,v1,@ū,v3,(T,T),(T,N),v6]) (jI s5 C ([]) @ô _ _ (iu @u t5 aq (_M.iR n) @d @d @d)) (xX,@š) ?_ ?_
   .ext i x σ H' hx hi;calc(BN,λv6 t6 p yC m j qP=>?_);subst qP;rw[P,<-P];rw[ja]at hx hi;let fV:∃c,(H,(gI,i0),c)/\x=@Kh:=by rw[bB,Fi]at hx;rw[Gu @C,g];cases ec:(g8 i0 n)[n-1-i]? with|none=>rw[ec]at hx;cases hx|some c=>rw[ec]at hx;show(Ñ,c,(cM hx).symm)
    clear fV;rw[E,λc hc qQ=>?_];subst qQ;rw[P];let G:=aFy hc hi;let e:@wO:=@C;let Nm:@ahF=c::(MA,@Q):=by let bK:=@Cd;let{h1,h2}:=bK;rw[yO h1,h2]
    rw[Nm]at j;calc(Ix,p,t6,c,l[c],t6);rw[k7,<-ä,bB,Fi,cJ e]
    .apply(od,N,(C,Jy.symm,p));rw[s];calc jI (dA (dA s6 y) z) (Ç,aF u,aF r,d6) (d++[l[c]]) @k9 v1 v3 (iu (ê,c) ?_ ?_ ?_ ?_ ?_ @d);rw[n9,Jy,<-lu];.rw[aiI,aj e];omega
     rw[Ú,eM,m];.rw[<-j,gh];exact d++(l[c]::_)=d++(@Kf::_);rw[eY,cJ e];rfl
   .ext σ H';calc(BN,λv6 t6 p yC m j sR=>?_);subst sR;rw[s,<-Å,q0 H' N s6 ?_];rw[<-j,ja,yP (Ç,lK,g,@Â)];rw[ci,_,(Ä,d++[])];rw[iO];show p
abbrev acR:bi:=top 100
def Rj:(Ü,["size","rank","sides","place"],"size","rank",acR):=@E
def  aod[b]:Sp:=(Fs,0<n,(aQ,(f5,qt @Û i)))
def aFE(F:(h,"sides_of_rank","sides_of_rank",acR))[g]:(AB,@UT):=by
 calc(e,Rj,@H);.clear h;calc fb λn i vK _=>?_;subst vK;rfl
 .clear h;calc g9 λn i0 vL h0 hn q0=>?_;subst vL;rw[w,<-ck,Rj.nd,(cC,(aX,@Ð),3,Rj.nd,(þ,(iC,@Zk),(cy,Rj.nd,(mP,@K)))),(oI,@R),<-lv,<-s,<-Ġ,<-Ş,<-á,eR @f6 @d @e @e ?_];apply(ÿ,(Az,(Ä,(l!,λj=>(i0/2^j)%2)),[@bF,(ê,@LV),@ū,v]),(he,0,@s4,(E5,(Q,(kX,i0/2^0,i0)))))
  .ext i σ H1 hi;calc P9 λs2 d2 v g=>?_;subst g;rw[P,<-Ý,d2,(į,QI @aI D _ _ @d @d (Ø,d2,by rw[aw,lX,aw,nI];show@ĳ)),<-s];calc(į,aZ1 {@aI,(gb,(v,2)<1073741824)} @Jt ?_ @tH ?_);.rw[aq,aFz];delta nL;rw[bF,bF];rfl
   rw[Ú,show i0/2^@Q=@LV/2 by rw[Gq,aZq],Uw @LV 2]
  .ext σ H1;calc P9 λs2 d2 v m=>?_;subst m;rw[s,<-ű,D,d2,@Ŝ];calc(r1,aL s2 hp);rw[aq];delta qt nL;rw[<-N_,<-N_,(@zd)]
abbrev acS:bi:=top 101
def LW:(bA,["row","rank","size","numbers","rest","sides"],"rank",acS):=@E
def  aoe[b]:Sp:=λvs H Q _=>∃(a:aa)(r:eG)(n i:Nat),vs=[@Î,@þ]/\@cp/\@T/\0<n/\@ï/\i<@eJ/\(g5,(Ų,@aeu))
def aFF(F:(h,"row_of_rank","row_of_rank",acS))[g](j:(y_,"numbers_of_rank",@UQ))(d:@zv)(M:@arm)(k:@asx)(v:@atG)(b:(y_,"sides_of_rank",@UT)):(ce,4,"rank",@UU):=by
 calc(e,LW,@H);.clear h;calc pH λa r n i l _=>?_;subst l;rfl
 .clear h;calc i8 λa r n i g ha=>jF λR h0 hn hi q0=>?_;subst g;rw[d?,R.len,<-w,<-Û,LW.nd,@č,(æ,LW.nd,(ş,j,bA aEp @K @aaO)),ay (iw,LW.nd,(yT,@aaO)) (it,(iA,@R,(mO,M,(hQ,k,@Ð,@Á,aH,@Ô))),(Ĝ,5,LW.nd,(bt,v,@Ð,(b4,(ş,b,@Ô),@m5),(aX,@R))),(mO,M,@Ć)),<-aV,_,@nA,@Mr,<-s,<-ĝ,?_,<-ŧ];let D:0<@ı:=(Gn,_M.KD e,_M.Pa e,av2 @Ó);rw[ð,(bx,n,h0,hn,(aH,{(iN,@Xb),by let:=@Ut;exact(o,@ı)<18446744073709551616;omega},fM n @dP (Q,Uw) {hn,@sw}))];calc(go,n,LK h0 hn _ _ @d @d (À,(iN,@Xb)));dsimp only;rw[<-B2 i @ı];rw[ş];let hp:=_M.Vq @dP n;rw[de,@dP,(u,hp.length_eq,_M.iR)];let C:∀x∈(f?,@dP),@Fu:=λx hx=>_M.kN.1 (hp.mem_iff.1 hx);rw[ì];.rw[s,<-ac];let e:=_M.ayS R h0 I hi;rw[ð,(ç,a,W,r,_,(Ã,n,0,@r5,@ŭ,@vl,im R b_ C h0 hn @gw))];calc(ğ,W,p2,_,@lQ,(ET,by rw[b_];simp[AS,b_]));calc q0 H3 p3 @fY ?_;rw[_M.KD I]at h3;rw[h3,e]
  .rw[s,<-ai];let e:=_M.ayT R jx hi;let gc:@ajp=@Û:=@WH;rw[ð,(ű,n,@r5,h0,hn,@gw),<-Á,@cM,@vp];let s3:=(ä,[@ſ],H2,iL);calc E9 p2 p3 _ _ @d @d (Í,h2) aq (by rw[aw,lX,gc];show@xs) @D0;rw[aH,@an1,c];let e4:@an1=(Ä,@Nb):=@zR;rw[á,dZ a p4 r @Nb n @Û (kl (f1,(BB,V.int @f6),(BB,(Ŋ,@Û)),(iB,@f6,@Û)) ((s1.trans @Hy).seq ha) (ak.of (ix,e4)) R (hV,eM,gc) hn {by rw[eM,gc];simp;simp[*],@vv})];calc(Ē,W,p5,(gn,(ii,(Ě,(ġ,h1))),ak.of h5,by rw[b_];simp[mT,gc];omega,{@C,@UV}));calc q0 H6 U ((s1.trans @Hy).trans (s5.trans s6)) ?_;rw[h6,e]
def  Keeps[an][ļ]:@v:=∀a o,N a->@hM->(X,H' a)
def Rk[p][m]:@ahf:=λa o _ h=>s a o h
def aof[Ü](h:@xO):Keeps N H @ay:=λa o' n e=>by let aQ:@jE:=λq=>h (e7,n);rw[aF aQ];show e
def  pT[an](A:@dW):@v:=∀(H H':Hp)(p:aa)(x:α),@ahf->N p->A H p x->A H' p x
def  cN[t][an](A:@dW)[Ċ](xs:@ß):@v:=(Dn,α,xs,(lr,N z.1,A H z.1 z.2))
def  C5:=@λ{I W p2 p3 p4 p5}G j D r=>@id (@cN I W p2 p3 p4 p5) ⟨G,j,D,r⟩
def cN.stab[cO]:pT N (cN N A):=by ext H H' p x k n;rw[Ë,λzs h e hz=>?_];show C5 zs @aeR e (Do,k)
def cN.same[cO][ħ]{x:@ß}(h:@anz)[m]:(rP,x):=(DG,@Jr,(Do,Rk s))
def cN.mono{d:@ć}{A b:@dW}[P]{x:@ß}(h:@anz)(S:∀a x,N a->A H a x->d a/\b H a x):cN d b H p x:=(DG,h1,λz m=>S _ _ @jB @nw)
def cN.nil[c6](h:(a_,[])):cN N A H l []:=C5 ([]) h @d @dx
def cN.snoc[cO][P][ae]{x:α}(h:@x2)(hl:¬N l)(n:N p)(a:A H p x):(uj,cN N A @qu l @Kl):=by clear h;calc cV @HM;subst aW;calc bC _ h @A (C5 @av1 ?_ ?_ ?_);rw[ń,<-ź,<-cW,@jB,(vV,@UY),n,M _ _ _ _ @UY n a]
def cN.len[c6][cw]:(vw,@KS,@Ï):=by clear h;rw[Ë,λzs h bf hz=>?_];subst bf;show@agn
def cN.ix[c6][cw][e](hi:@m?):∃ys p,@KS/\(İ,ys,@ú,@ã)/\N p/\A H p xs[i]:=by clear h;calc cV @UZ;subst bu;let g:i<@aE:=@hz;let{n,a}:=hz zs[i] @hD;calc gN _ (zs[i].1) @DU (y1,cJ g) n ?_;rw[jY];show a
def C6{zs:(ţ,α)}[ae](e:@hG=xs)[e]{z:aa×α}(h:@axN):(lw,xs):=by rw[<-e,bB,h];rfl
def Rl[Ř][Ŭ][eQ](M:@ge)[O][dD][aM](step:(In,l))(hd:(t_,@oQ)):@arE:=by
 calc(EH,(uc,@MX),@Li);rintro i x H' hx⟨hs,hm⟩;rw[cQ];let aQ:@tY:=by clear hm;rw[E,@HN];rw[h];show@fC
 rw[ř];simp only[ni,ku];calc step i z H' _ hz hs aQ @HO;rw[o'];calc(e3,ys,hy,@o4);rw[Ö,dQ,aw,f_,@l2,<-Â,@M?,sS]
def aFG[Ř][Ŭ][eQ](M:@ge)[O](hn:n=(l.map c).length)[dD][aM](step:(In,l.reverse))(hd:(t_,l.reverse.map f)):(lV,@Bi,@Bj,@Br):=by
 calc anz (K:=K) (a:=a) (xs:=@rW) hn (uc,(l.reverse.take i).map f) @Li @avw ?_ (Gl,lK);rintro i x H' hx hi⟨hs,hm⟩;rw[aw]at hi hx;rw[pH,l.reverse,(by rw[bB]at hx;rw[Gu hi];cases e:l[l.length-1-i]? with|none=>rw[bg]|some z=>rw[pI])];let aQ:@tY:=by clear hm;rw[E,@HN];rw[h];show@fC
 rw[ř];simp only[ni,ku];calc step i z H' _ hz hs aQ @HO;rw[o'];calc(e3,ys,hy,@o4);rw[Ö,dQ,aw,f_,(JG,(d,lK,hl)),<-Â,@M?,sS]
def aFH{γ:@è}(c:@iz)(d:β->V)[ű](l2:@uD)(f:α->β->γ)[an]{A:(jN,γ)}(M:@ge)[cu](he:@Ã=l2.length)[dD](U:@lL)(B:(uR,@U1))(hw:@At)(step:∀(i:Nat)(x:α)(y:β)(H':Hp)(Q:VK),@wb->(bz,l2)->@bs->@tY->(wj,@ajn)->(t5,some (c x),some (d y)))(hd:(t_,@apX)):@asV:=by
 let jy:(Em f l l2).length=@Ã:=(ż,aW8);calc aDU (K:=K) (a:=a) (b:=b) (xs:=@rW) (ys:=@U1) (aa,aw,he) (uc,(Em f l l2).take i) @Li (λi H' _ h=>{@auN,h.1.seq B}) ?_ (Gl,jy);rintro i x y H' T hx hy⟨hs,hm⟩hT;rw[cQ];obtain⟨u,hu,rfl⟩:(kB,l2,d z,y):=by rw[bB]at hy;cases e:l2[i]? with|none=>rw[il]|some z=>rw[e]at hy;show(Ñ,z,cM hy)
 let s2:=(d9,@y8);let O:=hm.same M (ö,@y8,_,hT);let aQ:(eE,ah H' T @y8 D):=by clear O;rw[E,@HN];rw[h];show@fC
 rw[dv];simp only[ni,ku];calc step i z u _ _ hz hu s2 aQ @HO;rw[Æ,(O.same M h4).snoc M S np ap,@of];calc(e3,ys,hy,@TR);rw[Ö,dQ,f_,jy,@l2];.let e:(H,@apX,f z u):=(Ô,List.getElem?_zipWith,hz,hu);let:=_M.tK id e;rw[uC,uC]at this;rw[Ã];show sS
def cN.sub{A:@dW}[P][cw][r]:(uj,(G?,ys.drop k,@RV)/\(∀H' p,@Í->@ge->(Û,p,ys.take k)->(rP,@RU))/\(G?,ys.reverse,@rk)):=by clear h;calc cV λzs h bH hz=>?_;subst bH;calc oN _ h @A (oY,zs.drop k,yU,yU) (oY,@U2,yV,yV) (oY,zs.reverse,N_,N_);rw[d6,aiQ m,<-d6,Ee m,<-d6,Ef.1 m]
structure lD[ņ]:@v where
 RIGHT:(ô,"RIGHT",1)
 BOTTOM:(ô,"BOTTOM",3)
 MOST_BYTES:(ô,"MOST_BYTES",600)
 DEEPEST:(ô,"DEEPEST",20)
 MOST_TIMES:(ô,"MOST_TIMES",1000000000000)
 BACK:(ô,"BACK",-1)
 FAULT:(ô,"FAULT",-1000)
 NO_DECK:(ô,"NO_DECK",-1)
 NO_ROW:(aZ,"NO_ROW",2)
 NO_GRID:(aZ,"NO_GRID",3)
 NO_CARD:(aZ,"NO_CARD",4)
 NOT_COME_TO:(aZ,"NOT_COME_TO",5)
 MORE_THAN_ONE_PILE:(aZ,"MORE_THAN_ONE_PILE",5)
 TOO_MANY:(aZ,"TOO_MANY",6)
 TEXT_TOO_LONG:(aZ,"TEXT_TOO_LONG",7)
 NO_SUCH_NUMBER:(aZ,"NO_SUCH_NUMBER",7)
 NOTHING_TOLD:(aZ,"NOTHING_TOLD",8)
 WRONG_LIST:(aZ,"WRONG_LIST",9)
 MOST_CARDS_FOR_LEAST:(ô,"MOST_CARDS_FOR_LEAST",6)
 MOST_CARDS_NAMED:(ô,"MOST_CARDS_NAMED",4)
 MOST_CARDS_FOR_GROUP:(ô,"MOST_CARDS_FOR_GROUP",8)
 MOST_TOLD:(ô,"MOST_TOLD",4)
 LOAD:(ô,"LOAD",0)
def aog[e]{v:V}[a]{Q:@aF}(h:Q @Fb H):mw i v σ H Q:=h
def LX[dq](h:@ae0):ax t u D σ H:=h
def LY{g:TG}[è](h:@asM):Qg te g D σ H:=h
def Iy{t1 J:TE}[a][G](v:V)(ht:(LY,tt σ H Q'))(h1:b=@o->(hZ,v,t1 σ H Q'))(h2:(A,b)->(hZ,v,J σ H Q'))(h:@tJ):tIf tt t1 J σ H Q:=by calc ht _ ?_;cases b with|true=>show dg (h1 @d _ h)|false=>show dH @zZ
def Rm{l:@Ġ}{j:_}{p:dO}{t:TA}(ha:(tu,l,p,te))(hr:@pO):PA X (.Tuple l j p::es) @aka:=ac ha hr @g?
def aoh{a:Int}{k:_}{p:dO}{t:TA}(hr:@pO):PA X (@aqa::es) (zk,t):=ac aH hr @g?
def  aFI[ų]:TE:=aaN (zk,zK (tC @k?) A9)
def Rn[ĸ]{k m:_}{p q r:dO}{j:_}:(tu,[@aqa,.Constant @k? m q],r,aFI a b):=lh (aoh (aoh ae))
def  kR[dg](c:@hm):@v:=(ã,p,@JR)
def lY:pT N kR:=λH H' p x k n h=>@aeR
abbrev Be:@ć:=@eu
abbrev Ro[Ċ](xs:@ű):@v:=(uG,Be)
abbrev vp[i](g:aa)(xs:eA):@v:=cN Be (bm,Be) H g xs
def aFJ[a][cx]:(uG,@l3):=(Cn,(by delta kR at p;rw[q]at p;cases p),p)
def aFK[a][cY]:cN @l3 (bm,@l3) H l xs:=(Cn,(by clear p;rw[E,@U3,<-Ŧ];cases e),aFJ p)
def Fs{d:@ć}[a][cx](w:@aoU):(uG,d):=(FB,p)
def aFL{d:@ć}[a][cY](w:@aoU):cN d (bm,d) H l xs:=(FB,Fs p w)
def aFM[a][cx]:@aqE:=Fs h @Qm
def Rp[a][cY]:vp H l xs:=aFL h @Qm
def aFN[č]:@apv:=(cx,_M.aj7 c @o,@Þ)
def aFO[T](i j:Nat)(h:(h!,j))(hi:@gH):(D1,@ú,@f4,i,j-i):=(F2,yZ h,@GG)
abbrev acT:bi:=top 55
def aFP:(õ,["height","width","size"],["height","width","size"],acT):=@E
def  C7(a b n:Int):@Ù:=decide (1<=a)&&(decide @v8&&decide (a*b=n))
def  acU:Sp:=λvs H Q _=>∃a b n:Int,vs=[@j8,@k?,@aa]/\-(2^64)<a/\a<2^64/\(ŷ,@Ax)
def aFQ(F:(h,"is_grid","is_grid",acT)):(Â,1,["height","width","size"],acU):=by
 calc(e,aFP,@H);.clear h;calc lA λa b n aW _=>?_;subst aW;rfl
 .clear h;calc dF λa b n bf h1 h2 q0=>?_;subst bf;rw[w,<-Ñ,wA (am,A8,@Ð,aH) (vK,@K,(bh,bA xN @Ð @K,@R)),<-s];delta C7 at q0;apply@J4
  .rw[hc,Eo]at q0;calc@J4;.rw[hc,Eo]at q0;rw[Ï,(aH,(b0,h1,h2),(É,@t6))];rw[gR];show q0
   rw[kY]
  rw[kY]
abbrev acV:bi:=top 58
def acW:(Õ,["pile","card"],"pile",acV):=@E
def  aoi[b]:Sp:=λvs H Q _=>∃(p:aa)(c:@hm),(fZ,kR H p c,@ő<=52/\(th,@vX,kR H' q (ka c)))
def aFR(F:(h,"turned_pile","turned_pile",acV))[g]:(ę,"pile",@U4):=by
 calc(e,acW,@H);.clear h;calc fb λp c bu _=>?_;subst bu;rfl
 .clear h;calc g9 λp c bH hp hc q0=>?_;subst bH;rw[w,<-cN,"card",acW.nd,(oH,@Ð),acW.nd,CF CH @K,<-s];let By:(ĺ,p,@JR):=ak.of hp;rw[Ð,p,By,@Ę];let b_:(rA,c)=@ő:=(Ô,aw,g_,aw);apply anz (K:=K) (a:=p) (xs:=@JR) @d (Ax,(c.reverse.take i).map λc=>(dU,@awF)) @EL (λi H' _ h=>h.1.seq By) ?_ ?_
  .rintro i x H' hx hi⟨hs,hm⟩;rw[b_]at hx hi;obtain⟨z,hz,rfl⟩:(kB,c.reverse,x,(dU,z)):=by rw[bB,g_,bB]at hx;rw[Gu hi];cases e:c[c.length-1-i]? with|none=>rw[bg]|some z=>rw[kp]
   rw[Ì,@d];simp only[ni,ku];rw[fd,(e3,_,hm,hs),<-đ,f_,fc @Yx];.rw[aq,(fh,hz),aFN]
  .rintro H'⟨hs,hm⟩;calc@apj;delta kR;rw[hm,b_,<-lK,iQ,g_];delta ka;rw[b6,b6];rfl
abbrev acX:bi:=top 59
def acY:(Õ,["piles","pile"],"piles",acX):=@E
def  aoj[b]:Sp:=λvs H Q _=>∃(l:aa)(xs:@ű),vs=@j3/\@aqE/\(∀c∈xs,@v5)/\@Ï<=52/\(th,@vX,cN (λa=>@pn) kR H' q (xs.map ka))
def aFS(F:(h,"turned_over","turned_over",acX))[g](b:(ĩ,"turned_pile","pile",@U4)):(bu,"piles",@U5):=by
 calc(e,acY,@H);.clear h;calc fb λp c cb _=>?_;subst cb;rfl
 .clear h;calc jt λl xs cB cZ hc hn q0=>?_;subst cB;let{zs,hl,rfl,hz}:=cZ;rw[w,<-Ñ,(dG,"pile",1,acY.nd,1,acY.nd,(aP,b)),<-s];let U:@aE<=52:=by simpa using hn
  calc(Ĳ,l,hl,@Ę);calc Rl @xq zs (λz=>ka z.2) (λa=>@pn/\@jE) lY @e hD @NN (ak.of hl) @ę (λi z H' Q j9 hs aQ q=>?_) λH' hs sS=>?_;.let m:=@tt;apply(č,z.1,z.2,(ĭ,@nw),{hc _ (ý,z,m),λH2 p s2 hp h2=>q H2 p s2 {@U6,λe=>@ES} h2})
  rw[ý,@apj,b6,(vy,sS)]
abbrev acZ:bi:=top 56
def LZ:(õ,["row","height","width","grid","line","card"],["row","height","width"],acZ):=@E
def  aok[b]:Sp:=λvs H Q _=>∃(a:aa)(r:eG)(h w:Nat),vs=[@Î,.int h,.int w]/\@cp/\r.length=h*w/\r.length<=52/\@ln/\@pr/\(i_,@w?)
def aFT(F:(h,"laid","laid",acZ))[g]:(Â,1,["row","height","width"],@U7):=by
 calc(e,LZ,@H);.clear h;calc pH λa r h w d_ _=>?_;subst d_;rfl
 .clear h;calc i8 λa r h w fz ha=>jF λug hn hh hw q0=>?_;subst fz;rw[w,<-ß,(è,3,LZ.nd,@Ĵ,(cC,@K,4,LZ.nd,(b8,@Á,(ŵ,"card",5,LZ.nd,gn (rW,(t?,@Ô),(t?,@wF)),5,LZ.nd,(cL,@Ć)))),(à,@Á)),<-ĭ,<-s,<-Ġ,<-Ş];calc(dJ,@tF,?_);apply(iY,(Iv,@MH,[@Ě,(Ï,h),(Ï,w),@ū,v,v2]),(Ŕ,h),@as?)
  .ext i σ H1 hi;calc ac0 λs2 d2 v v2 jM=>?_;subst jM;rw[P];let hi:i<h:=@Ä;rw[mZ,<-hX,<-Æ,d2.sub 0 (p:=D),λJz SQ arB kT=>?_];let SA:(eE,H1 D):=(d,SQ,@fC);rw[aJ,oy,(ų,(tx,(AH,(tx,(R,(d',@Ul,@Ŝ)))))),<-É,@ar*@cQ,(o,i*w),(Ė,OM),<-È,(@ar+1)*@cQ,(o,@tU),by rw[OM];congr 1;simp[*]];dsimp only;rw[e1,e2,aFO _ _ _ (yw,g_,aw) @adx,show@tU-i*w=w by rw[Oc];simp[*],g_,b6,<-yU,<-yV];let s3:=(Ŗ,@ad6,s2,hp);let d3:=d2.same @dl (ä,@ad6,_,hp);calc(gE,p,aq,@dH);calc Rl @aJ ((r.drop (i*w)).take w) @CQ (λa=>@jE/\a≠D2) lY @v? ia @NN @eZ @ę @HP @HQ;.apply(Ą,@cM,λq1 g=>q _ q1 (aL @ĩ g) {@Ź,λe=>aQ (Ņ,g)} aq);let:=hs.free g;rw[Ğ];clear d3;rw[E,@HR];rw[X]at this;cases this
   .let d4:=d3.same @dl s4;let nD:D2≠D:=λe=>by clear d3;rw[E,@HR];rw[e,X]at ia;cases ia
    rw[nU,(vy,h4)];calc(H',@cP,@d);rw[i9,<-Ê,uF,bF,x]
  .ext σ H1;calc ac0 λs2 d2 v v2 qP=>?_;subst qP;rw[s,<-iY];rw[_M.aak];rw[(iF,h,h)]at d2;show Rp d2
abbrev ac1:bi:=top 57
def L5:(Õ,(c5,"grid","columns","line"),"grid",ac1):=@E
def  aol[b]:Sp:=λvs H Q _=>∃(a:aa)(g:eA)(h w:Nat),(du,vp H a g,@Ģ,0<h,@ln/\@pr/\(i_,@cF))
def aFW(F:(h,"columns_of","columns_of",ac1))[g]:(ę,"grid",@U8):=by
 calc(e,L5,@H);.clear h;calc pH λa g h w qQ _=>?_;subst qQ;rfl
 .clear h;calc i8 λa g h w sR ha=>jF λR h0 hh hw q0=>?_;subst sR;rw[w,<-Ģ,L5.nd,@Ĵ,(cC,@XU,2,L5.nd,(b8,@K,(dG,"line",3,L5.nd,3,L5.nd,(ō,@Á,@R)))),<-ĭ,<-s,<-Ġ,<-Ş];let gl:=R.len;let l:=aFK ha;let c:pT @l3 (bm,@l3):=@dl;calc zM ((l.same c s1).ix (K:=K) (i:=0) @C) (λys I oy M u BK=>?_);rw[hB,λp G J=>?_];let C:@a0=w:=(d,J,@K5);calc(eP,(cG,oy,M,I,ay1 @d (.inl G) _ @d @e @e ?_));rw[C];apply(iY,(Iv,@kC,(iT,v,v2)),(Ŕ,w),@as?)
  .ext i σ H1 hi;calc ac0 λs2 d2 v v2 vK=>?_;subst vK;rw[P];let hi:i<w:=@e;rw[hX,<-Æ,l.same c s2,@sx,<-aJ,oy,(Ĳ,a,X,@dH)];let jy:@aE=h:=(hy,gl,iM);calc Rl @acJ zs (λz=>@ak2) @l3 lY @e ia (λh=>h (s2.free ia)) @Hu @ę (λj z H' Q j9 hs aQ q=>?_) @HQ;.let m:=@tt;let O:z.2.length=w:=(dA,@an9);calc zM (((hz z m).2.same lY hs).ix (K:=K) (i:=i) @C) (λS pz y N JA MC=>?_);rw[Ï,(ba,z.1,y,(d,(Þ,@ar,@ú),N),q H' pz @ĩ JA ?_)];rw[_M.iZ @C];show MC
   .let d4:=d2.same @dl s4;let nD:D2≠D:=λe=>by clear d2;rw[E,@HR];rw[e,X]at ia;cases ia
    rw[nU,Fs h4 λa h e=>h (ŋ,hD)];calc(H',@Hy,@d);rw[i9]
    .rw[uF,bF];let e5:(lq,@ak2)=@kC:=by rw[<-iM,b6];rfl
     rw[e5]at x;show x
  .ext σ H1;calc ac0 λs2 d2 v v2 vL=>?_;subst vL;rw[s,<-iY];delta jG;rw[(@hE)];rw[(iF,w,w)]at d2;show Rp d2
def  Ft[ø]:@v:=∀r∈g,∀c∈r,@v5
def getD_mem[ī]{d:α}:@xy∈l\/@xy=d:=by rw[eY];cases e:l[i]? with|none=>show@bN|some x=>rw[ĸ,eD e]
def aom{g:eA}(h:Ft g):Ft @cF:=by
 ext r hr c hc;delta jG at hr;rw[h?];subst aW;rw[ų,@h'];subst bf;rcases getD_mem (l:=x) (i:=i) (d:=([]:List dX))with z|z;.show h x hx _ z
 rw[ú,@ð]
def aon{g:eA}(h:Ft g):Ft @mk:=λr hr=>h r @PR
abbrev ac2:bi:=top 60
def vq:(Ü,["strips","number","pile","none","piles","above","below","result","place","upper","lower","one","other"],"strips","number",ac2):=@E
def  aoo[b]:Sp:=λvs H Q _=>∃(a:aa)(s:eA)(k h w:Nat),(bf,@eU,vp H a s,@No,0<w,@pr/\@ln/\@f?/\Ft s/\(i_,@Lb))
def aFX(F:(h,"first_folded","first_folded",ac2))[g](aNg:(c8,"turned_over","piles",@U5)):(Â,3,["strips","number"],@U9):=by
 calc(e,vq,@H);.clear h;calc gQ λa s k h w bu _=>?_;subst bu;rfl
 .clear h;calc gQ λa g k h w bH=>lW λha R U hw hh hk=>Fa λxj q0=>?_;subst bH;rw[w,<-Ă,(Dy,3,"pile",2,gn @kQ,2,@Ĵ),(Dy,5,"piles",4,(oH,(u7,@K)),4,(ð,aNg,@Ô)),(ĳ,6,@c6,(za,@K),7,@c6,@Ĵ,(ħ,(cC,bL (aA9 @d) @g? B.max boot_max (Ď,@XT,@Ja),8,@c6,(ĳ,9,@c6,(Fv,@XT,(rJ,@aU)),10,@c6,(Fv,@Ja,(ō,@Ł,@aU)),(b8,@Ń,(gk,[("one",11),("other",12)],@c6,(n6,@ij,pv 10),(hj,11,@c6,12,@c6),@hb,(b4,pv 11,pv 12))))),@Ń))];skip;let gl:=R.len;rw[dO];calc(B5,ha.ix (K:=K) (i:=0) @C);let aNh:(g[0]'@C).length=h:=@K5;let T:@U_=g[0]'@C:=by cases g with|nil=>simp at gl;omega|cons x l=>rfl
  clear BK;rw[Ë,λC nF ez0 hm0=>?_];let a0A:C.length=h:=(hy,aNh,ez0);calc(kJ,oy,M,I,{(jg,nF),λD0 hD0=>?_});calc Rl @xq C @x9 (qH,D0) lY @e hD0 @ub (ak.of nF) @ę @HP λH1 s1 JB=>?_;.show{@ð,(E2,@O8,aq)}
  let eN0:(C.map @x9)=@nh:=by rw[T,<-ez0,b6];rfl
  rw[eN0]at JB;replace JB:=aFM JB;rw[Æ,ha.same v s1,λzs X iM hmz=>?_,<-fr,w,gl,<-ð,(d',@Hu,@vu)];rw[aoa,<-yV];let s2:=(ä,(zs.take k).map @mR,H1,O);calc(Ğ,W,@eZ,λD1 u=>?_);calc aFG @acJ @U2 @aiw @adp (A:=(bm,@adp)) @dl @d @v? u @ub @eZ @ę @HP λH3 s3 SS=>?_;.let m:z∈zs:=(qK,@k');let mg:z.2∈g:=@an9;apply(č,z.1,z.2,(hmz z m).2.same lY (s2.trans hs),aM (xj _ mg) (d,(dA,mg),hh) (λH2 p s5 hp h2=>q H2 p s5 @O8 (Fs h2 λa h e=>aQ (Ņ,h))))
  let eAb:((zs.take k).reverse.map @aiw)=(g.take k).reverse.map @ht:=by rw[<-iM,<-yV,<-N_,b6];rfl
  rw[eAb]at SS;replace SS:=Rp SS;let mf:=@dG;calc zJ ((ha.same v (s1.trans mf)).sub k (p:=a)) (λysg hyg a0B Nm _ _=>?_);calc(ar,(Ğ,a,ak.of hyg,@dH));rw[Ir];rw[en,@U',ia];let hBe:=Nm _ D2 s4 v aq;let arH:=SS.same v s4;let hN4:=(JB.same lY mf).same lY s4;let sH4:=(tb,mf);rw[e9,D2,@U'];let No:((g.take k).reverse.map @ht).length=k:=(yw,lK,f_);let Np:(g.drop k).length=w-k:=(u,jC,gl);let N:(mX k g).length=@ba:=by delta mX;rw[aw,nI,gl,(@u8)]
  rw[Ó,λD3 DO=>?_];let s5:=(ŗ,H4,DO);rw[hE,(arH.same v s5).len (K:=K),<-x,(hBe.same v s5).len (K:=K),λy2 yG aNo=>?_,<-è,D1,r,(š,D2,.inl yG,aZ2 _ _ @d _ @d ?_)];rw[Nq,aNo,No,Np];let aNp:(if@aom then@Xv else@ë)=(o,@ba):=by
   by_cases hc:@aom;.rw[(@oP),Nat.max_eq_right @e]
   .rw[(@oO),Nat.max_eq_left @Ä]
  rw[aNp];let SJ:@ba<=52:=@e;calc(tO,@C);apply(iY,af H4 H'/\cN @adq (bm,@adq) H' D3 ((mX k g).take i)/\∃v2 v4 v8 G v10 v11 D:@Ñ,σ=[@Ě,@I8,v2,(T,D0),v4,(T,D1),(T,D2),(T,D3),v8,G,v10,v11,D],(Ŕ,@Xc),jI s5 @jJ _ _ @u @u (K7 @u @u @u @d))
  .ext i σ H5 hi;calc(BO,λv10 v11 D cb=>?_);subst cb;let hi:i<@ba:=@Ä;let hA6:=arH.same v s6;let hB6:=hBe.same v s6;let hN6:=hN4.same lY s6;rw[x,hA6.len (K:=K),λu1 hu1 aNq=>?_,<-x,hB6.len (K:=K),λu2 ny aNr=>?_];let ei:@ar=@ú:=@e;let up:(Ih,@yO,@w4,D1,@w4):=(IT,i<k,hA6.ix (K:=K) (i:=i) (lt,No),No,No);let lo:(Ih,@yD,@w5,D2,@w5):=(IT,i<w-k,hB6.ix (K:=K) (i:=i) (lt,Np),Np,Np);clear up;rw[Ë,λb hU hU1 hU2=>?_];clear lo;rw[Ë,λpL hL hL1 yH=>?_];let hUw:(((g.take k).reverse.map @ht).getD i @nh).length=h:=by
    rcases getD_mem (l:=(g.take k).reverse.map λl=>l.map ka) (i:=i) (d:=((g.headD []).map λ_=>[]))with z|z;.rw[aN,z];rw[<-e,aw];show(dA,@Md)
    rw[Ê,z,aw,@GF]
   let hLw:((g.drop k).getD i @nh).length=h:=by
    rcases getD_mem (l:=g.drop k) (i:=i) (d:=((g.headD []).map λ_=>[]))with z|z;.show(dA,@Rp)
    rw[Ê,z,aw,@GF]
   let hUs:∀c∈@yO,@v5:=by
    ext c hc;rcases getD_mem (l:=(g.take k).reverse.map λl=>l.map ka) (i:=i) (d:=((g.headD []).map λ_=>[]))with z|z;.rw[aN,z];rw[<-e]at hc;rw[ų,λy hy cB=>?_];subst cB;let:=xj x @Md y hy;delta ka;rw[aw,lK];show this
    .rw[z]at hc;rw[ų,λ_ _ cZ=>?_];subst cZ;show@ð
   let hLs:∀c∈@yD,@v5:=by
    ext c hc;rcases getD_mem (l:=g.drop k) (i:=i) (d:=((g.headD []).map λ_=>[]))with z|z;.show xj _ @Rp c hc
    .rw[z]at hc;rw[ų,λ_ _ d_=>?_];subst d_;show@ð
   let agp:(H,@abQ,(r8,@yO,@yD)):=by delta mX;rw[bB,Ay (Ç,gl,@u8,hi)];rfl
   calc(AR,@w4,@î,D1,hu1);rw[Ö,aNq,No,(lI,(Ó,@ar,@ë)=@w4),q,<-n',hU1 hc,D1];.show Vo (Q,hU2 hc) q
   calc aog ?_;dsimp only;rw[s];calc@o5;rw[s];calc@o6;calc(AR,@w5,.ref pL,D2,ny);rw[Ö,aNr,Np,(lI,(Ó,@ar,@Xv)=@w5),q,<-n',hL1 hc,D2];.show Vo (Q,yH hc) q
   generalize@yO=lU at hU hUw hUs agp;generalize@yD=lL at hL hLw hLs agp;clear hU;rw[Ë,λzU hzU eU mU=>?_];clear hL;calc cV λzL hzL eL mL=>?_;let a0C:zU.length=h:=(hy,hUw,eU);let a0D:zL.length=h:=(hy,hLw,eL);rw[x,d6.len (K:=K),λy6 hy6 a0E=>?_,<-aJ,hy6,(Ē,b,pL,(b5,_,@TJ,@TK,λD4 S=>?_))];let arT:(eE,H5 D3):=by clear d6;rw[E,λz6 h6 _=>?_];rw[h6];show@fC
   apply aFH @xq @xq zU zL (λx y=>@aix) (λa=>a≠D3/\a≠D4) lY @C @e S @NN @TJ @TK @ļ (λj x y H' Q hx hy hs aQ q=>?_) λH6 s7 h7=>?_
   .let mx:=@ts;let my:=eD hy;let lx:=hUs x.2 (co,eU,x,mx);let ly:=hLs y.2 (co,eL,y,my);rw[Å,(É,(ğ,x.1,y.1,_,@d,aM (ĭ,(mU x mx).2) (ĭ,(mL y my).2) {?_,(E2,{@Ź,λe=>@ES},?_)}))];.rw[aw,aw,g_,g_,aw,aw];show@uy
    .let:=@U6;rw[Ğ];show arT this
    .exact ah H' p _ p=_;rw[aq,g_,g_,g_,bF,bF]
   .let e7:Em (λ(x y:aa×List dX)=>@aix) zU zL=(r8,lU,lL):=by rw[<-eU,<-eL,List.zipWith_map]
    rw[e7]at h7;let nD:D4≠D3:=λe=>arT (Ņ,S);rw[Æ,(d6.same @dl s7).snoc @dl @ub nD (vy,h7),λys7 hy7 agr aNv=>?_];calc(ŀ,D3,_,hy7,am2 ?_ (dA @vw DO) ?_ _ _ _ (aZ3 _ _ _ _ @d));rw[Ö,agr,f_,N,fc @cL];.let:=_M.tK id agp;rw[uC,uC]at this;rw[Ã];show aNv
  .ext σ H5;calc(BO,λv10 v11 D fz=>?_);subst fz;rw[s,<-Å,q0 H5 D3 (sH4.trans s6) ?_];rw[(iF,@Xc,@ba),<-N,iQ]at d6;show Rp d6
def aFY{h w d k:Nat}[bU][ķ][cf]:∃h' w',0<h'/\h'<=h/\0<w'/\w'<=w/\@ahw:=by
 delta vc;by_cases hd:d<=1;.rw[(@h!)]at hk;rw[aj hd];rw[l6];calc c_ h @ba h0 @Â @e @e ?_;by_cases he:@f7;rw[ó,he,_M.wt @ae1 @e,<-ą,he,_M.wt @ak3 @e]
 .rw[(@uN)]at hk;rw[ag hd];calc c_ @aas w @e @e U @Â ?_;by_cases he:@f7;rw[ó,he,(y8,R),<-ą,he,_M.xH (y8,@U!)]
def aop:(s?,@ó%2=0->(hX ns).zip @TY=@sq/\@TZ=(hX ns.tail).length)
 |[],_=>@Ű
 |[a],h=>@ù
 |a::b::r,h=>by
  let{e1,e2}:=aop r (by simp at h;omega);cases r with
  |nil=>show@Ű
  |cons c r=>
   rw[Ì,?_];.exact(a,b)::(hX @JT).zip (hX r)=(a,b)::rg @JT;rw[<-e1];rfl
   .exact(tm,@JT)=(tm,r);rw[e2];rfl
abbrev ac3:bi:=top 61
def aoq:(IO,ac3):=@E
def  aor[b]:Sp:=λvs H Q _=>∃(p:aa)(g:eA)(a b:Int),vs=[@ã,@j8,@k?]/\@Nl/\0<@bh/\(ŷ,@l_)
def aFZ(F:(h,"is_fold","is_fold",ac3))[Ġ]:(Â,1,["grid","side","number"],@U?):=by
 calc(e,aoq,@H);.clear h;calc pH λp g a b aW _=>?_;subst aW;rfl
 .clear h;calc i8 λp g a b bf hg=>Fa λh0 q0=>?_;subst bf;rw[w,<-Ī,(f2,(gM,@K),(fE,@K,G.BOTTOM)),(æ,aoq.nd,(oG,@XU,@č)),(EA,@Á),<-cU,<-s];delta wu at q0;calc sE (Ó,a,0) (decide (a>3)) @t' @t' ?_;apply@í
  .rw[s];let:¬@xZ:=by rcases Bool.or_eq_true_iff.1 hc with z|z;rw[ā,cF z];.let:=cF z;simp[*]
   rw[dE this,zd]at q0;show q0
  .let h3:@xZ:=by let:=AE.1 @nm;let z1:=G_ @i1;let z2:=G_ @q1;omega
   rw[bN h3,Eo]at q0;calc(B5,hg.ix (K:=K) (i:=0) h0);rw[hB,λy0 d c=>?_,<-hE,hg.len (K:=K)];let T:@U_=g[0]:=by cases g with|nil=>simp at h0|cons x l=>rfl
   dsimp only[vf];calc@o5;calc@o6;calc Iy (decide (a<=1)) (.int @AK) @t' @sb @sb ?_;.rw[aj @Ī,T]at q;show(Ĭ,p,(cG,oy,M,I,(ź,@Qq,(e6,c))))
   .rw[ag (G_ hc)]at q;show(š,p,.inl r,(e6,Nq))
   .generalize@AK=z at q0;calc@J4;.let h1:@v8:=@Ī;rw[Ï,@lq];rw[(c4,(D!,z)=(Ó,b,z),(bY,q.2,⟨h1,q⟩))]at q0;show q0
    .let h1:¬@v8:=@ER;rw[dE (λz=>h1 z.1)]at q0;show q0
abbrev ac4:bi:=top 62
def Rq:(IO,ac4):=@E
def  aos[b]:Sp:=λvs H Q _=>∃(p:aa)(g:eA)(h w d k:Nat),(cA,@ã,.int d,@eU,@Nl,@Ģ,0<h,0<w/\@ln/\@pr/\Ft g/\k<@au_/\(i_,@un))
def aF0(F:(h,"folded_once","folded_once",ac4))[Ġ](n:(ĩ,"columns_of","grid",@U8))(m:(È,"first_folded",["strips","number"],3,@U9)):(Â,4,["grid","side","number"],@Va):=by
 calc(e,Rq,@H);.clear h;calc bv λp g h w d k=>Fa @C1;subst bu;rfl
 .clear h;calc bv λp g h w d k=>lW λbH hg R h0 U hh=>gX λhw xj hk q0=>?_;subst bH;rw[w,<-ß,(è,3,Rq.nd,(oG,(cc,n),@Ð),cv (eO,@K) (zG,(mO,m,@R)) (zG,(oI,(ť,m,(oI,@Á),@R))),(à,(oG,(hT,n),@Á))),<-í,_,_,(tL,a6),@ka,<-s,<-dO];delta vc at q0;let u:∀{b:Bool},(E,(j5,(v,d)),@aH)=b->(aN,b,@f7):=by ext b e;rw[<-e,gR,cG];show@Fm
  by_cases hd:d<=1
  .rw[(@h!)]at q0 hk;rw[ĩ];calc b9 @fh (kM,(Ò,@axy));calc(ç,p,g,h,w,(Ĵ,hg,R,h0,hh,hw,@sw));rw[l6,<-ş];calc@í;.rw[s,<-me,<-s,<-ŭ,he,<-à,W,@cF,(Ã,k,h,w,h1,C,im U hw hh @e @Vb @gw),<-ĩ,<-iU];show(ç,p2,@Lc,@ba,h,(Ĵ,h2,@ae1,@e,@e,hh,λH3 p3 s3 h3=>@z_))
   .rw[s];let he:¬@f7:=(dr,@ak4);rw[s,<-fU];calc(B4,h1.sub 0 (p:=W));rw[ű,W,r,@es];let s2:=(ä,y1.reverse,H1,cP);rw[oY];calc(Hh,@CU,h,w,@axc,U,hw,hh,@Vb);rw[m1];calc@aq4;rw[kX,<-oC,<-ĩ,<-iU];show(ç,p4,@M5,@ba,h,(Ĵ,h4,@ak3,@e,@e,hh,λH5 p5 s5 h5=>q0 H5 p5 ((s1.trans @dG).trans @hU) h5))
  .rw[(@uN)]at q0 hk;rw[ĩ];calc b9 (pQ,@e) @fh;rw[ĕ,<-ş,<-ì];.rw[s,<-me,<-ŭ,he];calc(Ē,p,g,(Ã,k,w,h,hg,R,im h0 hh hw @e xj @gw));rw[ĩ,<-mM];show(É,q0 H2 p2 s2 h2)
   .rw[s];let he:¬@f7:=(dr,@ak4);rw[fU];calc(B4,hg.sub 0 (p:=p));rw[ű,p,r,@es];let s2:=(ä,y1.reverse,H,cP);rw[oY];calc(Hh,@mk,w,h,@U!,h0,hh,hw,xj);rw[m1];calc@aq4;rw[kX,<-oC,<-ĩ,<-mM];show(É,q0 _ p4 @Ox h4)
abbrev ac5:bi:=top 63
def Rr:(Ü,["grid","folds","side","number"],"grid","folds",ac5):=@E
def  aot[b]:Sp:=λvs H Q _=>∃(p b:aa)(g:eA)(n h w:Nat)(ns:@À),(ě,@î,@Nl,(jM,ns),@lN,@ï/\@Ģ/\0<h/\0<w/\@ln/\@pr/\@ó<=10000/\(i_,(if@wM then@u else@adB).getD []))
def aF1(F:(h,"folded","folded",ac5))[g](aNz:(È,"is_fold",["grid","side","number"],1,@U?))(aNA:(È,"folded_once",["grid","side","number"],4,@Va)):(Â,5,["grid","folds"],@Vc):=by
 calc(e,Rr,@H);.clear h;calc bv λp b g n h w=>bj λns cb _=>?_;subst cb;rfl
 .clear h;calc bv λp b g n h w=>rE λns aNB hg hb Gg hn=>lW λR h0 U hh hw vB q0=>?_;subst aNB;rw[w,<-Ī,(iA,@pq,@Ĵ),(gz,(n6,aD6 (K:=K) @K,aD7 (K:=K) @K),2,Rr.nd,3,Rr.nd,(þ,(đ,(c6,(om,aNz)),@Ĵ),(Ĝ,0,Rr.nd,(om,aNA)))),@Ð,<-dl,@za,<-s,<-dO,<-è,b,hb,@CI];rw[aw];calc@í;.rw[s];rw[gR]at hc;let N:@wM:=@ix;rw[ŭ,N];show{@ð,(Fu,@jA)}
  .rw[s];let he:¬@wM:=(dr,(d,gR,@ky));rw[fU];let{l,G}:=aop ns @Ä;rw[Ð,b,hb,@vu];rw[abu];rw[Ŋ,@s9,O];let n1:=(ĉ,H,W,@s9);rw[Ð,b,@ik,@es];dsimp only;rw[<-List.map_tail,abu];let s2:=(ä,@w6,@Ne,cP);let n2:=(ġ,n1);calc(ğ,W,p2,_,ak.of n2,(À,@eZ));let n3:=(ĉ,@Ne,p2,@w6);rw[ō];generalize(Ù,@Ne,p2,@w6)=H2 at*;let fo:(rg ns).length=@TZ:=by rw[<-l,aiN,<-G];omega
   apply(ÿ,af H2 H'/\∃(p':aa)(g':eA)(h' w':Nat)(v2 v3:@Ñ),σ=[(T,p'),@cA,v2,v3]/\vp H' p' g'/\(eT,g')/\fQ h' w' g'/\0<h'/\0<w'/\h'<=52/\w'<=52/\tN g' @agh=@adB,aDT (K:=K) (D:=(rx,aaC (E1 0) (rx,λx H'=>Q V.non H'))) (a:=W) (b:=p2) (xs:=@s9) (ys:=@w6) (aa,aw,G) Pz (Rt @ĩ p g h w @u (ò,@u,hg.same v gw,Gg,R,h0,bU U hh hw @d)) (λi σ H' _ h=>{(cl,n2),(cl,n3)}) ?_ ?_)
   .ext i x y σ H' T hx hy;calc(xZ,λv3 cB u k R' m=>@ako);subst cB;ext hT;rw[P];obtain⟨x,fV,rfl⟩:(kB,hX ns,x,@DQ):=by rw[bB]at hx;cases e:(hX ns)[i]? with|none=>rw[bg]|some z=>rw[kp]
    rw[P];obtain⟨y,yG,rfl⟩:∃z,(H,@TY,z)/\y=@DQ:=by rw[bB]at hy;cases e:(hX ns.tail)[i]? with|none=>rw[il]|some z=>rw[e]at hy;show(Ñ,z,(cM hy).symm)
    rw[P];let J:(H,@sq,(x,y)):=by rw[<-l,aY1];show⟨fV,yG⟩
    let zW:@agh=(x,y)::(rg ns).drop @Q:=by let{h1,h2}:=gL.1 J;rw[yO h1,h2]
    rw[zW,tN]at d;let s3:=(nq,(es,.int x,y));calc@dX;rw[s,<-ð,(â,p',g',x,y,@ak5,{(d,R'.len,m),@Ą})];cases hok:wu g' x y with|false=>rw[hok,(@ag)]at d;rw[<-d]at q0;show{@ð,(Fu,(gw.trans hs).trans (aL s3 hD))}|true=>rw[hok,(@Þ)]at d;calc EQ ((_M.K5 R' m).1 hok) (λc1 c2 C c4 c5=>?_);let xj:Ft g':=λr hr c hc=>dw (_M.azu k r hr c hc) hn;calc Fj (aFY R' m SU c4 c5) (λkX w2' a1 X M I R2=>?_);rw[ð,dZ p' g' h' w' x.toNat @mC (kl (Ê,(fX,x.toNat,x),(fX,@mC,y)) @ak5 R' m SU S (bU j xj c5 @hV))];show Rt (hs.trans @cP) p4 _ kX w2' _ (ò,_,h4,(_M.aai k hok).1,R2,a1,(t6,M,d))
   .ext σ H';calc(xZ,λv3 cZ u k R' m=>@ako);subst cZ;rw[s];rw[aw,<-fo,avU,tN]at d;rw[s];rw[<-d]at q0;show(R,q0 H' p' (gw.trans hs) u)
def aou{c d:dX}(h:@aZ=d.no)(h1:@h1):(E,@ũ,told d)=!(d.up !=@aA):=by let{a,u}:=c;let{b,v}:=d;cases h;let h1:1<=a:=h1;induction u<;>induction v<;>simp[told]<;>omega
abbrev ac6:bi:=top 64
def L6:(DK,"width","alike","changes","width",ac6):=@E
def  aov[b]:Sp:=λvs H Q _=>∃(a:aa)(r:eG)(n w:Nat),(bf,.int w,@cp,@T,0<n,@ï/\0<w/\w<=52/\(f5,@Mm))
def aF2(F:(h,"alike_when_folded","alike_when_folded",ac6))[g][am]:(ce,2,"width",@Vd):=by
 calc(e,L6,@H);.clear h;calc pH λa r n w aW _=>?_;subst aW;rfl
 .clear h;calc i8 λa r n w bf ha=>jg λR h0 hn U hw q0=>?_;subst bf;let hl:=R.len;rw[ł,<-w,<-ck,L6.nd,(e!,@Ð,3,L6.nd,4,L6.nd,(cw,5,L6.nd,(m7,(m7,(aw,bA E5 @Á @K,(yU,@Á)),@Ô),@kQ),(iz,(eO,@Ć),@R,@KH))),(u6,@R),<-î,@v2,@Ħ,@sY,@f9,<-s,<-Ġ,<-Ş,<-ĉ,a,@ŭ];let k:(İ,@sC,@vR,(dU,@afT)):=iA @d (by rw[bB,g_,bB,(@eE),eY,(@eE)];rfl);let u:1<=(gO,0):=(Ç,eY,@eE,(R.no_bounds (j:=0) @C).1);apply(ÿ,∃(v3 v4 N:@Ñ),σ=[@Ě,(Ï,w),@ū,v3,v4,N]/\@Í/\(ł,((r.zipIdx.take i).filter @Dx).map @afG),(sr,(Gc,s1,aq)))
  .ext i y σ H' T hi;calc om λv3 v4 N bu hs hm=>?_;subst bu;ext hT;rw[P,<-dq,<-P,<-bY,<-mp];let s3:=(d9,@t8);rw[mn];calc@dX;rw[s,<-Õ,_,aZ4 @d @d {(iN,@cQ),(y2,@cQ)} _ @d _ (anR @d _ _ @d @d (iN,@cQ) (nY,bh @ũ @d _ _ @d @d (kJ,s3.seq ha,k,told @afT,@ju))),<-ş];rw[gR,(@vq),Bd u];let g:(eS,(@ú/@cQ+@ú%@cQ+@Jo+(ñ,(jr,0)))%2)=((i/w+i%w+aD @aA+@rV)%2==0):=by(rewrite[<-Uw,<-B2];with_reducible try rfl);generalize i/w=A1;generalize i%w=A2;generalize@uM=A3;generalize@rV=v;rw[Ô];rw[cG,gy];show@Fm
   rw[g];let snoc:=abk (z8,@ava) (z8,(ś,@mf)) hc;calc@oB;.rw[s];rw[aj dB]at snoc;rw[Ý,ia,(vL,aZ5 _ @d @d ia ?_ _ (y?,(À,@Ju))),<-Â,aw,(Ad,OH)];.rw[aq,snoc,xU]
   .rw[s];rw[ag dB,iO]at snoc;show zq _ _ _ @d s3 (d,snoc,ia)
  .ext σ H';calc om λv3 v4 N bH hs hm=>?_;subst bH;rw[s];rw[aw,fO,<-hl,<-OH (i:=0),iQ]at hm;let eL:(wZ,@afG)=(Ä,@ajK):=by delta nL ET;rw[b6,b6];rfl
   rw[eL]at hm;let{hp,SV}:=_M.azv R w;calc(š,D,@TH,{?_,λG p I l m=>?_});.rw[lX];delta ET;rw[aw];show oB @m1 (Ú,OH)
   .apply(r1,(mt,m));rw[aq];let h1:G.Perm (nL @Mm):=I.trans (hp.map _);let h2:(nL @Mm).Pairwise @iU:=by delta nL;rw[Av];show SV.imp @to
    rw[h1.eq_of_pairwise @aiS l h2]
abbrev ac7:bi:=top 76
def Fv:(DK,"other","places","move","other",ac7):=@E
def  ac8[b]:Sp:=(zX,(f7,@fF))
def aF3(F:(h,"move_between","move_between",ac7))[g]:(iK,1,ac8 K):=by
 calc(e,Fv,@H);.clear h;calc@aj6;subst cb;rfl
 .clear h;calc@aqf;subst cB;let hl:=R.len;rw[ł,<-w,<-aU,(ae,@je,Lz),(i0,3,@je,4,@je,(d?,@R,@KH,@Á)),(Ĝ,5,@je,@Ĵ),(aC,@K,4,@je,(þ,(æ,@je,(e4,@R,@KH)),(a9,@Ć,(ņ,@Á,(qv,(ee,@KA,@Ô)))))),@Ć,<-õ,@Ũ,@kf,(gq,_,ax (Ļ,dr) cC,(ì,fj)),<-s];calc@Ę;rw[f7,<-ĉ,a,@ŭ];apply(G',(Cq,(d8,[@Ě,@cA,@ū,v3,v4,@u],@agB,@wi,(uK,(aq,@X!)=some @kG))),@asQ)
  .ext i y σ H' T hi;calc@ajR;subst cZ;ext hT;rw[P,<-dq,<-P,<-bY];let s3:=(d9,@t8);rw[mn];calc@dX;rw[s,<-Ï,(IP,ia,@þ,aM @Ju aq (À,?_)),<-Ě,xU];.show@ĳ
   rw[ā,QD kvs @jW @þ]
   .ext j hj u;rw[amT];rw[aC];.subst e;rw[aj (ø,ec)]
    .rw[n?];rw[ag aQ];show@apO
  .ext σ H';calc dF λv3 v4 kvs d_ hs hm=>@E7;subst d_;rw[s];rw[aw,fO]at N;rw[Ó,@Ve];let l:=hs.free hM;let k:=Fp hm hM;let s4:=(ŗ,H',hM);let d:(ĺ,b,@Q1):=@HK;calc(Ŭ,b,{_,(x0,s4)},?_);apply(a8,λi σ H2=>∃(v3 v4:@Ñ),σ=[@Ě,@cA,@ū,v3,v4,(T,M)]/\af H' H2/\Mv H2 M ((q.take i).map λc=>@ari),(Ń,b,@Q1,Pz,(Ğ,_,s4,Mv.nil),λi σ H2 _=>(w6,(x0,s5))))
   .ext i y σ H2 hi;calc cw λv3 v4 fz gd m=>?_;subst fz;rw[P,<-pO,q,(by rw[ù];cases e:q[i]? with|none=>rw[Ť]|some z=>rw[eb]),<-P,<-bY];let{b1,b2}:=S.no_bounds dM;rw[ec]at b1 b2;rw[j0,<-nA,@ez,@ez];rw[kn]at pn;rw[ny,@sg=(nK,@ez),@ez];let hv:=N @ez @C pl;rw[pn]at hv;calc(go,@ũ,(ē,D,.inl (aU kvs @jW (.inl (gd _ _ hm)) @Jg hv.symm)));clear m;rw[E,λG g BF=>?_,<-Ý,g,@dK];apply(Mh,(E,told (r[@ez]'@C),@ũ),(dc,@NR),(Ň,(ba,a,(hs.trans gd).seq ha,iA @d (by rw[bB,g_,bB,cJ (ſ,(b',@ez))];rfl),(yl,(ĵ,(e6,gR))))))
    .rw[aou pn @e,<-v]at hc;let:(A,@NR):=by simpa using hc
     rw[this]at q;show q
    .rw[aou pn @e,<-v]at hc;let:@NR=@o:=by simpa using hc
     rw[this]at q;show q
    rw[Á,@bA,@es,<-c0,@ari,(vn G g BF:Mv H2 M _),cP];calc(H5,M,dA (aL gd cP) hM);rw[Ö,e2,aw,f_,fc (by let:=S.len;omega),<-Â,(fh,hc),e3]
   .ext σ H2;calc cw λv3 v4 jM gd m=>?_;subst jM;rw[s];rw[aw,iQ]at m;show(R,q0 H2 M @Hw m)
def  iS:Cs->au|.claim 0 _=>"up"|.claim 1 _=>"even"|.claim _ _=>"like"|.op .notW=>"not"|.op .andW=>"and"|.op .orW=>"or"|.op .par=>"("
def  Bf:Cs->@h|.claim _ cs=>cs|.op _=>[]
def af.sqt[cg][m](h:@bV):cS K H' a xs:=(H?,@tL,@tL)
def  C8[ć](p:aa)(s:Cs):@v:=∃q,(ľ,(a3,.str (iS s),@ĥ))/\(Ű,q,(Ä,Bf s))
def  L7:=@λ{I W p2 p3}G j r=>@id (@C8 I W p2 p3) ⟨G,j,r⟩
def ac9[p](k:Keeps @eu H H'):@Í:=λb o h=>k b o gA h
def Fw:pT @eu @Vg:=λH H' p x k _=>bj λq h1 h2=>L7 q (cq,gA,h1) (af.sqt (ac9 k) h2)
abbrev sG[ć](l:aa)(ss:@Č):@v:=(ud,@Vg,ss)
def  C9(ss:@Č):@v:=∀k cs,@ak6∈ss->k<=2/\@Ţ=@bP
def  aow[i][bA](S g:@Ė)[A]:@v:=(E4,@cR,(ľ,(uo,g c,S c)))
def  ac_:=@λ{I W p2 p3 p4}G j r=>@id (@aow I W p2 p3 p4) ⟨G,j,r⟩
def  C_[a8](S g:@Ė)(j:@h):@v:=∃kvs,@wk/\∀c∈j,aow H kvs S g c
def  ada:=@λ{I W p2 p3 p4}G j r=>@id (@C_ I W p2 p3 p4) ⟨G,j,r⟩
def C_.same[p]{S g:@Ė}{j:@h}(h:@A0)[m]:C_ H' d S g j:=by clear h;rw[E,λkvs h1 h2=>?_];show ada kvs @Jr (λc hc=>let⟨p,a,b⟩:=h2 c hc;(ac_ p a @v!))
def  Iz:@ÿ:=[(up,"up"),(up,"even"),(ŝ,.inr "like",2)]
def  adb:@ÿ:=[(.inr "(",@ſ),(up,"or"),(ŝ,.inr "and",2),(ŝ,.inr "not",3)]
structure DicC[Ù][ġ](aN aB:aa):@v where
 CARDS_NAMED:(dS,"CARDS_NAMED",aN)
 CARDS_NAMED_d:@ane
 BINDS:(dS,"BINDS",aB)
 BINDS_d:@anf
abbrev adc:bi:=top 50
def aox:(õ,["word","cards","lies","first"],["word","cards","lies"],adc):=@E
def  aoy[b]:Sp:=λvs H Q _=>∃(q d:aa)(S g:@Ė)(k:Nat)(cs j:@h),(cA,.str @gx,@ĥ,@Ş,(Ű,q,@v6),@A0,@fU,@Ţ=@bP/\(∀c∈cs,c∈j)/\(ŷ,@arw))
def aF4(F:(h,"claim_holds","claim_holds",adc)):(Â,1,["word","cards","lies"],@Vh):=by
 calc(e,aox,@H);.clear h;calc bv λq d S g k cs=>bj λj aW _=>?_;subst aW;rfl
 .clear h;calc bv λq d S g k cs=>rE λj bf U bu hk ja=>Fa λlp q0=>?_;subst bf;let{kvs,hd,x}:=bu;rw[w,<-aT,(æ,aox.nd,(e4,@R,@pD)),@anj,@anj,(bh,@tQ,(hW,@R,@pD)),<-f9,@f9,<-s];let h0:0<@Ţ:=by rw[ja];delta lg;split<;>omega
  let y:(bC,cs,@du):=(aW,cJ h0);rw[j8,y,λI c u=>?_];let l:(İ,@v6,@vR,(ś,@du)):=(oi,y);rw[Õ,q,(Ŵ,U,l,(ē,d,(Dx,@du,c.symm)))];let tt:(CV,I,g @du,@Gp):=cS.of u;delta EO at q0;let uw:@CK:=@e;calc@a';rcases uw with rfl|rfl|rfl;.apply dg @arS;rw[abg];rw[(@Þ)]at q0;show q0
  .rw[ç,@a'];calc dg @arS;rw[(@ag),(@Þ)]at q0;rw[show(E,(Đ,aD (! g @du)),@aH)=g @du by cases g (cs.getD 0 0)<;>decide];show q0
  .rw[ç,@a'];calc@Ŵ;rw[s];let C:(Æ,cs,1,@ki):=(aW,cJ (lu,ja));rw[j8,C,λW b O=>?_];let e:(İ,@v6,@D_,(ś,@ki)):=(oi,C);let a:(CV,W,g @ki,@Gq):=cS.of O;calc(Ĭ,I,(AA,tt,(Ĭ,q,(cG,U,e,d,jI @d (Dx,@ki,b.symm) W _ _ _ (rQ,a,@t6)))));rw[(@ag),(@ag)]at q0;rw[show(E,(Đ,aD @Gp),(Đ,aD @Gq))=(@Gp==@Gq)by cases S (cs.getD 0 0)<;>cases S (cs.getD 1 0)<;>decide];show q0
abbrev ade:bi:=top 49
def Ru:(Ao,"lies",ade):=@E
def  aoz[b]:Sp:=(sj,@ï,∀(H':Hp)(d:aa),(cQ,C_ H' d (eQ r) (λc=>@lo%2==0) @ô,@Ş))
def aF5(F:(h,"lies_of","lies_of",ade))[g][am]:(iI,@Vi):=by
 calc(e,Ru,@H);.clear h;calc lA λa r n bH _=>?_;subst bH;rfl
 .clear h;calc dF λa r n cb ha R=>@x_;subst cb;let hl:=R.len;rw[ł,<-w,<-Ģ,Ru.nd,Lz,(i0,2,Ru.nd,3,Ru.nd,(d?,@K,@wW,(ņ,(cU,@R),@aaP))),<-ĭ,<-s];calc@Ę;rw[f7,<-ĉ,a,@ŭ];apply(ÿ,(Cq,(d8,(iT,v3,v4),@agB,@wi,(uK,(E4,@X!,(Ĉ,p,(uo,@Eg,@kl)))))),@asQ)
  .ext i y σ H' T hi;calc dF λv3 v4 kvs cB hs hm=>@E7;subst cB;ext hT;rw[P,<-dq,<-P,<-bY,<-mp];let s3:=(nq,@t8);let ia:=(Í,hm);calc@dX;rw[s,<-á,aFp @aI _ @d @ũ @d @bA @es];let e:HO.tup [(Đ,aD (!@dc)),(Đ,@uM)]=HO.tup (aB,(j5,@ú),@HF):=(u,@vq,show@ú%2=(ñ,!@dc)by rcases Ea i with e|e;rw[ki,@a3,<-ki,@cJ]);rw[Ć];let s4:=aL (o:=(uo,@dc,@aA)) s3 cP;let S:=(Ě,hm);calc(É,(IP,S,@RJ,(tM,(Ć,hs.trans s4),aq)));rw[Ě,xU];.show@ĳ
   rw[ā,QD kvs @jW @RJ]
   .ext j hj u;rw[amT];rw[aC];.subst e;rw[aj (ø,ec)];calc(fv,p2);rw[aF (tD (Fp ia cP)),aq,ec]
    .rw[n?];rw[ag aQ];rw[x,@apO,λp O iL=>?_];calc ab p O ?_;let g:@py:=λe=>by rw[e,hm]at iL;cases iL
     rw[aF g];show(Ě,iL)
  .ext σ H';calc@ajR;subst cZ;rw[s];rw[aw,fO]at N;rw[Å,(rT,ada kvs hm @eT)];let{b1,b2}:=_M.kN.1 hc;rw[j0,<-nA,@lo,@lo];rw[kn]at pn;rw[ny,eQ r c=(nK,@lo),@lo,<-x,N @lo @C pl,λp O cP=>?_];rw[pn]at O;rw[<-v]at cP;show ac_ p O cP
def aF6[f](h:@ak6∈ss)[ao](hc:c∈cs):c∈@ek:=by cases ss with|nil=>cases h|cons s ss ih=>rcases eJ.1 h with e|e;rw[Đ,(ù,hc)];.cases s with|claim k' cs'=>show(bb,@u!)|op w=>show@u!
def aoA[f][Ķ](h:@fU):@gx="up"\/@gx="even"\/@gx="like":=by
 let uw:@CK:=@e;rcases uw with rfl|rfl|rfl;.show@ì
 rw[Ç,@ì,<-Ç,@bN]
def aF7{S g:@Ė}[e]{s:Cs}{st st':@Ō}(hs:(H,ss,s))(h:@aod)(hf:∃v,(l4,ss,v)):∃st',(ň,uZ S g s st,st',(l4,@o7,st')):=by let{bK,e}:=gL.1 hs;let{v,hv}:=hf;rw[É,ss,@sy++s::@HT,by rw[<-e,<-yO bK,Gw],<-È,@o7,@sy++[s],(dR,hs)];rw[e1,_M.K1,h]at hv;let hv:(e?,(o2,@HT)):=hv;cases hr:uZ S g s st with|none=>rw[hr]at hv;cases hv|some st'=>calc(fv,st');rw[e2,_M.K1,h];exact(o2,[])=_;rw[hr];rfl
def aF8{S g:@Ė}:∀(ss:@Č)(st st':@Ō),j4 S g ss st=some st'->st'.length<=@rm+@g5:=by
 ext z_;cases z_ with
 |nil=>ext st st' h;show by cases h;simp
 |cons s ss M=>
  ext st st' h;let h:(o2,ss)=some st':=h;cases hr:uZ S g s st with
  |none=>rw[ż,hr]
  |some u=>
   rw[hr]at h;let:=M u st' h;let hu:@fa<=@rm+1:=by
    cases s with
    |claim k cs=>rw[eo]
    |op w=>
     cases w with
     |par=>induction st<;>cases hr
     |notW=>cases st with|nil=>cases hr|cons b st=>rw[eo]
     |orW=>rw[k!]
     |andW=>rw[k!]
   rw[eE];omega
abbrev adf:bi:=top 51
def IA:(Ü,["steps","lies","found","word","cards","second","first"],"steps","lies",adf):=@E
def  adg[b]:Sp:=λvs H Q _=>∃(a d:aa)(S g:@Ė)(ss:@Č)(j:@h)(v:Bool),(bf,@Ş,(d_,a),C9 ss,@A0,(∀c∈@ek,c∈j)/\@pz/\(l4,ss,[v])/\(Ŝ,v))
def aF9(F:(h,"holds_of","holds_of",adf))[g](G:@atD)(I:(È,"claim_holds",["word","cards","lies"],1,@Vh)):(hU,"steps","lies",adg K):=by
 calc(e,IA,@H);.clear h;calc(xP,bj λv aW _=>?_);subst aW;rfl
 .clear h;calc(xP,rE λv bf ha hok F6 x=>cy λgc zZ q0=>?_);subst bf;rw[w,<-ck,@mF,(gz,@HE,3,@mF,4,@mF,(hM,(bX,@Á),(m',aAM @xh),(hM,CB (aDV G.CARDS_NAMED G.CARDS_NAMED_d @Á),(m',(bt,I,@Á,@Ô,@K)),(ĳ,5,@mF,@xh,6,@mF,@xh,(m',rw (bX,@Á) (gV,@Ł,@Ć) (tg,@Ł,@Ć)))))),@wr,<-k6,_,@ew,@amc,bZ _ aR fj,<-s,<-Ġ,<-Ş];clear ha;calc cV @sx;rw[ir];calc(Ĳ,a,@X4,?_);apply(Gp,∃(st:@Ō)(v3 v4 N v6:@Ñ),σ=[@Ě,@el,@ū,v3,v4,N,v6]/\(ł,@axd)/\@aod,Rt s1 ([]) @u @u @u @u (ź,aq,@d))
  .ext i y σ H' hi;calc(Co,λbu hm fB=>?_);subst bu;rw[P,<-da,<-P,<-mm,<-Ħ,j9];let ms:=eD r;rw[j6,<-x,aF7 (st':=st) r fB {_,zZ},λst' W M=>?_];let b_:(ĕ,@rm):=by let:=aF8 _ _ _ fB;rw[f_]at this;simp at this;omega
   let p:(st.reverse.map V.bl).length=@rm:=(hR,lK);calc wO z.1 _ @d @TM @d _ @ZX;calc@a';generalize z.2=sz at*;cases sz with
   |claim k cs=>
    let{k2,cl}:=hok k cs ms;let u:@gx≠"not":=by rcases aoA cs k2 with e|e|e<;>rw[e]<;>decide
    let C:(dv Iz (.inr @gx)).isSome=@o:=by rcases aoA cs k2 with e|e|e<;>rw[e]<;>decide+kernel
    rw[dE (λe=>u (V.str.inj e))];rw[c2,@gx];rw[C];calc@Xp;rw[s];calc aF_ _ @d @pu _ @d _ (aGa @d _ @d q d S (â,g,k,cs,j,@agi,dI (F6.same hs) k2 cl (λc hc=>x c (aF6 ms hc)) ?_));calc(qD,hm,(is,p,@C),@Cp);rw[cR,@arw];rw[aq,e,mQ,bF];rfl
   |op J=>
    cases J with
    |par=>induction st<;>cases W
    |notW=>cases st with|nil=>cases W|cons b st=>rw[ce,<-cR,! b];calc Iw _ @d @pu _ @d @pu (Ã,D,_,@bR,@d,hm,(uC,?_));rw[dY];calc(KL,hs);rw[Ê,awa,p,@ĳ];.rw[aq,e,mQ,mQ,bF,bF];exact(ib,(aw6 V.bl st.reverse++[V.bl b]).dropLast++_)=_;rw[Od];rfl
    |andW=>cases st with|nil=>cases W|cons b st=>cases st with|nil=>cases W|cons l st=>rw[c2,"and"];calc@IQ;rw[cR,l&&b,<-ow,<-oD];calc(Ą,@pu,@aoN);rw[dY];rw[m];calc@ao8;rw[oR];rw[Nt];rw[Ý,aq,(kH,@hT),<-fu,<-nM,(É,@Nv),@Nv]
    |orW=>cases st with|nil=>cases W|cons b st=>cases st with|nil=>cases W|cons l st=>rw[c2,"or"];calc@IQ;rw[s,<-cR,l||b,<-ow,<-oD];calc(Ą,@pu,@aoN);rw[dY];rw[m];calc@ao8;rw[oR];rw[Nt];rw[Ý,aq,(kH,@Ŵ),<-fu,<-nM,@Nv,(É,(qD,aq,?_,(Ć,(Ć,(Ć,hs)))))]
  .ext σ H';calc(Co,λbH hm fB=>?_);subst bH;rw[s];rw[aw,jy,iQ,zZ]at fB;cases fB;show(Ĭ,D,(rQ,@TH,@adG))
def  wP[ŵ]:@ÿ:=ks.map λ(c:Nat)=>((az,c),@DR)
def aGb[ŵ][A]:((wP ks).any (pJ,(az,c)))=decide (c∈ks):=by
 delta wP;rw[aw9];rw[Ô];rw[TD,cG];constructor;.rw[E,@B8];let e:=@RQ;rw[Ċ,x,c,<-Ĕ];show hx
 rw[Ŕ,ab c h @dh]
def aGc[ŵ][A]:jU (wP ks) @cR @c'=wP (if c∈ks then ks else ks++[c]):=by
 delta jU;rw[aGb];by_cases h:c∈ks;.rw[(@eR),(@Þ),(@f0)];delta wP;rw[b6];rw[Î];ext x _;exact(P,(az,x),@cR,@agZ,@agZ)=_;split<;>rfl
 .rw[(@hQ),(@ag),(@eH)];delta wP;rw[bF];rfl
def adh[ĺ](h:ks.Nodup)(hb:∀c∈ks,@mT):@b6<=n:=(cx,h.length_le_of_subset (λx hx=>_M.kN.2 @ai4),_M.iR)
abbrev adi:bi:=top 48
def L8:(Õ,["steps","named","word","cards","card"],"steps",adi):=@E
def  adj[b]:Sp:=λvs H Q x_=>∃(a:aa)(ss:@Č)(n:Nat),(du,(d_,a),@pz,@ï,@KO/\∀(H':Hp)(p:aa)(m:@h),@Í->@HU->@agP->(Û,p,(Ä,m))->Q @ã H')
def aGd(F:(h,"named_cards","named_cards",adi))[g]:(ę,"steps",adj K):=by
 calc(e,L8,@H);.clear h;calc lA λa ss n aW _=>?_;subst aW;rfl
 .clear h;calc dF λa ss n bf ha gc=>cy λhn yI q0=>?_;subst bf;rw[w,<-ß,(è,1,L8.nd,Lz,(gz,@HE,2,L8.nd,3,L8.nd,aA (bS,al6 @Á,4,L8.nd,aA (d?,@K,@Ô,js))),(à,(u6,(yR,@K)))),<-í,_,(Ļ,aR),@kf,@ka,<-s];calc@Ę;rw[f7];clear ha;rw[b8,<-ir];calc(Ĳ,a,@X4,?_);apply(Gp,(Iq,(Ĉ,D,@S!),@Gy),Rv s1 ([]) @u @u @u @d (aM aq Ul (λc=>by simp[ig])))
  .ext i y σ H' hi;calc Rw λhs ks v2 v3 v4 bu=>@ai!;subst bu;rw[P,<-da,<-P,<-mm,<-Ħ,j9,<-j6];let Nu:ig @o7=@Gy++@HS:=by rw[uQ,r,EB,_M.Cq];congr 1;induction z.2 with|claim k cs=>simp[ig,Bf]|op w=>rfl
   let kT:(jS,ig @o7):=(r7,by let e:=_M.Cq @o7 @HT;rw[Gw]at e;rw[e];show(ù,hc));calc(eC,z.1,@TM,@ju);rw[s];calc(Ŭ,q,{_,@agi},?_);apply(a8,λj σ H2=>@gB/\(Iq,(g9,D,@S!),@Gy++(ti,j)),(FC,q,(Ä,@HS),Pz,(GA,hs,ks,hm,dJ,(Ç,Gx,iO,nE c)),λj σ H2 _ h=>af.sqt h.1 U))
   .ext j y σ H2 hj;calc Rw λgd d w2 w3 w4 bH=>@ai?;subst bH;rw[P];obtain⟨c,hc,rfl⟩:∃c:Nat,(Ë,@HS,c)/\y=@Kh:=by rw[bB,Fi]at hj;cases e:(Bf z.2)[j]? with|none=>rw[ba]|some c=>rw[pP]
    rw[P];let yt:d.length<=n:=adh g (λc hc=>kT c (by
     rw[Nu];rcases bX.1 ((u c).1 hc)with h|h;.show(ù,h)
     .show(bb,@PS)));rw[Ï,wO D _ @d (D3,wP d,m) (Ć,gd) (if c∈d then d else d++[c]) (Gj,?_)];.delta wP;rw[aw];show@ĳ
    .rw[aq,aGc]
    .by_cases h:c∈d;rw[ó,h,g,<-ą,h,(Cr,g,h (by rw[dt]at hy;rw[<-hy,<-e];show hx))]
    .ext x;let et:(ti,@Ö)=(ti,j)++[c]:=(dR,hc);rw[et,<-gh,bX,<-u x];by_cases h:c∈d;rw[ó,h,{.inl,λq=>q.elim id λq=>(mC,q,h)}];.rw[(@eH),bX]
   .ext σ H2;calc Rw λgd d w2 w3 w4 cb=>@ai?;subst cb;rw[s];calc(GA,gd,d,m,g,?_);rw[u c,Nu,aw,lX,iQ]
  .ext σ H';calc Rw λhs ks v2 v3 v4 cB=>@ai!;subst cB;rw[s];rw[aw,jy,iQ]at nE;rw[Ð,D,hm,@Ŝ];let eL:((wP ks).map @CB)=@Jf:=by delta wP nL;rw[b6,b6];rfl
   rw[eL];let s2:=(Ŗ,@Jf,hs,hp);let yt:@b6<=n:=adh dJ (r7,(nE c).1 hc);calc(b5,p,@eZ,@Yy,λG q I l U=>?_);let Ai:∀z∈G,0<=z:=λz hz=>by let:=I.mem_iff.1 hz;delta nL at this;rw[À,this,λx _ cZ=>?_];subst cZ;simp[*]
   rw[É,nL @Td,G,by
    delta nL;rw[b6];conv=>rhs;rw[<-uC G]
    rw[Î];ext z hz;let:=Ai z hz;exact(o,z.toNat)=z;omega];let cP:(G.map qU).Perm ks:=by
    let:=I.map qU;rw[È,(nL ks).map qU,ks,by
     delta nL;rw[b6];conv=>rhs;rw[<-uC ks]
     rw[Î];ext z _;exact(ij,z)=z;simp[*]];rw[e2]at this;show this
   calc q0 _ q @Td (aL s2 U) ?_ (λc=>?_) ?_;.let v:(G.map qU).Nodup:=cP.nodup_iff.2 dJ;let h_:(G.map qU).Pairwise @iU:=(d,Av,l.imp @to);show(h_.and v).imp (Fa λa b=>@e)
   rw[Â,cP.mem_iff,nE c];.rw[aq,e1]
abbrev oY:=@hZ
abbrev j6:=List oY
def  fN(zs:@ip):@ÿ:=@adH
def  aoB(x:oY):HO:=(k0,(dc,@B9),@b4)
def  mI[a8](p:j6):@v:=(A1,oY,@nk,p,(Ö,z.1,aoB z.2))
def  L9:=@λ{I W p2}G j D r=>@id (@mI I W p2) ⟨G,j,D,r⟩
def mI.same[p][a3][m]:mI H' d p:=(yP,L9 zs @Ż b (xY,@Lv))
def Db:pT @eu mI:=@Vj
def mI.updL[Ü]{p:j6}[w](h:@gP)[bI]:mI @ay d p:=by clear h;rw[ŗ];calc L9 zs ?_ b @C0;rw[å,(λe=>by rw[e,hD]at a;cases a),a];.let:=@Lv;rw[aF (rb,hD)];show this
abbrev km[Ċ](cs:@gj):@v:=(ud,mI,cs)
def km.snoc[P]{xs:@gj}{x:j6}(h:@ag0)(a:mI H p x):(uj,km @qu l @Kl):=by clear h;calc cV @HM;subst aW;rw[d5,<-ń,<-ź,<-cW,gA,(Cs,h),gA,a.updL h]
def km.updD[Ü]{xs:@gj}(h:@ag0)(hD:(ã,D,ys))[bO]:km @ay l xs:=(H!,(Cs,hD))
def L_[ŋ][ao]:(nW,@cl,@cR,c):=by delta dv fN;rw[Hc];rw[cF,a_,(gy,(az,c)),(gQ,oY,@Fo),(e_,c),(n9,@Eu,@cR,@amR),<-Ã];cases zs.find? λz=>z.2.1==c<;>rfl
def aGe[ŋ]{p:j6}(e:@hG=p)[A]:(p.find? (g0,c))=(J8,c,@Ĥ):=by rw[<-e,Hc];rfl
def mI.get[a][a3][ao](hc:c∈@af):∃kvs q,@wk/\(aq,@cR)=some @ĥ/\(Ö,q,(k0,@aaL,dj p c)):=by clear h;rw[Ë,@HW,<-Ì,@cl];let hf:=aGe b c;cases e:zs.find? λz=>z.2.1==c with|none=>rw[e]at hf;let:=yQ.1 hf;rw[ų,@h'];subst bf;show absurd (TV x.1) (this x hx)|some z=>rw[e]at hf;calc bC z.1 a (Ê,L_,e) ?_;rw[hz z @k3];delta cU dj;rw[hf];rfl
def mI.has[a][a3][A]:∃kvs,@wk/\(p?,@cR)=(qS,c):=by clear h;calc cV @HW;rw[ß,a];rw[L_,Ez,<-b,b6];rw[Ô];rw[aw_,iW,bE];show{(A?,@GC),(A?,@Pr)}
def mI.lies[a][a3]:C_ H d (dj p) (cU p) @af:=by rw[Ď,h,@HW];calc ada _ a @eT;calc lT (h.get hc) (λkvs q h1 h2 h3=>?_);rw[a]at h1;cases h1;show ac_ q h2 h3
abbrev adk:bi:=top 109
def adl:(Em,adk):=@E
def  adm[b]:Sp:=(AX,(hr,@agd))
def  aGf:=@λ{I W p2 p3 p4}G j D B n r=>@id (@adm I W p2 p3 p4) ⟨G,j,D,B,n,r⟩
def aGg(F:(h,"sides_of","sides_of",adk))[am]:(iI,@Vk):=by
 calc(e,adl,@H);.clear h;calc fb λa ns bu _=>?_;subst bu;rfl
 .clear h;calc g9 λa ns bH ha hn q0=>?_;subst bH;rw[w,<-Ñ,(dG,"card",1,adl.nd,1,adl.nd,@aaN),<-s];calc@iT;calc@ahP;rw[Ľ];calc(dF,H1,s1);rw[u,b6];rfl
abbrev adn:bi:=top 105
def IB:(õ,["cards","case","place","size","odd_places","even_places","card","odd"],@FB,adn):=@E
def  ado[b]:Sp:=λvs H Q x_=>∃(a d:aa)(m:@h)(p:j6)(i n:Nat),vs=[@Î,@Ş,@þ,@aa]/\@Ze/\@gP/\(qO,@af)/\@XX/\@bS/\(aQ,(Ŝ,@AX))
def aGh(F:(h,"have_room","have_room",adn))[g]:(Â,1,@FB,ado K):=by
 calc(e,IB,@H);.clear h;calc(xQ,Fa @tD);subst cb;rfl
 .clear h;calc(xQ,lW λcB ha hd hm kZ hi=>@x_);subst cB;rw[w,<-č,(iw,@mG,(aR,(mP,@Á),(mP,@R))),(ĳ,5,@mG,(aR,(aR,@Á,@R),@Ô),7,@mG,(i4,(dG,"card",6,@mG,6,@mG,(hW,@K,@Ł))),(à,(gV,(am,E6,@Ń,@Ô),(am,E6,(aR,@č,@Ń),@Ć)))),<-a4,<-s];let c2:aaI @ö 2:=@alH;let C:aaI @ú 2:=@alH;rw[á,aZ6 c2 _ @d _ _ @d (u_,C,?_),<-Õ,_,(f0,@d,_,(Ł,?_))];calc@iT;rw[mq];calc(j',@ċ,m,λc=>@aaL,pY,@UP);.apply lT ((hd.same hs).get (hm z @k')) (λkvs t h1 h2 h3=>?_);show(Ň,(ng,d,(k7,@Ee,h1,@i4),t,h3,@ao))
  .rw[Ľ];let eL:(m.map λc=>(Đ,aD @rD))=(Ä,m.map @rQ):=by delta nL;rw[b6,b6];rfl
   rw[eL]at u;calc(ē,D,@ih);let h_:@r!<=@ń:=by
    revert hm kZ ha pY eL u q0;cases m with
    |nil=>show@Â
    |cons x m ih=>
     rw[cT,jB,eE];let:aD (!@a6)<=1:=by cases cU p x<;>decide
     omega
   let k:=@e7;rw[QW];generalize@r!=S at k h_⊢;rw[É,@Fn,(o,@hh),@e,<-È,@apx,(o,@sj),@e,<-Ï,(Ĩ,@avI)];.let h1:S<=@hh:=@gN;rw[(@uQ),Eo]at k;rw[è,a,@HJ,(cz,(cz,?_))];rw[aw];let g:(Ŷ,(v,@ń)-@bI,@apx)=(Ŷ,@ń-S,@sj):=@Ub;rw[<-g]at k;show k
   .let h1:¬S<=@hh:=λq=>(ŭ,(ts,@bI<=@Fn));rw[dE h1,zd]at k;show k
def Rx[a]{u v:HO}(hd:@oq)(h:@co)(aQ:u≠o):(X,ah H d v b):=(C,(uv,hd,aQ @ia),h)
def adp[p]{u v:HO}(hd:@oq)(s:af (cb,v) H'):af H @l5:=by
 ext b o h;by_cases e:b=d;.rw[e,aq];rw[Ţ,hd];show h
 rw[å,e,s b o (C,e,h)]
def adq[a][w][ń][Ñ](hd:@wk)(h:@ŉ):(m_,(cb,.frz od @aq)):=(H?,@aqG,@aqG)
def aoC[ń][ŋ](f:oY->V)[O](hl:@aaa)[ě](hd:@alF)[aj](step:@aqH)(N:(f4,(zs.map @Ĥ).map f)):(lV,@app,@apq,@aps):=by rw[lA];calc(IR,((zs.take i).map @Ĥ).map f);rintro i k v H' hk⟨hs,hm⟩;rw[pc,<-ř];simp only[ni,ku];calc step i z H' _ hz hs (h7,hm,@o4);rw[Ö,aw,aw,f_,@l2];.rw[aq,b6,b6,(fh,hz)];rfl
def aoD[ŋ](dJ:@HX){z:@Ep}(hz:z∈zs):@aoE:=by
 cases zs with
 |nil=>cases hz
 |cons y zs ih=>
  rw[fK];rcases eJ.1 hz with e|e;.subst e;simp[rT]
  .let aQ:¬@amX:=λq=>dJ.1 (d,@Rf,(ý,z,e));rw[rT];simp only[jA.2 aQ];show ih dJ.2 e
abbrev adr:bi:=top 104
def Bg:(bA,["row","case","sums","card","differences","difference"],"case",adr):=@E
def  aoE[b]:Sp:=λvs H Q x_=>∃(a d:aa)(r:eG)(p:j6)(n:Nat),(bf,@Ş,@cp,@T,@ï,@gP/\@DF/\@abc/\@gD/\(Ŝ,@sJ))
def aGi(F:(h,"sides_in_reach","sides_in_reach",adr))[g](m:@yr)(y:@zx):(ce,3,"case",@Vl):=by
 calc(e,Bg,@H);.clear h;calc gQ λa d r p n aW _=>?_;subst aW;rfl
 .clear h;calc gQ λa d r p n bf=>lW λha R hn bu dJ hb=>Fa λaQ q0=>?_;subst bf;let{zs,hd,iM,hz}:=bu;let hl:=R.len;rw[ł];let o:@HX:=by rw[<-iM,b6]at dJ;show dJ
  rw[ar,@a0,iM];let fo:@Xr:=(cx,adh dJ hb,aw);rw[w,<-Ī,(tD,@č,(ĳ,2,@jf,@KG,4,@jf,(HZ,(bJ,(ō,@R,(aX,@Á)),(cI,aDZ (K:=K) @d,B.sum,ON,(e4,@K,@Á)))),(à,(D9,5,@jf,@Ô,5,@jf,@Ć,(cX,@Ô))))),(aG,(nf,(pe,aC4,@K))),(As,(i4,(HZ,(hW,@K,@Á))),@KF),<-õ,@fz,_,(gi,@ew,(ũ,dr,a6)),<-s,<-cg,<-ŧ];apply@í
  .rw[s,<-ac,<-dM];let xk:=@fp;calc(n?,d,xk);calc@aty;let C:ak K (Ľ,d,@Da) W @aqz:=adq xk @vl;calc(IH,@N7);.rw[Ħ,DQ];let{b1,b2}:=hb @Ā (by rw[<-iM,b6];show(ý,z,mz));rw[j1,xk,(Ĺ,@agg),<-Õ,_,(Ł,(ba,W,hs.seq C,(Fz,@Ā,@Ā),(Ň,wQ d _ @d @asD z.1 @air (ź,cS.of ht,(Ĩ,@adU))))),<-bz];delta oQ at k;rw[(Ā,@Ā-1+1,@Ā)];rw[B2,Kr,Kr]at k;let es:(@air:@À).sum=@ayg+@axs:=@A;rw[es];show k
   .rw[Ì,@wh];let g:=adp xk s2;rw[dN,D≠d,<-nb,(p.map @m8).map @ċ,by rw[aF M,h2,iM,b6];rfl,<-bW,@nk];let Ak:(p.map @m8).length<=52:=@tM;let T:(bC,@QS,@h9):=by cases p with|nil=>rw[ö,aQ]|cons x l=>rfl
    rw[ox,@ajv,aj I];generalize@QS=b at*;calc(Ĳ,D,h3,@dH);calc rB (λd:Nat=>(Đ,d)) b @cq (Bm,@vy) @e ia @Ht @ę @Uo @Up @HQ;rw[pm,D,h3,@vy,@vy];.rw[(@cw)]at h4;calc(iW,D2,b.map (qM,@vy),(Ê,h4,b6));rw[Ey];show u H4 (tb,g)
  .rw[s,<-ai,<-ox,(DB,decide (@a0<n)),ag jx,<-Ð,d,hd,(š,a,@kA,@fE)];let sK:(fN zs).length=@a0:=by delta fN;rw[aw];show jy
   rw[sK,aw,fO];calc@í;.rw[s];let h1:@Xa:=@gN;let k:=u H @ĩ;rw[(@uQ),aYp]at k;show k
   .rw[s];let h1:¬@Xa:=λz=>(ŭ,@C);rw[dE h1]at u;calc(n?,d,hd);calc@aty;calc(IH,aD @b4);.rw[Ħ,DQ,<-j1,hd,@agg];show(Ň,(ng,d,@asD,z.1,ht,@ao))
    .rw[Ì,@wh];let g:=adp hd s2;rw[dN,D≠d,<-nb,(Ä,p.map (au,@b4)),by rw[aF M,h2,iM];delta nL;rw[b6,b6];rfl,<-bW,@nk];calc(ē,D,@Ht);calc(D5,a,g.seq ha,@vz);calc@ae4;let k:=u H4 (g.trans s4);rw[avY]at k;rw[gR,Q4 R,QW,(Ar,(bq,(o,@t4)%2,@aeB,@t4%2,@oj))];show k
def aGj[ŋ][ao](h:c∉@UW)(q:aa)[bp]:jU @cl @cR @ĥ=fN (dg,q,(c,e,u)):=by
 rw[QE];.delta fN;rw[bF];rfl
 .rw[L_];let:(zs.find? (e_,c))=@u:=yQ.2 λz m e=>h (a6,z,m,@GC);rw[Ã];rfl
def aGk{cs:@gj}[ao][Ô](h:@HY):∀p∈r_ cs c,@af=m++[c]:=by ext p hp;delta r_ at hp;rw[ŕ,hp,λa ha hp=>?_,<-À,hp,λu hu aW=>?_];subst aW;rw[bF,h a ha];let:=_M.ak9 c u hu;rw[Ĕ];rfl
def aoF(cs:@gj)[A]:(r_ cs c).length=4*@Ţ:=by delta r_;cases cs with|nil=>rfl|cons p cs ih=>(rewrite[Ei,eM,ih,aw,eE];with_reducible try rfl);exact 4+4*@Ţ=_;omega
def aoG[ß][A]:og (m++[c])=r_ @u6 c:=by delta og;rw[Gr];rfl
def Ry:∀(m:@h)(i:Nat),i<=@ń->(∀p∈@GA,@af=@fS)/\(og @fS).length=4^i|m,0,_=>(ć,λp hp=>by rw[Gx]at hp⊢;cases dt.1 hp;rfl)|m,i+1,h=>by let{h1,h2}:=@aop;let e:@Vm=@fS++[m[i]'@e]:=(dR,@uF);rw[e,aoG];rw[Ì,aGk h1];rw[aoF,h2,Gq];omega
abbrev ads:bi:=top 103
def Dc:(Õ,["cards","cases","card","longer","case","lie","more"],"cards",ads):=@E
def  aoH[b]:Sp:=λvs H Q _=>∃(a:aa)(m:@h),(du,@Ze,@rn,@ń<=4,(p1,km H' p @u6))
set_option maxHeartbeats 8000000 in def aGl(F:(h,"all_cases","all_cases",ads))[g]:(ę,"cards",@Vn):=by
 calc(e,Dc,@H);.clear h;calc fb λa m aW _=>?_;subst aW;rfl
 .clear h;calc jt λa m bf ha dJ kZ q0=>?_;subst bf;rw[w,<-Ģ,@g6,(cL,Lz),(uA,@g6,(è,3,@g6,@Ĵ,(d6,@K,4,@g6,(bS,al6 (lh (L4,(L4,ae))),5,@g6,(è,6,@g6,(jE,aD2,B.dict,boot_dict,@Ô),(d?,@Ł,@R,@Ć),(b8,@Á,@Ł)))),(d7,@g6,@Á))),<-k6,@Ħ,(Ļ,cC),(um,dr),@hJ,<-s];calc λd0 R=>{@cM,λO BK=>?_};rw[bn,@ev,R];let s2:=(ä,@ain,@ame,BK);let c0:km (Ù,@ame,O,@ain) O [[]]:=(nV,[(d0,[])],gA,L9 ([]) @wh @d (λz m=>@at_));rw[mq];calc(Ŭ,a,{_,(qR,pY)},?_);apply(Ń,a,@awK,λi σ H'=>@Í/\∃(l:aa)(v2 v3 v4 N v6:@Ñ),σ=[@Ě,@ac,v2,v3,v4,N,v6]/\km H' l @GA,Rt @bC O @u @u @u @u (yp,c0),λi σ H' _ h=>h.1.seq pY)
  .ext i y σ H' hi;calc(Cp,λv6 bu hc=>?_);subst bu;obtain⟨c,hci,rfl⟩:∃c:Nat,(H,m,c)/\y=@Kh:=by rw[ù];cases e:m[i]? with|none=>rw[Ť]|some c=>rw[ed]
   let{him,eci}:=gL.1 hci;let{l_,ja}:=@aop;let Nu:@Vm=@fS++[c]:=(dR,hci);let yJ:c∉@fS:=by let:=dJ;rw[<-Gw @Q m,Nu,gh]at this;ext iB;show(Gk.1 this).2.2 c iB c @A @d
   rw[pZ,4^i<=64,(Ò,i<=3)];rw[Nu,aoG];generalize@GA=cs at*;rw[P,<-Ó,λLq hL=>?_];let s3:=(ŗ,H',hL);clear hc;rw[b8];let hlL:=Fp X hL;rw[fr,4^i,ja];calc(uU,(Í,X));apply(Ń,l,@ŵ,λj σ H2=>af H' H2/\∃(v4 N v6:@Ñ),(Hq,v4,H2,@xl),anJ s3 _ _ _ @d @jJ,λj σ H2 _ h=>(cl,X))
   .ext j y σ H2 hj;calc anK λgd w4 w5 w6 bH yH=>?_;subst bH;rw[db,<-i4];let Bp:j<4^i:=(bE,jy,j9);let p:@D2=@fS:=l_ _ (eD v);let d:=@aaB;let eln:r_ (cs.take @Ö) c=@xl++(gP c).map @afX:=by rw[uQ,v];delta r_;rw[Tz];congr 1
    rw[eln];rw[Á,@bA,λt0 FH=>(dY,λt1 D=>(dY,λJ U=>(dY,λt3 JC=>{(gg,4),@UR})))];let r0:=(ö,(gx,@ſ),H2,FH);let G:=(ö,@Cv,@CL,D);let r2:=(ö,@Dc,@OS,U);let r3:=(ö,@EF,@ati,JC);let I:=(aV,@O3,@atj,hT);let g0:=(G.trans @Vp) _ _ aq;let g1:=(r2.trans @axe) _ _ aq;let g2:=(r3.trans I) _ _ aq;let g3:=I _ _ aq;let gT:=aq (H:=@atj) (a:=T) (o:=@R5);let r:=r0.trans (G.trans @Vp);generalize ah (ah @ati t3 @EF) T @R5=H3 at*;let W:∀(k:Nat)(y:V),(cu,(@asX:@P),y)->∃(t:aa)(u:oY),y=V.ref t/\(cu,gP c,u)/\H3 t=some (aoB u)/\u.1=c:=by ext k y hk;match k,hk with|0,hk=>rw[cC,t0,g0]|1,hk=>rw[cC,t1,g1]|2,hk=>rw[cC,J,g2]|3,hk=>rw[cC,t3,g3]|k+4,hk=>cases hk
    let n:km H3 Lq @xl:=yH.same Db r;let hLn:H' Lq=@u:=hL;calc bC T @d {_,cS.of gT} ?_;apply(FC,T,@asX,λk σ H4=>(bZ,b≠Lq,@XB,H4 b)/\af H' H4/\∃(N v6:@Ñ),(Hq,@vN,H4,@xl++((gP c).take k).map @afX),aZ7 (λb o _ h=>h) (gd.trans r) _ _ @d (by rw[Gx];rw[ge,H3,Lq];rw[iO];show n),λk σ H4 _ h=>cS.of (h.1 _ _ (λe=>by clear n;rw[E,@HZ];rw[e,h3]at gT;cases gT) gT))
    .ext k y σ H4 hk;calc aGm λg vF u5 u6 cb S1=>?_;subst cb;calc zM (W k y hk) (λt u cB hu ht hu1=>?_);subst cB;rw[P];let htL:t≠Lq:=λe=>by clear n;rw[E,@HZ];rw[e,h3]at ht;cases ht
     let S:=g _ _ htL ht;let aNS:=d.same vF;clear aNS;rw[Ë,λez S2 C hte=>?_,<-Ð,z.1,S2,@Ve];let r5:=(ö,@ax7,H4,hM);let hML:M≠Lq:=λe=>by clear S1;rw[E,@HZ];rw[e,h3]at hM;cases hM
     let DE:c∉@Vq:=by
      let:@Vq=@fS:=by rw[<-p,<-C,b6];rfl
      rw[Ã];show yJ
     let Jn:ez.length<=52:=by
      let:ez.length=(m.take i).length:=by rw[<-p,<-C,aw,aw]
      rw[ê,f_];omega
     rw[Ï,(É,(ē,M,(D3,fN ez,aq)))];.delta fN;rw[aw];show@ĳ
     rw[s];let{u0,ue,uu}:=u;let ny:c=u0:=hu1.symm;subst ny;rw[s];rw[aGj DE t ue uu];let r6:af H4 @ath:=dA r5 hM;let M7:mI @ath M (z.2++[@Fr]):=by
      calc L9 _ aq (Ê,bF,C) (λx mx=>?_);rcases bX.1 mx with mx|mx;.show r6 _ _ (hte x mx)
      .cases dt.1 mx;show r6 _ _ S
     let hL6:=S1.same Db r6;rw[Æ,km.snoc hL6 M7,@of,<-ni,Lq,?_,@dK];.let l1:(r_ @auQ c).length=4*(cs.take j).length:=aoF _ _;rw[dQ,eM,l1,aw,f_,f_];let:(gP c).length=4:=rfl;show@ĳ
     .ext b o hb FY;rw[(@ak)];show r6 _ _ (g b o hb FY)
     .show dA (vF.trans r6) hLn
     .let et:(gP c).take @û=(gP c).take k++[@Fr]:=(dR,hu);rw[et,bF,<-gh];show sS
    .ext σ H4;calc aGm λg vF u5 u6 cZ S1=>?_;subst cZ;rw[s];show anJ vF _ _ _ @d S1
   .ext σ H2;calc anK λgd w4 w5 w6 d_ yH=>?_;subst d_;rw[s];calc abQ _ @d @Hw Lq _ _ (Ci _ _ _ @d ?_);rw[aw,jy,<-ja,iQ]at yH;show yH
  .ext σ H';calc(Cp,λv6 fz hc=>?_);subst fz;rw[s];rw[aw,iQ]at hc;show(R,q0 H' l hs hc)
def  Bh[í][ß](p:j6):@Ù:=@AX
def  pV(r:eG)[c][ß](T:@abk)(p:j6):@Ù:=@sJ&&(Bh n 0 m p&&! T p)
abbrev adt:bi:=top 106
def RA:(bA,["row","steps","named","failing","case"],"steps",adt):=@E
def  aoI[b]:Sp:=λvs H Q x_=>∃(a b:aa)(r:eG)(ss:@Č)(n:Nat)(T:@abk),(kz,@T,@ï,(Gw,(d_,b),C9 ss,@pz,@KO,@Jd,@asg,T p,∀(H':Hp)(l:aa)(m:@h),@Í->@HU->(ë,@agP,km H' l (LC,@au2),@ē)))
def aGn(F:(h,"failing_cases","failing_cases",adt))[g](U:@aq8)(aNW:(ĩ,"all_cases","cards",@Vn))(aNX:(da,"sides_in_reach","case",3,@Vl))(J:@aq5)(G:@asG):(ce,4,"steps",@Vr):=by
 calc(e,RA,@H);.clear h;calc bv λa b r ss n T=>Fa @sQ;subst aW;rfl
 .clear h;calc bv λa b r ss n T=>lW λO ha R hn hb hok=>jg λgc yI yJ JE hT q0=>?_;subst O;let hl:=R.len;rw[ł,<-w,<-cq,RA.nd,(aP,U),RA.nd,@Ĵ,(d6,(tG,aNW),4,RA.nd,(iz,kz (wz (kh (bk,aNX,@Ô)) (wz (kh (hQ,J,@R,@Ô,aH,@č)) (xK (c6,(jA,G,@Ô))))),@Á,@Ô)),@Á,<-õ,@v2,@kf,@f9,<-s];calc(Ŏ,b,ss,n,dI hb gc hn yI (λH1 W m s1 Dq qG h1=>?_));rw[iB,<-mr,<-Ġ];let s2:=(ŗ,H1,hD);calc(č,W,m,@lQ,aM g kZ (λH2 p2 s3 h2=>?_));let{l_,yL}:=@aoq;rw[iQ]at l_ yL;rw[lD];let ia:=(Í,(cD,H1,D));clear h2;rw[b8,<-fr,@ax5,yL];let M:@ō:=s1;let mf:@f_:=@dG;let S:p2≠D:=λe=>by
   rw[e,ia]at X;let nF:zs=[]:=by let:=(dW,X);cases zs with|nil=>rfl|cons z zs=>cases this
   rw[nF]at jy;let:=av2 (n:=@ń) (c9,0<4);simp at jy;simp_all
  calc(bL,p2,X);apply(a8,λj σ H3=>(Hd,H3 c,af H1 H3,σ=@asE/\km H3 D @afe),(Ń,p2,@ŵ,Pz,n0 @o8 mf @u @d (cN.nil ia),λj σ H3 _ h=>ak.of (h.1 _ _ S X)))
  .ext j y σ H3 hj;calc Pw λuw vC v4 bf DO=>?_;subst bf;rw[P,<-db,<-P];let v:(Ë,@u6,z.2):=@tg;rw[i3];let d:mI H3 z.1 z.2:=by rw[Æ,@aaB,λes e1 e2 e3=>?_];calc L9 es (uw _ _ (CO,ia) e1) e2 (λx mx=>?_);let:=e3 x mx;show uw _ _ (rb,ia) this
   let aN0:@axn:=λe=>by rw[e]at p;let:m=[]:=p.symm;cases lp:ig ss with|nil=>show yJ lp|cons c l=>let:=@agk;rw[‹m=[]›]at this;cases this
   rw[oi,@aff,@afe,@yV,@yV];let fin:∀H4,@M'->(A,@yV)->(Hd,H4 c,@X?,([@Ě,@cA,@jK,@ū,@vN]:@fg)=@asE/\km H4 D @aff):=by ext H4 s4 hf;calc n0 (λc o hc N=>(Ě,uw c o hc N)) @Vs _ @d ?_;rw[nr,hf];rw[ge,H4,D];rw[iO];show DO.same Db s4
   rw[à,a,z.1,(Ã,r,z.2,n,(x2,vC),R,im hn d (hO,p) (d,p,@afa) aN0 @vz)];apply@alZ
   .rw[ð,wQ a _ @d (.inl (x2,@Vs)) W z.1 (bO m z.2 0 n @XD (ak.of ((vC.trans s4) _ _ h1)) (im (d.same s4) (d,p,λc hc=>hc) @e @ð hn @Vt))];apply@Xq
    .let k:=@hU;calc(Ē,b,z.1,(ŉ,dj z.2,cU z.2,ss,m,T z.2,kl (hb.same Fw (M.trans (vC.trans k))) hok (K,p,(d.same k).lies) (λc hc=>(qG c).2 hc) gc (hT z.2) (λH6 s6=>?_)));let u:=k.trans s6;cases I:T z.2 with
     |true=>calc@Ą;calc fin H6 u ?_;delta pV;rw[I];simp
     |false=>
      calc@Ą;let hf:@yV=@o:=by delta pV Bh;rw[I,C,dB];rfl
      calc bW (x1,DO.same Db u,u) @of;let aN1:@be:=hD;rw[ni,D,dA (vC.trans u) aN1,@ľ,<-Â,dQ,(Ad,yL)];.ext c o hc N;rw[aF hc];show u _ _ (uw c o hc N)
      rw[m0]
    .apply fin H5 @hU ?_;delta pV Bh;rw[kx]
   .apply fin H4 s4 ?_;delta pV;rw[jA.2 C];rfl
  .ext σ H3;calc Pw λuw vC v4 bu DO=>?_;subst bu;rw[s];rw[aw,jy,<-yL,iQ]at DO;show(R,q0 H3 D m (M.trans vC) Dq qG DO)
def aGo[w]{v:V}(h:(e?,xs.getLast?)):(h5,-1):=by let{l,rfl}:=El.1 h;show amu l v
abbrev adu:bi:=top 108
def Dd:(õ,["case","row","numbers","card","sides","place","others"],["case","row","numbers"],adu):=@E
def  aoJ[b]:Sp:=λvs H Q x_=>∃(d a b:aa)(r:eG)(p:j6)(o:@h)(n:Nat),(cA,@Ş,@Î,@î,@gP,@cp,@aa2,@T/\0<n/\@ï/\@bd/\@DF/\@abc/\@gD/\(g5,(Ų,j5 r @af o p)))
def aGp(F:(h,"first_row_of","first_row_of",adu))[g](M:@arm)(k:@asx)(v:@atG):(Â,4,["case","row","numbers"],@Vu):=by
 calc(e,Dd,@H);.clear h;calc(xR,@x8);subst aW;rfl
 .clear h;calc(xR,rE λn aN2 hd ha hb R=>lW λh0 hn S4 dJ X aQ q0=>?_);subst aN2;let hl:=R.len;rw[ł];let sN:@D9:=(u,S4.length_eq,_M.iR);let C:@UO:=λx hx=>_M.kN.1 (S4.mem_iff.1 hx);rw[jN,@Rc,<-w,<-aU,(tD,@pq,(ħ,(æ,@g7,(cX,(yR,@Ð))),(ş,M,(hQ,k,@K,@R,(v8,@R,@Á),@ag6)))),(oQ,@g7,"card",gn @R,@g7,rw (CB (aCC @jn @Á @Ð)) @ag6 aH),(fe,6,@g7,[("place",5),("card",3)],(jJ,@R),(hj,5,@g7,3,@g7),(kT,(mz,@Á,@Ð)),@Ć),(Ť,(hw,@Ł),(bi,4,@g7,(C',v,(ō,@Ł,@Lg)))),(ş,M,@Ô),<-õ,@fz,@Ħ,(gq,_,@hr,(ũ,fj,cC)),<-s,<-cg,<-ŧ];delta j5 at q0;rw[hl]at q0;apply@í
  .rw[s,<-ac,<-ŭ,I,<-Ď,hd,λzs xk iM hz=>?_];let{J,hhu}:=_M.alf (m:=@af) (p:=p) {@d} dJ aQ;let{y,fe}:=_M.ale (o:=o) (S4.nodup_iff.2 (_M.Cf n)) (S4.mem_iff.2 (_M.kN.2 (X _ J)));calc lT (hd.get J) @Vv;rw[xk]at g1;cases g1;rw[hhu]at g3;generalize T:@Re=G at*;obtain⟨u,nF,ez0⟩:∃u,(bC,@cl,((az,G.1),u))/\True:=by
    cases zs with
    |nil=>rw[Ò,iM.symm,aQ]
    |cons z zs=>
     let:G=z.2:=by rw[<-T,<-iM];rfl
     rw[Ã];show(Ñ,@br,gA)
   rw[Ð,d,xk,@vu,<-Ŋ,@ak7,O];calc(ac,W,(Ø,@eZ,@Ll));rw[ap,W,@ak7,<-ð,aF_ _ @d (eV @vr) _ @d b (â,_,_,@Dm,.int (o,@Ag),@d,kl @vr @d ?_ ?_ ?_ ?_ ?_),<-cD,<-Ú,bB,cJ y]
   .exact(B6,@Ag)=@o;rw[C1];let:@Ag=G.1:=by let q:=fe;rw[eY,cJ y]at q;show q
    show bN (by rw[Ã])
   .ext j z' hj j9;rw[bB]at j9;let Bp:j<@ĺ:=TJ hj y;rw[cJ Bp]at j9;cases j9;exact(B6,o[j])=@Å;rw[C1];let:=aXa hj;calc dE @F_;rw[ę,o[j],G.1];simp[e]at this
   .rw[Õ,d,jI @d (LR,@cl,(Ŧ,G.1),(Ĺ,xk)) t _ _ _ (zP,(Ĺ,g3),?_)];calc dZ a b r o n @Dm (ò,aD G.2.2,@ŭ,@ik,R,sN,bU C @Ä hn @gw);calc(ğ,b,p2,o,@Ml,(ET,@WJ));show@z_
  .rw[s,<-ai];rw[ag jx]at q0;calc(Ŭ,b,{_,ip},@Ę);apply rB @ċ o @cq (λno=>.int (o,@ahk)) @e hD ip @ę @rL @D3 @vs
   .rw[iG,hs,<-ne];let S:=@ao;rw[k2];rw[ì];.rw[(@oP)]at S;calc(BJ,(hd.same hs).get (c:=z) (by simpa using hc));show(Ň,(ng,d,(En,@Ee),t,g3,S))
    .rw[(@oO)]at S;show S
   rw[(@cw)]at h1;rw[É,(wV,(Ŋ,@ahk)),(Ä,lS @af p o),by delta lS;rw[CV,b6];rfl];rw[e1]at h1;rw[lj,@af,<-Ð,b,@vr,@dH];calc QR @ċ o @am5 (lg,x.2) @e ia @vr @ļ @Vw @HG @oe;.rw[iG,@Un,<-ne];rw[k2];show@ao
   rw[È,(o.zipIdx.filter @am5).map λx=>(ś,x.2),(mW @af o).map @ċ,by delta mW;rw[b6];rfl];rw[e2]at h2;calc(š,D2,(Ý,h2),@bG);rw[aw];cases N:(mW (p.map (λx_=>x_.1)) o).getLast? with
   |none=>rw[N]at q0;let g:mW @af o=[]:=GH.1 N;rw[g];calc@Ŵ;rw[s,<-à,b,D,(é,o,_,@Ml,@lQ,@C,@abW)];show@z_
   |some j=>
    rw[N]at q0;let bK:0<@ak8:=by cases U:mW (p.map (λx_=>x_.1)) o with|nil=>rw[U]at N;cases N|cons x l=>simp
    let{{x,hx,_},_}:=_M.ald N;let Bp:j<n:=(bE,sN,hx);rw[bN (ſ,(v,@ak8)>0)];rw[ce,<-s,<-ð,cY 1 @d D2 _ _ _ (ı,@d,@f3,aGo (Ê,List.getLast?_map,N),?_)];calc dZ a D r _ n j (Ĵ,(qR,ha),@lQ,R,@C,hn,@abW);rw[à,b,p3,(é,o,_,((s1.trans s2).trans s3).seq hb,@Ht,by simp[mT,gc,sN],{@C,@hV})];show q0 H4 p4 (((s1.trans s2).trans s3).trans s4) h4
def aGq{t u:TE}[a][eJ](h2:(A,a)->(hZ,@bR,@Fs))(h:(ŷ,@M3)):al4 t u σ H Q:=(n1,(fv,a),h,@zZ)
def aGr(x:Nat)[ï]:zN @jk (l.map λ(y:Nat)=>@X0)=@RA:=by
 delta zN;rw[aw9];rw[Ô];rw[TD,iW];constructor;.rw[E,@gr,<-eV,pP @X0 @jk];rw[C1]at F;let:=cF F;rw[Ċ,y,x,<-Ĕ];show hy
 .ext h;calc ab x h ?_;exact pP @jk @jk=@o;rw[C1];show@dh
def aGs[ń][ŋ](g:oY->@Ù)(f:oY->V)[O](hl:@aaa)[ě](hd:@alF)[aj](ht:∀(i:Nat)(z:@Ep)(H':Hp)(Q:@cC),(LU,@FV,tt (jz,@axm) H' Q))(step:@aqH)(N:(f4,((zs.map @Ĥ).filter g).map f)):(y4,@app,@apq,@aps):=by
 rw[lA];calc(IR,@ahS);rintro i k v H' hk⟨hs,hm⟩;rw[pc];let nr:(v5,@Q)=@ahS++(fF,@FV,f z.2):=by rw[uQ,hz,EB,bF,ajy,bF];congr 1;by_cases h:@FV=@o;rw[ä,@f0,ajI,aiP h,<-ä,@eH,ajI,aiO h]
 rw[ř];calc@asT;apply b9 @PP @PP
 .apply(A2,@Hv,@Nx,(hs.trans h3).trans h4);.rw[aw];calc oB @m1 ?_;rw[aw,f_];show@l2
  .rw[aq,nr,aj hg]
 .rw[Ì,@Hv];rw[nr,ag hg,iO];show@Nx
def  Ma(m ns:@h)[A]:@h:=m.filter λo=>o !=c&&! ns.contains o
def  ub[c](m ns:@h)[A](p:j6):@Ù:=(DA,aD @rD)&&Bh n @W3 @Ay p
abbrev adv:bi:=top 107
def Fx:(õ,["cases","numbers","card","size","place","other","to_come","left","case","at_its_place"],@AV,adv):=@E
def  aoK[b]:Sp:=λvs H Q x_=>∃(l b:aa)(cs:@gj)(m ns:@h)(c n:Nat),vs=[@ē,@î,.int c,@aa]/\km H l cs/\(tX,ns)/\cs≠[]/\(ĕ,@Ţ)/\@HY/\@XX/\@ó<n/\(aQ,(qd,km H' q (cs.filter @CM)))
def aGt(F:(h,"cases_left","cases_left",adv))[g](J:@aq5):(Â,2,@AV,@Vx):=by
 calc(e,Fx,@H);.clear h;calc(xS,@x8);subst aW;rfl
 .clear h;calc(xS,rE λn bf hl hb yJ ja=>jF λl_ kZ hi hn q0=>?_);subst bf;rw[jN,ns.map @ċ,<-Ď,hl,@sx,<-ms,(by cases zs with|nil=>rw[Ò,iM.symm,yJ]|cons z zs=>rw[ć,z])];let m0:=@oU;rw[Æ,(hz u m0).2,λes hd r he=>?_];let I:u.2.map @ê=m:=l_ _ (co,iM,u,m0);let Jn:es.length=@ń:=by rw[<-I,<-r];simp
  rw[w,<-aU,(iw,@jg,@pq),aCI (fe,6,@jg,[("other",5)],abc @kQ,(ej,5,@jg),(kT,(bG,(dt,@Ć,@R),(uN,@Ć,@K))),@Ć),(Ĝ,7,@jg,@Ĵ),(aC,@Ð,8,@jg,(cw,9,@jg,(tg,aAI (Ly @jn @R @aU),(bh,(hW,@aU,@R),(cU,@Ô))),(iz,(bG,kh @ij,kh (hQ,J,@Ł,@aU,@wF,@Á)),@Ń,@aU))),@Ń,<-î,@v2,@Ħ,@sY,@ahj,<-s,<-è,b,ip,?_];rw[aw];calc(n?,u.1,hd);rw[s];let O:=adq (od:=od) hd ip;calc(Ĭ,l,zQ @d @d (adq hd @Hu) @Ll u.1 od (Ì,@OR));apply aGs (λx=>x.1 !=c&&(wK,x.1)) (lg,x.1) @e hD aq @ę @D3 @HG @oe
  .apply Il @aee (wK,@Ā) @ci @ci @ao
   .rw[Ï,Qm @d ?_];let:(dd,(Đ,@Ā),(Đ,c))=@aee:=by rw[gR];rw[Ô];rw[AA,oK,TK];show{λq e=>q @D7,λq e=>q @e}
    show(ĵ,(d,this,k))
   .rw[Õ,b,(ı,.inl (hs.seq O),@d,?_,?_),<-cD];.show(ĵ,(Ç,@Þ,aGr,k))
  let g:=adp hd s2;rw[Ì,@wh,<-s,<-dN,D≠u.1];let h3:(á,ah H2 u.1 @acp D,(Ä,@Ay)):=by rw[aF M,h2,r,CV,<-I];delta Ma;rw[J7,b6];rfl
  rw[bV,u.1,@acp,<-s,<-Ó,@dH];let s4:=(ŗ,H3,ia);calc(uU,(Ě,@ad4));let N:∀H4,@M'->af H H4:=λH4 s=>g.trans s;apply(a8,λj σ H4=>@M'/\∃v8 G:@Ñ,σ=@apt/\km H4 D2 @aev,(Ń,l,@ŵ,Pz,mr s4 @u @u @d @jJ,λj σ H4 _ h=>(cl,@ad4)))
  .ext j y σ H4 hj;calc EZ λvF v8 G bu S=>?_;subst bu;rw[db,<-i4,<-i3];let d:mI H4 z.1 z.2:=(hz z @tt).2.same @af7;rw[pW,d.has c];rw[p]at k2;rw[oi,@aew,@aev,@yW,@yW];calc aog ?_;dsimp only;rw[s];calc@o5;rw[s];calc@o6;calc aGq @axt (E,@KC,@sz) @ci (λha Q' k=>?_) ?_;.rw[Ï,(ē,z.1,(k7,@cR,k1,@d))];rw[k2];show k
   .let DE:c∈@D2:=(d,p,iW.1 (by simpa using ha));calc(BJ,d.get DE);rw[Ï,(ng,z.1,(En,@cR),t,g3,(į,{@aI,@t6}))];rw[gR,(ha,(bq,(ñ,!@av3),@vH%2,@KC,@sz))];show k
   let fin:∀H5,af H4 H5->(A,@yW)->af H3 H5/\∃v8 G:@Ñ,((wu,@vN,some (.bl (DA,@KC))):@fg)=@apt/\km H5 D2 @aew:=by ext H5 s5 hf;calc mr (vF.trans s5) _ _ @d ?_;rw[nr,hf];rw[ge,H5,D2];rw[iO];show@ak9
   rw[Å,@alZ]
   .rw[ð,(nY,dZ D z.1 @Ay z.2 @W3 n (Ĵ,ak.of (vF _ _ h3),d,?_,?_,@e,{hn,@Vt}))];.ext x hx;rw[p];show@GE
    .show(bs,kZ)
    apply@Xq
    .rw[s];let hf:@yW=@o:=by delta ub Bh;rw[h7,C,dB];rfl
     rw[Æ,(x1,@ak9,s5),@of,<-Ý,hy,(kZ,D2,zQ @d hy ?_ (dA (vF.trans s5) ia) _ _ @ľ),<-Â,dQ,fc (bs,@v?),<-m0]
    .rw[s];calc fin H5 s5 ?_;delta ub Bh;rw[kx]
   .apply fin H4 @ĩ ?_;delta ub;rw[jA.2 C];rfl
  .ext σ H4;calc EZ λvF v8 G bH S=>?_;subst bH;rw[s,<-ar,@Ţ,iM];rw[aw,jy,iQ]at S;show(R,q0 H4 D2 @af7 S)
def aGu(e:Bool)[o]:(E,aD (! e),i%2)=(e==@dc):=by let h:@hK\/i%2=1:=@e;rcases h with h|h<;>rw[h]<;>induction e<;>rfl
def aGv[e]{m ns left:@h}{l:@gj}[dZ](hi:@Q<=n)(vB:@ó=i)(d:@adw)(hL:@are)(hl:∀p∈l,@Ď)[A]:l.filter @CM=(kK,c):=by delta qu;refine TW;ext p hp;delta ub Bh Ma;rw[vB,aGu,_M.ali hi hm @aiy _ (left:=(jn,c)) @dw];rw[Ô];rw[iW,jk,hL x,eZ,AA,<-N4,iW];show{Fa λa b=>{{d x hx,b},a},Fa λaW a=>by let{_,b}:=aW;show⟨a,b⟩}
def adw:@apF:=by ext z_;cases z_ with|nil=>rw[Ø]|cons x l M=>show(Ô,HT.Ia,@Þ,M)
def adx:∀{a b c:@À},HT.lexLt a b=@o->HT.lexLt b c=@o->HT.lexLt a c=@o
 |[],[],_,h,_=>by rw[adw]at h;cases h
 |[],_::_,[],_,h=>@Ŧ
 |[],_::_,_::_,_,_=>rfl
 |_::_,[],_,h,_=>@Ŧ
 |_::_,_::_,[],_,h=>@Ŧ
 |x::a,y::b,z::c,h1,h2=>by
  rw[HT.Ia]at h1 h2⊢;by_cases e1:x=y
  .rw[aj e1]at h1;by_cases e2:y=z;.rw[aj e2]at h2;rw[hJ];show@ak_
   rw[la]
  .rw[ag e1]at h1;let h3:=cF h1;by_cases e2:y=z;rw[kt,<-lb]
def ady:(BD,(rG,@HD,@HC),@qq)
 |[],[],_,_=>gA
 |[],_::_,h,_=>@ù
 |_::_,[],h,_=>@ù
 |x::a,y::b,h,h1=>by
  let hc:(rG,(v,y)::@HD,@og::@HC):=h1;rw[HT.Ia]at hc;by_cases e:(v,y)=x;.rw[(@k6)]at hc;show(gZ,ady @Ÿ hc)
  .rw[(@kv)]at hc;let:=G_ hc;show@QA
def aGw[ţ]:(cg r).map sF=nL (gZ r):=by delta nL gZ;rw[g_,b6,b6];rw[Î];ext c hc;let hp:@h1:=@Ui;exact@HF=(o,@uM);delta sF told;induction c.up with|true=>exact(di,-@ni,@cJ,0)=(o,aD @o);rw[aj (by rw[k9];simp+arith[*])];rfl|false=>exact(di,@ni,@cJ,0)=(o,@B7);rw[ag (by rw[k9];simp[*])];rfl
def aGx[Ř](f:α->@À)[O](hl:@lD)(hf:∀z∈l,f z≠[])[ě][aM](step:∀(i:Nat)(z:α)(H':Hp)(Q:VK),(H,l,z)->@bs->(∀C p,@BC->(á,C p,(f z).map @é)->Q @ã C)->@EN)(hd:∀H'(zs:(ţ,@À)),@bs->(ł,@ŵ)->@hG=@oQ->(∀z∈zs,@amn)->j H'):@arE:=by
 apply(wd,(ho,(fi,@À,(ł,@ŵ)/\@hG=@MX/\(lr,@amn,z.1≠D))),aED @jA ([]) aq @d @dx,λH' h=>?_)
 .ext i x H' hx;calc@akB;rw[cQ,<-ř];simp only[ni,ku];calc step i z H' _ hz hs λH4 p h4 hp=>?_;let S:=h4 _ _ h1;let g:@py:=λe=>by rw[e,S]at hp;let e1:=(dW,hp);let aQ:=hf z @k';cases d:f z with|nil=>show aQ d|cons y ys=>rw[d]at e1;cases zs with|nil=>cases e1|cons w zs=>cases e1
  calc Q1 _ S ?_ (Ć,@o4) (dg,p,f z) ?_ @hY;.let:=(Ř,h2);rw[aw,aw,f_]at this;rw[aw,this];show@l2
  rw[ń,<-ä,bF,h2,@M?]
  .ext w o0;rcases bX.1 o0 with m|m;.let{a1,X}:=h3 w m;rw[aF X];show{h4 _ _ a1,X}
   rw[hN,g,⟨hp,g⟩]
 .clear h;calc@akB;rw[aw,iQ]at h2;show hd H' zs hs h1 h2 λz m=>(h3 z m).1
abbrev adz:bi:=top 110
def vt:(bA,["row","steps","cases","size","numbers","to_come","place","at","left","case"],"steps",adz):=@E
def  aoL[b]:Sp:=λvs H Q _=>∃(a b:aa)(r:eG)(ss:@Č)(n:Nat)(x:aZs),(kz,@T,0<n,@ï/\(d_,b)/\(Gw,C9 ss,@pz,@KO,@Jd,@asg,(dH,@ek),@jv,(g5,(match@jP with|none=>[]|some z=>cg z).map @é)))
def aGy(F:(h,"first_failing_row","first_failing_row",adz))[g](aN5:(da,"failing_cases","steps",4,@Vr))(ar6:(È,"cases_left",@AV,2,@Vx))(aN6:(È,"first_row_of",["case","row","numbers"],4,@Vu))(aN7:(g1,"sides_of",@Vk)):(ce,5,"steps",@Vy):=by
 calc(e,vt,@H);.clear h;calc bv λa b r ss n x=>Fa @sQ;subst aW;rfl
 .clear h;calc bv λa b r ss n x=>lW λaN8 ha R h0 hn hb=>lW λhok gc yI yJ JE S5=>Fa λhT q0=>?_;subst aN8;let FE:=R.len;rw[d?,FE,<-w,<-Û,@bp,(bk,aN5,@K),(đ,(mZ,@R),@Ĵ),ay (æ,@bp,@č) (ĳ,4,@bp,@Ĵ,5,@bp,(A5,@Á),(ħ,(cC,@Á,6,@bp,(ĳ,7,@bp,aH,8,@bp,@arZ,(Č,(aO,(mZ,@aU),(cw,7,@bp,(ay,@Ń),(Ĝ,8,@bp,@arZ))),(a9,@Ô,(FW,@Ć,@Ń)),(bi,2,@bp,@aU)))),(Ct,aN7,(ŵ,"case",9,@bp,gn @R,9,@bp,(bt,aN6,@ij,@Ð,@Ô))))),<-i_,_,ax (sn _ cC) a6,(gl,il),(EF,(ì,NC)),<-s,<-à,a,b,(â,r,ss,n,@avk,ha,kl R hn hb hok gc yI (bU yJ JE hT (λH1 O m s1 Dq qG h1=>?_))),<-iB,<-mr];let d:@bb:=@afa;let hmu:@adw:=(wR,@afW);let ar8:m≠[]:=λe=>by cases lp:ig ss with|nil=>show yJ lp|cons c l=>let:=@agk;rw[Ğ];cases this
  let SJ:(dH,m):=(Bk,S5 c);let iB:(Hl,@agj):=by
   ext p;rw[jk,_M.ay4];constructor;.rintro⟨G,h⟩;delta pV Bh at h;rw[(@ak')]at h;rw[eZ,eZ,AA]at h;show bU G h.1 @š @gU
   .apply gX λG h1 h2 h3=>?_;calc(À,G);delta pV Bh;rw[(@ak'),h1,h2];exact(Ģ,@o,@o&&!@jv);rw[h3];rfl
  let{aN9,aN_}:=_M.aze R h0 g SJ ar8 d iB;let{_,yL}:=@aoq;rw[iQ]at yL;rw[lD];let aOa:((og m).filter @ax3).length<=256:=(bs,@C);generalize@agj=L0 at*;rw[ao,h1.len (K:=K),<-è,O,hy,@cm];rw[dQ];calc@í;.rw[s];let hL:L0=[]:=rS.1 (jV,@BF);rw[Ó,λD hD=>(dF,_,aL s1 hD)];rw[aN9 hL,aq];rfl
  .rw[s];let hL:L0≠[]:=(ro,@h0);calc f7 (aN_ hL) (λpO pN pM=>?_);rw[b?,?_,<-ŧ,<-Ó,@US];let s2:=(ŗ,H1,S);let n2:=(cD,H1,N);let JB:(Á,N):=s1.free S;rw[ķ,N,[],<-dP,<-bT,@iW,cP];calc(o0,λT BF=>?_);rw[(@qt)];rw[bV,p2,@iW,<-o?];rw[et];let ar9:af H H3:=s1.trans @dG;let hT0:@io:=ar9.free BF;let n3:=(Í,n2);let Jy:N≠T:=Fp n3 BF;rw[en,@f8,BF];let t4:=(ĉ,H3,T,@f8);let n4:=(Ě,n3);let c4:=h1.same Db (s2.trans @cP);let sH4:(iv,H3,T,@f8):=ar9.trans s4;rw[e9,T,@f8];let MA:∀p∈L0,@Ď/\(g_,0,@ô):=by ext p hp;calc r8 ((iB p).1 hp) (λG _ h3 _=>?_);rw[Ì,G];rw[<-h3,<-_M.VD (n:=n) (i:=0) g G,<-_M.ali @Gk g G @cq (left:=@ô) (λc hc=>(iW.2 (hmu c hc)).symm),(@cw)]
   calc(dJ,@ö,?_);apply(iY,@Í/\∃(ns left:@h)(cs:@gj)(l:aa)(v6 v7 v8:@Ñ),σ=(pa,v7,v8)/\(Û,N,@XY)/\(Û,T,@XZ)/\km H' l cs/\@ó=i/\@LO/\@u1/\cs≠[]/\@Ţ<=256/\(∀p∈cs,@Ď/\(g_,i,@å))/\@are/\(sp,L0)=ns++(lc n m @Ř i @å cs).1/\(oP,L0)=(lc n m @Ř i @å cs).2,@jF,Rt sH4 ([]) @ô L0 O @u (é,@u,@u,n4,t4,c4,(Ĵ,(Ú,_M.iR),_M.KS n,hL,aOa,MA,(Ũ,λc=>@A,@d))))
   .ext i σ H5 hi;calc@aqF;subst qq;rw[P];let FG:@HY:=λp hp=>@ak!;let hlw:=λc=>aGv (n:=n) (i:=i) g @e vB hmu agE (λp hp=>(F7 p hp).1) c;let{u,yu,w1,w2,w3,w4,w5,w6}:=_M.azf g yC @Ä SV F7 lp;let asb:∀(k:Nat)(hk:@Jw),(İ,@XZ,@ë,(Ŋ,@fI)):=λk hk=>(oi,cJ hk);calc(II,t5,0,0,c5,ak.of n5,λH6 q6 s6 c6=>?_);rw[hlw]at c6;calc(f_,af H5 H'/\∃(k:Nat)(hk:@Jw)(q:aa)(v6:@Ñ),σ=(pa,@I8,(T,q))/\(Bn,(q4,(lW,j)))/\km H' q @My,match σ with|[_,_,_,_,_,_,_,some (.int k),_,_]=>n-@bj|_=>0,{s6,0,@e,q6,_,@d,@QK,c6});rintro σ H7⟨s7,k,hk,q,v6',rfl,agF,c7⟩;rw[x,c7.len (K:=K),λys7 hy7 agr=>?_,<-è,q,hy7,@cm];rw[agr];apply b9 @Vz @Vz
    .let he7:@My=[]:=rS.1 (jV,V.int.inj (cF hc7));let hkk:k<u:=by
      rcases Eb k u with h|h|h;.show h
      .exfalso;subst h;show w1 he7
      rw[Í,@ak?,w1]
     rw[aX,λσ H'=>af H5 H'/\∃(q:aa)(v6:@Ñ),σ=(pa,(Ï,@ë+1),(T,q))/\km H' q (q4,(lW,@û))]
     .ext σ' H';calc EZ λs' q' v' bf c'=>?_;subst bf;calc{_,?_,@d,s',@û,@e,q',v',@d,?_,c'};.show ajE (Ò,k<n) (Aq k)
      .ext j hj;rw[cj,<-Đ,he7];.show agF j @e
     .rw[s,<-á,(II,@abw,@û,@û,c5.same Db s7,(xD,n5),λH8 q8 s8 c8=>?_)];rw[hlw]at c8;show mr (s7.trans s8) q8 _ @d c8
    .rw[s];let S6:@My≠[]:=λe=>hc7 (bN @h0);let hkk:k=u:=by
      rcases Eb k u with h|h|h;rw[Í,w2 k h,S6];.show h
      rw[Í,@ak?,w1]
     subst hkk;let n7:=(dw,n5);let t7:=@abw;let hqT:q≠T:=λe=>by clear c7;rw[Ë,@H0];rw[e,t7]at z1;let e1:=(dW,z1);cases zs with|nil=>show S6 z2.symm|cons z zs=>cases F6:left with|nil=>rw[F6]at hk;show absurd hk @CT|cons y ys=>rw[dk]
     let hqN:q≠N:=λe=>by clear c7;rw[Ë,@H0];rw[e,n7]at z1;let e1:=(dW,z1);cases zs with|nil=>show S6 z2.symm|cons z zs=>cases F6:ns with|nil=>rw[dk]|cons y ys=>rw[dk]
     calc(Ix,n7,t7,k,@fI,t7);rw[k7,<-ä,bB,Fi,cJ hk]
     .apply(od,N,@al?);rw[s];let c8:=c7.updD (o:=.lst @aqI) t7 hqT;let n8:(fu,H7,T,@aqI,N,@XY):=@al?;let c9:=c8.updD (o:=.lst ((Ä,ns)++[(ś,@fI)])) n8 hqN;calc abQ _ @d (dA (dA (s5.trans s7) hT0) JB) (ns++[@fI]) @oV _ (ğ,q,_,_,?_,kl ?_ c9 ?_ ?_ w5 S6 (dI ?_ w6 ?_ ?_ ?_));rw[lu,<-n9,Jy.symm,<-Ú,eM,vB];.rw[aiI,aj hk];omega
      .show(bs,ar_)
      .ext c;rw[w4,jk,agE c,bX,dt,TK];show{Fa λbf M=>by let{a1,X}:=bf;show{a1,λh=>h.elim X M},Fa λa1 X=>{{a1,λh=>X @di},λh=>X @uA}}
      .rw[F8,(@aoz),w3,gh];rfl
      .rw[jL,(@aoz),w3]
   .ext σ H5;calc@aqF;subst qq;rw[s];rw[(@ya)]at vB yC F7 F8 jL;rw[J1]at F8 jL;rw[É,(sp,L0),ns,by rw[F8];exact ns++[]=ns;rw[iO]];let e2:(oP,L0)=cs:=jL;rw[s];rw[e1,e2]at pM;rw[s];rw[e1]at pO;rw[Ď,c5,λzs z1 z2 z3=>?_,<-ar,@Ţ,z2];let agH:∀p∈cs,j5 r @af ns p=(pH,ns):=λp hp=>(ø,@ak!);calc(Ĳ,l,z1,@Ę);calc aGx (qc,j6) zs (λz=>@aiR) @e (λz hz e=>?_) hD (ak.of z1) @ę (λj z H' Q FU hs q=>?_) λH6 ws s6 d6 ws1 ws2=>?_;.let W:=(_M.alm (r:=r) (m:=m) (p:=z.2) pO).len;let e3:=(Ř,e);rw[g_,aw,W]at e3;show absurd e3 @cX
    .rw[Ħ,FU];let mc:z.2∈cs:=(co,z2,z,mz);let l_:=(F7 z.2 mc).1.names;calc(ar,dZ z.1 a N r z.2 ns (ò,n,(z3 z mz).2.same hs,(s5.trans hs).seq ha,ak.of (ĭ,n5),R,kl h0 hn pO (hO,l_) (d,l_,d) (λe=>by rw[e]at l_;show ar8 l_.symm) (λC p aOf hp=>?_)));rw[agH _ mc]at hp;show q C p aOf hp
    let asf:(FD,(Cu,(hS,H6 p,@qa))):=by ext i v hv;rw[bB]at hv;cases ew:ws[i]? with|none=>rw[bU];cases hv|some y=>rw[bU,<-nm];rw[ws1,bB]at e3;cases ez:zs[i]? with|none=>rw[ez]at e3;cases e3|some z=>rw[ez]at e3;let e4:@aiR=y.2:=cM e3;calc aU y.1 z.2 @Ri (C6 z2 ez) ?_;rw[e4];show ws2 y @u7
    let nB:@d9=@Ţ:=by let:=(Ř,ws1);rw[aw,aw]at this;simp[*]
    let agI:∀c,aJ n @qa:=λc=>_M.alm pO;let yo:∀c,(tt,@qa):=λc=>by delta gZ;rw[aw,(@VA)]
    calc{D,_,λH i v=>(Cu,(ã,p,(Ä,gZ @qa))),λi j=>HT.lexLt (Ae,i) (Ae,j),@d,d6,?_,@arV,@VB};rw[đ,nB,BY.2 lp,<-kc,λp c e h1 h2=>?_,aU p c e h1 @pF];.ext i v Ha hv hs Q U;calc lT @aqJ (λp c bu h1 h2=>?_);subst bu;calc aGf p _ @d (ak.of @pF) (CX,@VA) (FE,aU p' c @d h1 ?_);rw[By,aGw (agI c)]
    .ext pins σ Ha sa i j vi vj ui uj Q E' I;rw[ë,λp c bH h1 h2=>?_];subst bH;rw[ë,λp' c' cb nv kX=>?_];subst cb;ext ri rj hQ;rw[j2,<-mt];rw[(@arW),(Mc,j,c',nv)]at hQ;show aEk I h2 kX (by rw[lX,lX,yo,yo]) @jn hQ
    .show λx y z=>adx
    .show λx=>adw _
    .apply lT @aqJ (λp c cB h1 h2=>?_);subst cB;let mc:=eD h1;let{Bu,_}:=pM @qa (ý,c,mc) (by ext q' nz;rw[À,nz,λc' rJ cZ=>?_];subst cZ;let{j,hj,ej}:=oC rJ;let h3:=wX j (aa,nB,hj);dsimp only at h3;rw[(@arW),show(qm,j)=c' by rw[eY,(@kr),ej];rfl]at h3;show ady (u,yo,yo) h3);calc q0 H7 p (s5.trans @vw) ?_;rw[Bu];show@abv
def aoM[aA]{D:aa}(t:@cY)[ap]:@aax:=by rw[f?,t];delta eW at t⊢;rw[<-t];rw[Î];ext p hp;rw[cz];show aF (oC,ex)
def Mv.off[be][w](m:@wm)(aQ:@em)[bI](hx:(EZ,xs)):@py:=by rintro rfl;clear m;rw[E,@gv];rw[dG]at hD;cases hD;cases h with|nil=>show aQ @d|cons x h=>rw[iF,x,@d,λq U e=>?_];let{ys,hy}:=hx q (ý,q,eD U);rw[hy]at e;cases e
def Mv.updO[be](m:@wm)(hp:@py)[ap]:Mv @ay p h:=(ni,@gv,vn ps (C,hp,dG) (aoM ht hD))
def  eX[Ċ](hs:@È):@v:=(Dn,az,hs,@ape)
def  zR:=@λ{I W p2}G j D r=>@id (@eX I W p2) ⟨G,j,D,r⟩
def eX.same[cr][bP][Ō][m]:(eL,H'):=(n8,@Ż,(Cv,mz))
def eX.nil[a](h:(a_,[])):eX H l []:=(zZ,h)
def eX.refs[a]{zs:(ţ,az)}(hz:@ape):(EZ,@ŵ):=by ext q U;rw[À,U,@VC,<-x,(hz z mz).1,@sc];cases e;show{_,dG}
def eX.snoc[P][k][Ō](a:@wm)(aQ:@em):(hC,hs.length,eX @qu l @adL):=by
 clear m;rw[Ë,λzs e aW hz=>?_];subst aW;let hr:=eX.refs hz;rw[iv,e];calc bC _ e @A (zR (dg,p,h) ?_ ?_ ?_);rw[ń,<-ź]
 .ext z mz;rcases bX.1 mz with mz|mz;.show{(hz z mz).1.updO ((hz z mz).1.off @Ey e hr) g,@Ey}
  .cases dt.1 mz;show{a.updO (a.off aQ e hr) g,aQ}
def eX.len[c7]:(vw,@KS,hs.length):=by clear m;rw[Ë,@UZ];subst bu;show@agn
def  gb[Ý]:@ce:=[(Ŧ,x.1),(Ŧ,@nc)]
def  i7[đ]:@cn:=M.map gb
def adA{x y:@Ü}(h:@dI=gb y):x=y:=by
 let{a,b}:=x;let{c,d}:=y;delta gb at h;injection h with h1 h2;injection h2 with h3 _;rw[É,@li,c,ze h1,<-È,@IU,(Î,aD d),ze h3,<-Ċ,a,c];subst this;let:b=d:=by induction b<;>induction d<;>first|rfl|rw[Ř,e2]
 rw[Ã]
def aoN:∀{a b:az},i7 a=i7 b->a=b|[],[],_=>rfl|[],_::_,h=>@Ŧ|_::_,[],h=>@Ŧ|x::a,y::b,h=>by let h':@dI::i7 a=gb y::i7 b:=h;injection h' with h1 h2;rw[adA h1,aoN h2]
def  lZ[df][đ]:@v:=(zV,@zm)
def  IC:=@λ{I W p2}G j r=>@id (@lZ I W p2) ⟨G,j,r⟩
def lZ.same[p][ù]{M:az}[aq][m]:@ao1:=let⟨ps,a,c⟩:=t;(IC ps @Ż @H2)
def lZ.keep[p][aq](k:(BU,(Ĉ,c,@a4))):@ao1:=by clear t;calc bj @H3;calc IC ps (k _ _ a) ?_;let tm:=@eW.mem H ps M c;delta eW at c⊢;rw[<-c];rw[Î];ext p hp;rw[cz];rw[ex];show k _ _ ex
def Mv.keep[ħ][k](m:@wm)(hd:∀xs,H d≠some @G_)(qL:@aaw)(k:(Dp,@jD)):(ó,p,h):=by clear m;calc bj @H3;calc vn ps (cq,(oB,a),a) ?_;rw[f?,c];delta eW at c⊢;rw[<-c];rw[Î];ext p hp;rw[cz];rw[ex];show(cq,λq=>qL _ (e7,ex),ex)
def lZ.toS[a][aq]:Bc H b M:=let⟨ps,a,c⟩:=t;(abq ps (.inr a) c)
def lZ.updN[Ü][aq][ap]:lZ @ay b M:=by clear t;rw[E,@H3];show IC ps (gR,(oC,a)) (aoM c hD)
def aoO[a]:∀{ps:@Ë}{M:az},@zm->Paired (λp(k:List a_)=>@ayh) ps @ic|[],[],_=>@á|[],x::M,t=>@NO|p::ps,[],t=>@NO|p::ps,x::M,t=>by rw[jP,@zm];show .cons t'.1 (aoO t'.2)
def lZ.nkey[a][aq]:sk H b @ic:=let⟨ps,a,c⟩:=t;(alW ps a (aoO c))
def  Mb(zs:@XP):@dM:=(lq,(@vb,@br))
def  ll[a8](K:je):@v:=(A1,@eO,.dN @VE,K,(ab,z.1,(Ä,@b8)))
def  RB:=@λ{I W p2}G j D r=>@id (@ll I W p2) ⟨G,j,D,r⟩
def ll.same[p][a0][m]:ll H' d K:=let⟨zs,a,b,e⟩:=c;(RB zs @Ż b (xY,@LI))
def ll.updO[Ü][a0](aQ:d≠D)[ap]:ll @ay d K:=by clear c;calc@F1;calc RB zs @pY b @C0;rw[aF (oC,@LI)];show@LI
def aoP{zs:@XP}[đ]:(nW,@VE,@ic,M):=by delta dv Mb;rw[Hc];rw[cF,@cn,(gy,@ic),(gQ,@eO,(@vb,@br)),(e_,M),(n9,@vb,@ic,{aoN,λq=>@oo}),<-Ã];cases zs.find? λz=>z.2.1==M<;>rfl
def ll.has[a][a0][đ]:∃kvs,@JL/\@Ă=K.length/\(p?,@ic)=decide @acb:=by clear c;calc@F1;calc bC _ a (by rw[<-b];simp[Mb]) ?_;rw[aoP,Ez,<-b,b6];rw[Ô];rw[aw_,cG,bE];show{(Ba,@Rf),(Ba,gy.2 q)}
def ll.get[a][a0](dJ:@oX){x:@eO}(hx:x∈K):∃kvs t,@JL/\(aq,i7 x.1)=some @ab/\(ab,t,(Ä,x.2)):=by
 clear c;calc@F1;subst b;rw[hO];subst bH;rw[b6]at dJ;let hf:@aoE:=by
  revert a e hx;cases zs with
  |nil=>cases mz
  |cons y zs ih=>
   rw[fK];rcases eJ.1 mz with q|q;.subst q;simp[rT]
   .let aQ:¬@amX:=λr=>dJ.1 (a6,z,q,(gy.1 r).symm);rw[rT];simp only[jA.2 aQ];show ih dJ.2 q
 show aU _ z.1 a (Ê,aoP,hf) @LJ
def ll.add[a]{t:aa}{K:je}[ĺ](c:@qm)(ht:(ab,t,@Jf)):∃kvs,@JL/\ll (cb,.dN (kvs++[(@ic,V.ref t)])) d (K++[(M,ks)]):=by
 clear c;rw[Ë,λzs a cb e=>?_];subst cb;let hd:@aaw:=(ā,a);calc ab _ a (RB (dg,t,(M,ks)) ?_ ?_ ?_);.rw[aq];delta Mb;rw[bF];rfl
 rw[ź];.ext z mz;rcases bX.1 mz with mz|mz;rw[å,(oB,@LJ),@LJ];.cases dt.1 mz;rw[aF (oB,ht)];show ht
abbrev vv[Ċ](u:je):@v:=(ud,@VF,u)
def aoQ:pT @eu @VF:=@Vj
def vv.updO[Ü]{u:je}(h:@ahg)[bO][ap]:vv @ay l u:=(H!,(Cw,hD))
def vv.snoc[P]{u:je}{x:@eO}(h:@ahg)(a:@OH):(hC,@fa,vv @qu l (bj,u)):=by clear h;rw[Ë,λzs h cB hz=>?_];subst cB;rw[iv,h,<-d5,<-ń,<-ź,<-cW,gA,(Cw,g),gA,a.updN g]
def aoR[a][ĺ]{j:Int}[f](hj:j=@ë)(hl:@b6<bq)(ha:(ak,(mn,ks)))(hb:(kG,[V.int j]))(h:∀H' t,(cQ,(Ĉ,t,(mn,@or)),@ab)):abr K @Î @î H Q:=by
 subst hj;let e:(Ä,ks)++[V.int @ë]=(Ä,@or):=@zR;calc aDX a b _ _ @d @d (cS.of ha) (cS.of hb) @A ?_ (λhx=>?_) (λhx p hp=>?_);rw[đ,lX,hl];.apply h H b @ĩ ?_;rw[<-e,hx];show hb
 .apply h _ p @tV ?_;rw[aq,e]
def RC[f](hr:@iB):@p9:=by let:=hr.un;omega
def Md{c:TT}[è](Pv:α->@aF)(μ:α->Nat)(G:α)(h0:(el,G))(hs:∀x σ H,(el,x)->(o8,@aF,∃m',m'<μ x/\∃d,m'=μ d/\Pv d σ' H')):@as':=by calc{λm σ H=>∃x,m=μ x/\(el,x),fM _ G @d h0,?_};ext m σ H;rw[E,λx cZ p=>?_];subst cZ;show hs x σ H p
structure RD[c](C:je):@v where
 one:n=1->C=[(gY 1,[])]
 all:@õ->La n C
 short:@ala
abbrev adB:bi:=top 120
def wR:(Õ,["size","start","cuts","number","steps","level","further","move","step","there"],"size",adB):=@E
def  aoS:Sp:=(sl,n<=6/\∀(H':Hp)(q:aa)(C:je),(q6,ll H' q C,RD n C))
def aGz(F:(h,"fewest_cuts","fewest_cuts",adB))[g][Ĝ][b9][ŉ]:(mQ,"size",aoS):=by
 calc(e,wR,@H);.clear h;calc bj λn d_ _=>?_;subst d_;rfl
 .clear h;calc tR λn fz h0 hn q0=>?_;subst fz;rw[cB,<-w,<-č,(cy,@cb,(n7,(cc,vJ))),(è,2,@cb,aDP ny @K @T8,(đ,(a',@Ð),@R),(iu,(oQ,@cb,"number",@wR,@cb,(fW,(bk,DJ,@Á),(bk,Nh,aH))),(Ĝ,5,@cb,@Ye),(t1,@Ć,(è,6,@cb,@Ĵ,(d6,@Ć,7,@cb,(e!,@Ô,3,@cb,8,@cb,(cw,9,@cb,(n7,(fW,@Ń,@aU)),(tE,CB (aDM ny @ij @R),aDN ny @R @ij (G_,@R,@Ń,@Á) @d,(a9,@Ł,@ij))))),(bi,5,@cb,@Ł))),@R)),<-î,_,@Ħ,@XV,(fG,@ew,(Ļ,dr),(um,fj),ax _ il,(d2,nG),(EF,(Cx,(ì,agJ)))),<-s];calc(Dd,λH1 W s1 O m1=>?_);clear m1;rw[E,@gv];calc(nx,W,dG,λm FN=>?_);let s2:=(aV,@Ķ,H1,FN);let J:lZ (Ľ,m,@GV) m @Ň:=(IC ps aq (ht.same s2));rw[Ů,m,@GV];calc λd hd=>(É,{@ð,@Vo});let R:@vY:=(s1.trans s2).free hd;rw[bT,@ii,hd];let d3:=(dV,d,@ii);rw[bW,@ii];let s4:=(aV,[],H3,FH);let d4:=(Ě,d3);let e4:=(mx,t0,@vd);rw[e6,t0,@vd];let t4:=J.same @cP;let sA:af H H4:=(Ja,@cP);calc(ű,m,@auL,t4.nkey,d4,?_);let c5:ll @yJ d @xf:=by
   let ht:t0≠d:=λq=>by rw[q,d4]at e4;cases e4
   calc RB ([(t0,(@Ň,[]))]) aq @d (λz mz=>?_);cases dt.1 mz;rw[aF ht];show e4
  let t5:lZ @yJ m @Ň:=t4.updN @ZJ;let sB:af H @yJ:=dA sA R;generalize@yJ=H5 at*;calc(kH,@í);.rw[s];let h1:n=1:=@BX;rw[Å,q0 H5 d _ sB c5 {λ_=>(ø,h1),λh=>@Ä,λx hx=>(mC,hx,@ð)}]
  rw[s];let h2:@õ:=by
   rcases ft n 2 with h|h;.show absurd (bN (show@SR=@o1 by rw[(Þ,n,1)];rfl)) hc
   .show h
  calc(dJ,@ö,λS hS=>?_);calc aa6 (lo:=0) (n:=@jF) (λi H'=>af H5 H'/\eX H' S (l!,iU n)) {aL @ĩ hS,eX.nil aq} ?_ ?_;.rintro i H' hi⟨hs,hm⟩;rw[cc];calc@ľ;simp only[ni,ku];rw[à,n,i,dI (Q,ajD) h0 @e @e @UG];calc(č,n,2,h0,aM @e h2 @UH);calc(â,U,p7,@Yo,@ś,(m6.same s7).toS,bU m7 (Ú,(_M.tM h2).len) (aU,(x3,jc g),_M.tM h2) @UI);let s58:=(s6.trans s7).trans s8;let{ys,hy,dQ,sS}:=(hm.same s58).snoc m8 (λe=>by let:=(Ř,e);rw[(bD,aY @Yo @ś,iU n i),(_M.K_ h2 g).len]at this;simp at this;simp_all);calc eR _ hy ?_ (dA (hs.trans s58) hS) ?_;rw[Ö,dQ,aw,nI,@ĳ,<-Ê,uF,bF,sS]
  rintro H6⟨s6,m6⟩;rw[(@ya)]at m6;let t6:=t5.same s6;let c6:=c5.same s6;calc(Ą,@cM,λL0 hL0=>?_);let s7:=(ä,@KB,H6,hL0);let l7:vv (Ù,H6,L0,@KB) L0 @xf:=(nV,[(m,(@Ň,[]))],gA,t6.same s7);rw[e_,L0,@KB];let c7:=c6.same s7;let m7:=m6.same s7;let sC:af H H7:=sB.trans @vw;calc(nI,Nat×je×je,λ(x:Nat×je×je)σ H'=>@Í/\@ND/\∃(Lq:aa)(v3 v6 v7 v8 G:@Ñ),σ=(IZ,Lq)/\ll H' d @Œ/\vv H' Lq @b4/\wy n x.1 @Œ @b4/\x.1+@ro<=@rp,2*(@xR-@rp)+min @ro 1,(0,@xf,@xf),jI sC @o8 L0 @u @u @u (é,@u,@u,c7,l7,wy.start n,@Â));rintro⟨dd,C,u⟩;ext σ H8;calc si λs8 k8 Lq v3 v6 v7=>jt λv8 G jM c8 l8 N DD=>?_;subst jM;dsimp only at c8 l8 N DD;let yt:=λ(K:je)(I:∀x∈K,_M.HP n x.1 x.2)(hd:(K.map (λx_=>x_.1)).Nodup)=>_M.az2 h2 I hd;let a0L:=_M.az7 hn;rw[ao,l8.len (K:=K),<-è,Lq,hy,@bG];rw[dQ];apply@í
  .let MG:0<@fa:=@gN;apply(n2,@Í/\@ND/\∃(l:je)(F:aa)(v3 v6 v7 v8 G:@Ñ),σ'=(IZ,F)/\@ayz/\@OO/\wy n (dd+1) @s7 l)
   .ext σ' H';calc si λs' k' l F2 u3 u6=>dF λu7 u8 u9 qP c' l' agK=>?_;subst qP;let nu:=(qT,@s7,(agK.best x hx).1,agK.nodup);rw[eM]at nu;apply qC _ ?_ (dd+1,@s7,l) @d s' k' (dZ F2 u3 u6 u7 u8 u9 (ı,c',l',agK,?_))
    .exact 2*(_-@ai1)+min @Ã 1<2*(_-C.length)+min @fa 1;rw[eM];let e1:min @fa 1=1:=ajH MG;rw[e1];rcases aiC l.length with z|z;.rw[z,Nat.zero_min];simp[*]
     rw[aO,ajH z]
    .exact dd+1+@Ã<=@ai1;rw[eM];omega
   .rw[s];calc{@ð,λF hF=>?_};let hF0:(Á,F):=s8.free hF;rw[Æ,c8.has @Ň,λkd hkd _ _=>?_];let nFd:F≠d:=λq=>by rw[q,hkd]at hF;cases hF
    let s9:=(ŗ,H8,hF);let f9:=(cD,H8,F);clear l8;rw[b8];let nLF:Lq≠F:=(C1,hF);let nLd:Lq≠d:=(C1,hkd);let k9:(K4,(ř,H8,F,[],c)):=λc o hc h=>(yQ,h);let c9:=c8.same s9;let kd9:=(dL,hkd);let asj:∀c o,(X,H7 c)->@jD->c≠F:=λc o h hc q=>(DJ,k8 c o hc h,hF);let z9:=(dL,X);let hz9:∀z∈zs,lZ @aqZ z.1 @Ā:=λz mz=>(hz z mz).2.same s9;let sH9:(iv,H8,F,[]):=@H4;generalize@aqZ=H9 at*;let MC:@aE=@fa:=(jR,iM);let tp9:∀H',@NG->∀z∈zs,lZ H' z.1 @Ā:=λH' k z mz=>(hz9 z mz).keep λc xs h=>k c _ (sb,kd9) (sb,f9) h;clear m7;rw[Ë,λss hss ess xj=>?_];let gc:@g5=n:=(f9,ess);rw[Æ,c7.has @Ň,λkd7 agN _ _=>?_];let nSd:S≠d:=λq=>by rw[q,agN]at hss;cases hss
    let sq7:∀H',@NG->(Û,S,@VG)/\∀z∈ss,@OD:=λH' k=>by let k':@ND:=λc o hc h=>k c o hc @asp @asq;show{k' _ _ nSd hss,λz mz=>(xj z mz).1.keep @ZK @ZK k'}
    calc(Ĳ,Lq,z9,?_);apply(fy,@Í/\@NG/\∃(l:je)(v3 v7 v8 G:@Ñ),(I4,v7,0),Lq,@ŵ,jI sH9 (λ_ _ _ _ h=>h) ([]) v3 v7 v8 (bx,G,(tn,c9),cN.nil f9,N.mid),(xX,h.2.1 _ _ nLd nLF z9))
    .ext i y σ MV hi;calc(BP,λu9 qQ c10 l10 S7=>?_);subst qQ;rw[P,<-da,<-P,<-Ħ,j9];let agR:(lw,u):=@tg;let mlv:=eD agR;let{mC,hzd}:=(N.lvIn z.2).1 mlv;let DF:=(N.best z.2 mC).1;let HM:cf n @Ā:=(K,DF.prod,_M.HN h2 _ _ @d DF.ok);let a0O:=@ary;let nE:z.2.2.length<bq:=by rw[cS];omega
     rw[ĉ,S,ak.of (sq7 MV JF).1];apply(a8,λj σ H'=>@Í/\(∀c o,@jD->c≠F->@auT->(X,H' c))/\∃(l:je)(v3 v8 G:@Ñ),(I4,@vN,j),(Jo,S,@VG,jI Jk JF l u3 u8 u9 (hF,c10,l10,S7),λj σ H' _ h=>ak.of (sq7 H' @š).1))
     .ext j y σ F9 T hj;calc(BQ,λsR c11 l11 Al=>?_);subst sR;ext hT;rw[P];obtain⟨q,nz,rfl⟩:∃q,(Ë,ss,q)/\y=V.ref q.1:=by rw[bB]at hj;cases e:ss[j]? with|none=>rw[ba]|some z=>rw[pF]
      rw[P];let FO:j<n:=(bE,gc,nz);let S8:q.2=@Y9:=by let:=C6 ess nz;rw[bB,Ay FO]at this;show(cM this).symm
      let S9:@fv=@JB:=(u,_M.zD,DF.prod);let asn:=(sq7 F9 JG).2 q (eD nz);rw[S8]at asn;let DT:=tp9 F9 JG z mz;let gw:=(ö,@amC,F9,hT);calc@dX;rw[s];generalize ah F9 T @amC=H12 at*;rw[s];let v:=_M.K_ h2 FO;calc(Ē,z.1,q.1,(é,@Ā,@Y9,(DT.same gw).toS,asn.same gw,(Ú,v.len),{(aU,HM.len,v),λH13 p13 mf m13=>?_}));clear m13;rw[E,λS_ aOr aOs=>?_];calc(nx,p13,aOr,λND aOt=>?_);let BN:=(aV,@H5,H13,aOt);let t14:lZ (mm,H13,ND,@H5) ND @fv:=(IC S_ aq (aOs.same BN));generalize(mm,H13,ND,@H5)=H14 at*;let sX:af F9 H14:=gw.trans (mf.trans BN);let Ta:=c11.same sX;let l14:=l11.same aoQ sX;rw[Æ,Ta.has @fv,@H6,<-Ï,(Gh,kvs,aM k1 t14.nkey @Ą)];rw[k3];apply b9 @VH @VH
      .rw[s];let asp:@JB∉(fR,C,N3):=by rw[<-S9];ext h;rw[(@eR)]at dM;cases dM
       let M12:=Al.add FO agR asp;calc lT (Ta.get Al.nodup (ù,mC)) (λNz J g1 g2 g3=>?_);rw[Ï,(Hy,z.1,Nz,@vb,(DT.same sX).nkey)];let s15:=(aV,[(ś,j)],H14,D);calc aoR (ks:=@b8) (k:=j) @d nE (s15 _ _ g3) aq λNE NF s16 h16=>?_;let r:af H14 NE:=s15.trans s16;let c16:=Ta.same r;rw[x,c16.add (M:=@fv) h16,λp e3 c17=>?_];let e4:p=kvs:=by let:=r _ _ k1;rw[e3]at this;show HO.dN.inj @Q0
       subst e4;let Jb:dv p @r7=@u:=(Dt,p,@r7,(Ç,k3,S9,dE asp));let b_:@a0<bq:=by rw[k2];rw[oq,<-cS];omega
       calc(É,(É,(Gh,p,dI e3 ((t14.same r).nkey) Jb b_ ?_)));rw[s];let asr:(Ÿ,NE d):=(ā,e3);let l17:=vv.updO (l14.same aoQ r) (o:=@ut) nFd asr;let t17:=(t14.same r).updN (o:=@ut) asr;let sZ:af H @amK:=dA (uo.trans (sX.trans r)) R;let k17:(Lc,ah NE d @ut c):=λc o h1 h2 h=>(C,h1,(sX.trans r) _ _ @ata);generalize@amK=H17 at*;rw[Æ,vv.snoc (x:=(@fv,@C?)) l17 t17,λys hyF arB l18=>?_,<-s];let NG:(Ÿ,H17 F):=(ā,hyF);rw[Ý,hyF,(kZ,F,Rz @d hyF ?_ (dA sZ hF0) ?_ (N3++[(@fv,@C?)]) (Gj,l18))];.rw[arB];rw[oq];rw[eM]at h1;rw[cS];omega
       .ext c o h1 h2 h;rw[aF h2];show k17 c o h1 h2 h
       .rw[<-gh];show c17.updO nFd.symm NG
       rw[Â,S9,M12]
      .rw[s];let Tb:@JB∈(fR,C,N3):=by
        rw[<-S9];by_cases h:@fv∈(fR,C,N3);.show h
        rw[Í,(Q,@hQ),dM]
       show jI (uo.trans sX) (λc o h1 h2 h=>sX _ _ @ata) N3 _ _ _ (hF,Ta,l14,Al.old agR Tb)
     .ext σ F9;calc(BQ,λvK c11 l11 Al=>?_);subst vK;rw[s];rw[aw,gc]at Al;show jI uo JG N3 _ _ _ (bx,_,c11,l11,Al.row)
    .ext σ MV;calc(BP,λu9 vL c10 l10 S7=>?_);subst vL;rw[s];rw[aw,MC]at S7;show anL _ @d Jk (λc o hc h=>JF c o hc @asp @asq) l F (ŉ,_,_,_,_,_,aM c10 l10 S7.done)
  .rw[s];let MG:u=[]:=rS.1 (by
    rcases aiC u.length with z|z;.show z
    rw[Í,bN (ſ,(v,@fa)>0),hc]);subst MG;show{_,@d,q0 H8 d C s8 c8 {@to,λ_=>N.full,λx hx=>by let h1:=(N.best x hx).2;let h3:=@ary;simp only[Uh]at DD;omega}}
def aGA(a:Int)[î]:(A,tZ a a l l):=by delta tZ;rw[Ų];show adw l
def aGB{a b c:Int}{x y z:@À}(h1:tZ a b x y=@o)(h2:tZ b c y z=@o):tZ a c x z=@o:=by
 delta tZ at h1 h2⊢;by_cases e1:a=b
 .rw[aj e1]at h1;by_cases e2:b=c;.rw[aj e2]at h2;rw[hJ];show@ak_
  rw[la]
 .rw[ag e1]at h1;let h3:=cF h1;by_cases e2:b=c;rw[kt,<-lb]
def aGC{a b:@h}(h:(A,tZ @WV (v,@b3) @HD @HC)):Cw a b:=by
 delta tZ at h;by_cases e:@WV=@b3;.rw[ô,e];show(gZ,ady @e h)
 .rw[ě,e];let:=G_ h;show@QA
def aGD{C:je}(dJ:@VI){b G:@h}(h1:(M,b)∈C)(h2:(M,G)∈C):b=G:=by
 cases C with
 |nil=>cases h1
 |cons x C ih=>
  rw[fK];rcases eJ.1 h1 with e1|e1
  .rcases eJ.1 h2 with e2|e2;.rw[<-e1]at e2;show(a3r e2).2.symm
   rw[Í,bE.2 (ab _ e2 (by rw[<-e1])),dJ.1]
  .rcases eJ.1 h2 with e2|e2;rw[Í,bE.2 (ab _ e1 (by rw[<-e2])),dJ.1];.show ih dJ.2 e1 e2
abbrev adC:bi:=top 121
def aGE:(Õ,["way"],"way",adC):=@E
def  adD:Sp:=λvs H Q _=>∃(t:aa)(l:@h),vs=[@ab]/\(ab,t,@gE)/\(p1,(Ĉ,p,(gj,@Ã,@ab)))
def  aGF:=@λ{I W p2 p3}G j D B r=>@id (@adD I W p2 p3) ⟨G,j,D,B,r⟩
def aGG(F:(h,"turns_and_cuts","turns_and_cuts",adC))[g]:(ę,"way",adD):=by
 calc(e,aGE,@H);.clear h;calc fb λt l aW _=>?_;subst aW;rfl
 .clear h;rw[ë,λt l bf ht q0=>?_];subst bf;rw[w,<-Ñ,(ņ,@č,@Ð),<-s,<-Ð,t,.inr (cS.of ht),(lC,(wQ,@tV))];rw[aq,aw,lX]
abbrev adE:bi:=top 122
def Me:(Ü,["move","cuts","size","ways","number","before"],"move","cuts",adE):=@E
def  aoT:Sp:=λvs H Q x_=>∃(a d:aa)(M:az)(C:je)(n:Nat),(bf,@Ş,Mv H a M,@I?,0<n,@dR/\ll H d C/\@VI/\(d5,@Kq∈C.map @ê)/\@ala/\∀(H':Hp)(t:aa)(l:@h),@Í->(Ĉ,t,.tup @gE)->(ë,(vZ,@zH,l),(v0,@zH,l),@ab))
def aGH(F:(h,"least_way","least_way",adE))[g](DJ:@yK)[ŉ](aOE:(ĩ,"turns_and_cuts","way",adD)):(Â,3,["move","cuts"],aoT):=by
 calc(e,Me,@H);.clear h;calc gQ λa d M C n bu _=>?_;subst bu;rfl
 .clear h;calc gQ λa d M C n bH=>lW λha HM h0 hn hC dJ=>cy λdM X q0=>?_;subst bH;rw[cB];obtain⟨bk,l⟩:∃bk:Nat->@h,(d5,(mZ n M k,bk k)∈C):=by
   let key:(d5,∃b,@zH):=λk hk=>by rw[aN,dM k hk];show{x.2,(Ņ,hx)}
   show{λk=>if h:k<n then(key k h).choose else[],λk hk=>by dsimp only;rw[dif_pos hk];show(key k hk).choose_spec}
  rw[ă,ha,@gv];let fo:(ps.map @d5).length=n:=(Ô,aw,ht.len,HM.len);rw[w,<-cq,Me.nd,@č,Me.nd,@Ĵ,(cC,@R,4,Me.nd,(cw,5,Me.nd,(n7,(yC,ur,(aR,@R,@Ô))),(a9,@Á,(G_,@K,@Ć,@Ô)))),(Ct,aOE,@Á),<-iT,<-s,<-ĉ,a,@Yi];rw[fo];rw[Ó,@H7,<-ea,hW];calc(dJ,@ö,?_);apply(iY,@Í/\∃(ws:(ţ,@h))(v4 N:@Ñ),σ=[@Ě,@el,@bF,@jK,v4,N]/\(Û,W,@awO)/\@awN=(l!,λk=>bk k++[k])/\∀z∈ws,(Ĉ,z.1,(mn,z.2)),@jF,QI s1 ([]) @u @u @d aq (Ì,@dx))
  .ext i σ H2 hi;calc aoU λs2 ws v4 N cb w2=>@aiJ;subst cb;rw[P,<-cc];let nB:@d9=i:=(f9,u);let O:=_M.lz (n:=n) (k:=@Ř) @C h0;rw[ð,(cz,c_ n @Ř (af,(aB,@SR,@adi),(iB,@adi,@Ř)) h0 @e @C (λH3 p3 s3 m3=>?_))];calc(â,a,p3,M,eg n @Ř,(ha.same @dG).toS,bU m3 (Ú,O.len) (aU,HM.len,O) (λH4 p4 s4 m4=>?_));clear m4;rw[E,λT aOG S=>?_];calc(nx,p4,aOG,λR hb4=>?_);let s5:=(aV,@H8,H4,hb4);let t5:lZ (mm,H4,R,@H8) R @amW:=(IC T aq (S.same s5));generalize(mm,H4,R,@H8)=H5 at*;let sX:af H2 H5:=@TQ;let w5:=sX _ _ w2;calc lT ((hC.same (s2.trans sX)).get dJ @aek) @Vv;rw[Ý,w5,(Ň,(Hy,R,kvs,i7 @amW,t5.nkey))];let s6:=(aV,[@Hb],H5,D);calc aoR (ks:=@nd) (k:=i) (ø,ajD) ?_ (s6 _ _ g3) aq λH7 t7 s7 h7=>?_;.let h1:=X _ @aek;rw[cS];dsimp only at h1;omega
   let r:af H2 H7:=sX.trans @vw;let w7:=r _ _ w2;let J:(r!,H7 q=some @a4,W):=(rD,w7);calc(ŀ,W,_,w7,u_ ?_ (dA (s2.trans r) hW) (ws++[(t7,@iL)]) _ _ @d @ayi);rw[đ,nB,@ĳ,<-ń];.rw[bF,u,uF,bF];rfl
   .ext z mz;rcases bX.1 mz with m|m;.let:=r _ _ @Lv;rw[aF (J _ _ this)];show this
    rw[hN,J _ _ h7,h7]
  .ext σ H2;calc aoU λs2 ws v4 N cB w2=>@aiJ;subst cB;rw[s];rw[(@ya)]at u;let nB:@d9=n:=(f9,u);let G:(FD,∃t,i<n/\v=@ab/\(g9,t,(mn,@iL))):=by ext i v hv;rw[bB]at hv;cases ew:ws[i]? with|none=>rw[bU];cases hv|some y=>rw[bU,<-a',(bE,nB,ew),<-nm];rw[u,bB,Ay hi]at e3;calc bC y.1 hi @Ri ?_;let e4:@iL=y.2:=cM e3;rw[e4];show c y @u7
   calc{_,@d,W,_,λH i v=>∃(p t:aa),v=@ã/\(ľ,(gj,(bl,@nd,i),@ab))/\(ab,t,(Ä,@iL)),λi j=>tZ (Î,(bl,@nd,i)) (Î,(bl,bk j,j)) (nL @iL) (nL (bk j++[j])),@d,w2,?_,@arV,@VB};rw[đ,nB,h0,<-kc,λp t e h1 h2=>?_,aU p t e @ZR @pF];.ext i v Ha hv hs Q U;rw[Æ,G i v hv,λt hi cZ h2=>?_];subst cZ;show aGF t @iL @d @pF (FE,aU p' t @d By (Aj _ _ @pF))
   .ext pins σ Ha sa i j vi vj ui uj Q E' I;rw[ë,λp t d_ h1 h2=>?_];subst d_;rw[ë,λp' t' fz nv kX=>?_];subst fz;ext ri rj hQ;rw[j2,<-mt];show aEm I h1 nv h2 kX ny hQ
   .show λx y z=>aGB
   .show λx=>aGA _ _
   .rw[Æ,G i v hv,λt hi jM h2=>?_];subst jM;calc q0 H7 t @iL (s2.trans s7) @abv (aU i @nd hi (l i hi) @d) λk b hk hb=>?_;rw[aGD dJ hb (l k hk)];show aGC (wX k (aa,nB,hk))
def ID{m:au}[ŕ]{o:cq}{ta:TE}{apos:dO}[ė](M:@atX)[ai][bF][fb]:(n_,[],[],E0,A9):=(DH,aBv he c hm F hr hb @á Ij ht)
def adF:∀(l:@oH)(x:@h),rX (bj,l)=(P,l,[],x,rX l++32::x)|[],x=>rfl|[y],x=>rfl|y::z::l,x=>by let ih:=adF @J' x;rw[(@kw)]at ih;exact y++32::rX (bj,@J')=_;rw[ih,ag @A];exact _=(y++32::rX @J')++32::x;simp
def aGI:∀(l:@oH),@dz->(∀x∈l,x≠[])->rX l≠[]|[],h,_=>@LD|[x],_,h=>@Kc|x::y::l,_,h=>by exact x++32::rX @sD≠[];simp
def RE:∀(l:@oH),(rX l).length<=(l6,(l.map nO).sum)|[]=>@Â|[x]=>by simp[rX]|x::y::l=>by let ih:=RE @sD;rw[fY,x,32::rX @sD];rw[eM,eE,cT,jB,eE (a:=x)];omega
def aGJ[e6]:∀(xs:@ŷ)(s:α),(iJ,@nX)=(iJ,@xe):=by ext z_;cases z_ with|nil=>rw[ġ]|cons x xs M=>ext s;rw[cT];exact(iJ,@z!)=_;cases e:step s (tokOf x)with|none=>rw[(@H9),(@H9)]|some s'=>rw[(@H_),(@H_),ag (λq=>by rw[q,hw]at e;cases e)];show M s'
structure adG(x:Pc):@v where
 word:@hk->@mB=xW @bo
 letter:@ď="word"->∀b,x.spelt.head?=some b->97<=b
 kinds:@ď="word"\/@ď="number"\/@ď="("\/@ď=")"\/@ď=";"\/@ď="wrong"\/@ď="blank"
def aoV[õ]:@ş="word"\/@ş="number"\/@ş="("\/@ş=")"\/@ş=";"\/@ş="wrong"\/@ş="blank":=by delta cA;by_cases h1:@gR;rw[ó,h1,@ì];.rw[ag h1];rw[eP,<-ó,h2,@kY];.rw[ag h2];by_cases h3:@qP;rw[ó,h3,(lE,@Jy)];.rw[ag h3];by_cases h4:b=40;rw[ó,h4,@YE];.rw[ag h4];by_cases h5:b=41;rw[ó,h5,(Ĕ,@kY)];.rw[ag h5];by_cases h6:b=59;rw[ó,h6,(lE,@ì),<-ą,h6,(lE,@kY)]
def adH[aQ]:(AL,(qA,e),(mM,rD @pB,@ý)):=@d
def aGK[aQ]:adG (iI t p e):=by
 let hk:(qA,e)="word"->@ý="word":=by
  ext h;rw[adH]at h;rw[jq]
  .rw[ô,h1];by_cases h2:rD @pB=@o;.rw[ô,h2];show h
   rw[bi,@aQ,@BH]
  rw[bi,@Ĺ,h]
 calc{@ķ,λh b hb=>?_,?_};.exact(P,@ý,"word",xW @pB,"")=xW @pB;rw[aj @Tl]
 .let ip:((t.drop p).take @J0).head?=some b:=hb;rw[List.head?_take]at ip;split at ip;.cases ip
  .rw[List.head?_drop]at ip;let:@ha=b:=(aW,ip);rw[Ĕ];show(an5 @Tl).1
 .rw[adH];split
  .split;.show aoV _
   rw[Ç,(lE,@ì)]
  .show aoV _
def aGL[q]:(xF,adG x):=by
 ext z_;cases z_ with
 |zero=>ext p x h;show@Ŧ
 |succ f M=>
  ext p x h;rw[ij]at h;rw[bZ]
  .rw[ô,hp];rcases bX.1 h with h|h;.by_cases hb:@w3;rw[b',hb];.rw[ě,hb];rw[dt.1 h];show aGK _ _ _
   .show M _ x h
  rw[b!,hp]
def aoW[q]:∀(f p:Nat),(ij t f p).length<=f:=by
 ext z_;cases z_ with
 |zero=>ext p;show@Â
 |succ f M=>
  ext p;rw[ij];rw[bZ];.rw[aj hp,eM];let:=M @ĉ;split<;>simp<;>omega
  rw[ą,hp,@ð]
def pR.at[Ŏ][Ŗ][dJ]:∃x,@au/\@x4:=@asu
def pR.length[Ę]{k H:Hp}{ps:@Ë}[Ŗ]:@KI:=@A_
def  Kp(own:@ć)[ļ]:@v:=(Dp,¬@jT)
structure Rdr[t][h](Rd:@AY):@v where
 ins:(x5,∃dx fs,@pK/\(mG,("take":au))/\(mG,("may_end":au)))
 got:(x5,∀c,@jT->(eE,H c))
 same:∀{j H H' p own s},@uf->@Í->Rd j H' p own s
def  adJ(m:aa)[eR]:Sp:=λvs H Q _=>∃(j:Nat)(p q:aa)(own:@ć)(s:α)(x:Pc),(ě,@ĥ,@uf,@yw,adG x,j<1000/\∀(H':Hp)(r:@ć),@pH->(ë,@aho,Rd @Ö H' p r ((step s @Ĳ).getD s),.bl (step s @Ĳ).isSome))
def  adK(Rd:@aq2)(d:@lx):Sp:=λvs H Q _=>∃(j:Nat)(p:aa)(own:@ć)(s:α),(fZ,@uf,(Ŝ,d s))
abbrev adL:bi:=top 38
def adM:(Õ,["pieces","spelt","piece"],"pieces",adL):=@E
def  aoX[h]:Sp:=λvs H Q x_=>∃(l:aa)(ps:@Ë)(xs:@ŷ),vs=@j3/\@wl/\@qR/\@VK+@Ï<=10000/\(g5,(Kx,xs.map @rE))
def aGM(F:(h,"written","written",adL))[g][Ŋ](T:@KY):(ę,"pieces",aoX C):=by
 calc(e,adM,@H);.clear h;calc lA λl ps xs aW _=>?_;subst aW;rfl
 .clear h;calc dF λl ps xs bf hl hp=>Fa λhsz q0=>?_;subst bf;let fo:=hp.len;rw[w,<-Ģ,adM.nd,@Ĵ,(uA,adM.nd,(þ,(iz,(hw,@K),@K,fg G.BLANK),(sa,amF,@K,@ap))),<-dl,@f9,<-s,<-Ġ,<-Ş];let aQ:∀x∈xs,@Jc:=by ext x hx;let{i,hi,e}:=oC hx;calc aoY (hp.get (i:=i) @eE) (λy hy dx sp _ _ c=>?_);rw[(@bH),e]at hy;cases hy;show c
  let U:∀j,@alb+(xs.take j).length<=10000:=by
   ext j;let:@VK=@alb+((xs.drop j).map @nM).sum:=by rw[<-Gm,<-bF,Gw]
   rw[f_];omega
  calc(uU,(Ĺ,hl));apply(oS,(yS,σ=[@ac,@ū,v2]/\(ł,@ayu)),l,s1,aq,(cl,hl))
  .ext j y σ H2 hj;calc Cy λs2 v2 bu d2=>?_;subst bu;rw[P];obtain⟨p,NH,rfl⟩:∃p,(Ë,ps,p)/\y=@ns:=@OI;calc aoY (hp.get NH) (λx hx dx sp g1 g2 g3=>?_);rw[P];let nr:@KE=@j1++[@bo]:=@Lf;let gc:=RE @j1;let d:=RE @KE;rw[b6,aw]at gc d;let k:=U j;let gd:=U @Ö;let hL1:(z7,@j1):=dw gc k;let yH:(z7,@KE):=dw d gd;rw[mu,10000,<-Ð,D,(Ý,d2),@bG];rw[aw];rw[nr,adF]at yH;by_cases g:@j1=[]
   .rw[aj g]at yH;rw[g]at d2⊢;rw[ċ,<-s,<-Ý,d2,(Hv,(ġ,g1),d2,(ġ,g2),@Jt)];.rw[aw,aw];exact 0+_<=_;omega
    rw[ä,aq,nr,g]
   .rw[ag g]at yH;let Ai:=aGI _ g (λz hz=>by rw[À,hz,λy hy bH=>?_];subst bH;show aQ y (Ee hy));let agZ:0<@VJ:=BY.2 Ai;rw[bN (lv,(v,@VJ)>0)];rw[ce,<-s,<-Ý,d2,(gS,d2,@hY)];.rw[aw];omega
    rw[s];let s3:=dA (o:=.lst @aot) s2 hD;let d3:=(ĉ,H2,D,@aot);rw[Ý,d3,(Hv,(Í,g1),d3,(Í,g2),@Ju)];.rw[eM,eE]at yH;rw[eM,aw,aw,xu];omega
    .rw[aq,nr,adF,ag g,bF,gh];rfl
  .ext σ H2;calc Cy λs2 v2 cb d2=>?_;subst cb;rw[s];rw[aw,fo,iQ]at d2;show(R,q0 H2 D s2 d2)
abbrev adN:bi:=top 42
def aoZ:(Ü,["text","reader","piece"],"text","reader",adN):=@E
def  RF[b][eR](d:@lx):Sp:=λvs H Q _=>∃(a p:aa)(own:@ć)(s:α)(t:@h),(bf,@ã,@hx,@n3,Rd 0 H p own s,¬own a/\∀(H':Hp)(r:@ć)(j:Nat),j<=600->@pH->(ë,@aho,Rd j H' p r (oj @c1 d s t).1,.int (oj @c1 d s t).2))
def aGN[bQ][cg](k:@pH)(ha:¬own a)(h:@ŉ):(m_,H'):=(EG,@aeT,@aeT)
def ao0{Rd:@aq2}{step:@qb}{d:@lx}(R:Rdr C Rd)(hw:@N4)(F:(h,"refusal_of","refusal_of",adN))[Ġ](T:@lP)(M:(Hg,m))(aOJ:(ů,"take",(ĸ,"piece"),4,adJ m Rd @c1))(aOK:(ů,"may_end",@fB,1,adK Rd d)):(Â,6,["text","reader"],RF K Rd @c1 d):=by
 calc(e,aoZ,@H);.clear h;calc gQ λa p own s t cB _=>?_;subst cB;rfl
 .clear h;calc gQ λa p own j t cZ=>jF λha fO hR I q0=>?_;subst cZ;rw[w,<-ľ,(đ,(fE,@č,G.MOST_BYTES),fg G.TEXT_TOO_LONG),(d6,(cc,M),2,aoZ.nd,(Am,(gp,aOJ,@K,@R),@ap)),(Am,ID aOK @ž @K,@č),aH,<-î,@fz,_,@XV,(CW,ax (Ļ,cC) a6),<-s,<-ĝ,@bG];rw[aw];calc@í;.rw[s];let h6:@jr:=@ix;let k:=q0 H own 0 @ð @o8 @tp;delta oj at k;rw[aj h6]at k;show k hR
  rw[s];let h6:@hC:=(kE,(Ò,(v,@Ú)>600));calc(č,a,t,ha,{fO,λH1 l s1 hp=>?_});clear hp;rw[Ë,λps hl fU BK=>?_];let fo:=fU.length;let zZ:(nb,@ax)=(nb,(Ee,@Pe)):=(u,anu,aGJ hw);let qa:(ij t @Ú 0).length<=600:=dw (aoW t @Ú 0) @Ä;let hok:=aGL t @Ú 0;let hR1:=R.same hR s1;let u:=R.got hR;delta oj at q0;rw[ag h6,zZ]at q0;generalize@qK=xs at*;let DV:¬own l:=λh=>u l h BK;calc(bL,l,hl);apply(fy,∃(r:@ć)(s':α)(v2:@Ñ),σ=[@Ě,@bM,v2]/\(vz,H')/\(Md,(bT,c))/\Rd i H' p r s'/\(nb,@xe)=jQ @c1 s' ((xs.drop i).map @Pe),l,@Ķ,(Ã,own,j,@u,@o8,@tp,(ć,hR1)),(xK,λ_ _ _ _ k _=>ak.of (cq,DV,hl)))
  .ext i y σ H2 hi;calc dF λD s2 v2 d_ k2 g2=>@aiK;subst d_;rw[P];obtain⟨q,U,rfl⟩:∃q,(H,ps,q)/\y=V.ref q:=@abn;calc aoY (fU.at U) (λx hx v sp W p2=>cy λp3 p4 p5=>?_);rw[P];let wY:@m?:=@Gx;let Nm:xs.drop i=x::xs.drop @Q:=(u,yO wY,@VL);rw[Nm,cT]at e2;let n:¬own q:=λh=>u q h p4;let J:¬own sp:=λh=>u sp h p5;let X:¬D q:=λh=>(g2 q h).elim n (wC,W);rw[ks];let O:∀(H3:Hp)(g:@ć),Kp D H2 H3->(∀c,g c->D c\/H2 c=@u)->(vz,H3)/\∀c,g c->@jT\/(bT,c):=by
    ext H3 g k3 g3;rw[Á,λc o hc h=>k3 c o (λh2=>(g2 c h2).elim hc (wC,h)) @ahm,@eT];rcases g3 c hc with h|h;.show g2 c h
    .by_cases N:@jT;rw[Ä,N];.right;cases e:H1 c with|none=>rfl|some o=>rw[ż,k2 c o N e]
   cases fB:step s2 (tokOf x)with|none=>rw[pt];rw[fB]at r3⊢;rw[ot];calc@Xp;rw[s,<-Å,aX q m v _ _ @d (k3 _ _ X @OL) @d? T.nP @d @lq];rw[e2,_M.EW fB]at q0;show q0 H3 g @Q @e (λc o hc h=>c1 c o hc @fT) (λc hc=>(c2 c hc).elim .inl @afK) r3|some s3=>rw[pt];rw[fB]at r3⊢;rw[ot];calc@IQ;rw[s];show(Ã,g,s3,_,c1,c2,{r3,(u,e2,_M.EX fB)})
  .ext σ H2;calc dF λD s2 v2 fz k2 g2=>@aiK;subst fz;rw[s];rw[aw,fo]at r2 e2;rw[avU]at e2;let e3:(nb,@xe)=(s2,@u):=e2;rw[s];rw[e3]at q0;rw[ks];calc(Ŏ,p,dx,fs,jI S nu @Ï p D s2 (ź,r2,@vt));let k:=q0 H3 D @Ï qa (x4,k2 c o hc @fT) (λc hc=>(g2 c hc).elim .inl @afK) (R.same r2 s3);dsimp only at k;cases hm:d s2 with|false=>rw[hm]at k;calc@hT;rw[s,<-è,a,aGN (x4,@ahm) I @ŭ,@lq];rw[aw];show k|true=>rw[hm]at k;show dH k
def  yc:@c9->Int|none=>-1|some k=>@ë
def  qD[a5](mo mv:aa)[b_](v:aa):@Ŷ:=[@NP,("several",@rK),@amY,(aS,"moves",mo),(aS,"move",mv),@ano,@zy,(ŝ,"times",tm),(aS,"outer",v)]
structure oZ[j]:@v where
 cl:@b1
 size:@JG
 several:(ß,"several")
 refusal:@Y1
 moves:(ß,"moves")
 move:(ß,"move")
 wanted:@Y2
 word:@JF
 times:(ß,"times")
 outer:(ß,"outer")
def  mJ[i](v:aa)(os:@ī):@v:=(fi,aa×@aa6,(ã,v,@ŵ)/\(zs.map @Pa).reverse=os/\∀z∈zs,(Ö,z.1,(kr,.ref @Ā,z.2.2.2))/\Mv H @Ā z.2.2.1/\z.2.2.1≠[])
def  IE:=@λ{I W p2}G j D r=>@id (@mJ I W p2) ⟨G,j,D,r⟩
def mJ.same[p]{v:aa}[Ă](h:@e6)[m]:(gH,H'):=(yP,IE zs @Ż b (λz m=>aM (ą,(fj,m)) ((c z m).2.1.same s) ((c z m).2.2)))
def Mv.offO[ċ][Ă][aN][ar]:a≠v:=by rintro rfl;clear m;calc bj @gv;clear O;rw[Ë,λzs hz _ b=>?_];rw[dG]at hz;let e:=(dW,hz);cases h with|nil=>show aQ @d|cons x h=>rw[iF,x,@d,λq U eq=>?_,<-dB,e,<-gx,U];cases nF:zs[0]? with|none=>rw[b0];cases e0|some z=>rw[b0,<-É,q,z.1,@H!];let:=(b z @oU).1;rw[<-e1,eq]at this;cases this
def j7[P](h:ah H p o b=@u):@ŋ/\@bz:=by let e:@bz:=(ea,aq);rw[aF e]at h;show⟨h,e⟩
def Mv.updI[P][k][bM](m:@jL)[bN]:Mv @wf a h:=by calc m.updO @F_ (ā,hp);clear m;rw[E,λps e _=>?_];rw[q,hp]at e;cases e
def eX.updI[a]{l p C dx:aa}[bP][bM][À][Ō][bN]:(eL,@wf):=(n8,@ahI,(c z mz).1.updI hp)
def mJ.updI[a]{v p C dx:aa}[Ă][bM][À](m:@e6)[bN]:(gH,@wf):=by clear m;rw[ŗ];calc(Ew,@ahI,(c z mz).2.1.updI hp);let h1:=@Lh;rw[kq,hp];show h1
def mJ.updM[cQ](m:@e6)(M:@ag_)(aQ:mo≠v):(gH,@YZ):=by clear m;calc@F0;clear M;calc cV @VM;let hr:=eX.refs d;calc(Ew,(gR,aQ.symm),(c z mz).2.1.updO ((c z mz).2.1.off @ayv X hr) (ā,X));let h1:=@Lh;rw[kq,X];show h1
def Mv.updM[ċ][aN](M:@ag_):Mv @YZ a h:=by clear M;rw[Ë,@VM];show m.updO (m.off aQ X (eX.refs d)) (ā,X)
def Mv.updU[ċ][Ă][aN][ar]:Mv @YY a h:=by calc m.updO (m.offO aQ O) (λxs q=>?_);clear O;rw[E,@U3];rw[e]at q;cases q
def eX.updU[a]{l v:aa}[bP][Ă][À][Ō](aQ:l≠v)[ar]:(eL,@YY):=(n8,@pY,(c z mz).1.updU @Ct O)
def mJ.push[a]{t mv:aa}[Ă]{tm:@c9}[ar](ht:(zJ,tm))(m:@agy)(aQ:M≠[]):∃ys,@Mq/\@aD=@a2/\mJ (û,v,(œ,ys,t)) v ((M,tm)::os):=by
 let j:=O;clear O;calc@F0;rw[nl];calc bC _ a @acB (Ef,zs++[(t,mv,(M,tm))]);rw[ń,<-ä,bF,aWZ,b]
 .ext z mz;rcases bX.1 mz with mz|mz;.rw[kd,mz];show aM (ty,c1,c1) (c2.updU C j) C
  .cases dt.1 mz;show aM (ty,ht,ht) (m.updU aQ j) aQ
def mJ.pop[cQ]{x:@aa6}(O:mJ H v (x::os)):∃ys t mv,@Mq/\@aD=@a2+1/\@AS/\(zJ,x.2)/\Mv H mv x.1/\x.1≠[]/\(gH,(û,v,@g8)):=by
 let j:=O;clear O;rw[ŗ];let hl:@aE=@a2+1:=(f9,b);let hr:zs.map @Pa=os.reverse++[x]:=(tY,dS av7 b,aZu,mQ);rw[nl,<-dC,zs,(by cases hg:zs.getLast? with|none=>rw[GH.1 hg]at hl;simp at hl|some z=>rw[dT])];rw[bF]at hr;rw[gg,hr,<-e!,@b8=x,<-kd,@A];rw[hz]at c1 c2 C;calc cj _ z.1 @Ā a @gz ?_ (bU c1 c2 C (Ef,ws));rw[d0,<-c3];.rw[h2.1,aZu]
 .ext y my;calc f7 @afO (λd1 d2 d3=>?_);show aM (ty,d1,d1) (d2.updU d3 j) d3
structure j8[Û](p mo v:aa)[a5][b_](ms:@È)[đ](os:@ī):@v where
 ins:∃dx mv,(gu,@abM)/\@agy
 moves:eX H mo ms
 outer:@e6
 ne:mo≠v
 hM:@I?
 hms:∀h∈ms,@à
 hos:∀o∈os,cf n o.1/\(vF,o.2)
 h0:0<n
 hn:@ï
 deep:@a2<=20
def ye[J][K]:@em:=λe=>by let:=H.len;rw[Ğ];simp at this;simp_all
def j8.same[Ŕ]{p mo v:aa}[u]{sv:Bool}[ă]{I J:au}{tm:Int}{ms:@È}{M:az}[d_][m]:j8 C H' p mo v n sv rf I J tm ms M os:=by let{{dx,mv,a,b},c,d,e,f,g,h,i,j,k}:=R;show{fM dx mv @Ż @vk,@H2,d.same s,e,f,g,h,i,j,k}
def j8.re[Ņ][U][ă]{tm:Int}{ms:@È}[d_][ĝ]{o:aa}{r:az}[eB]{tm':Int}(m':Mv H1 o r)(l:cf n r):j8 C (g?,qD n sv rf' mo o wn' wd' tm' v) p mo v n sv rf' wn' wd' tm' ms r os:=by let{{m,mv,a,b},c,d,e,f,g,h,i,j,k}:=R;let a1:=@Ż;show{fM dx o aq (m'.updI a1),(c.same s).updI a1,(d.same s).updI a1,e,l,g,h,i,j,k}
def di.refl[U][i]:(a!,H):=λ_ _ h _ _ _=>h
def di.upd1[dw]:(tP,p):=(vA,h1)
def di.upd2[dw]:(tP,mo):=(vA,h2)
def di.upd3[dw]:(tP,v):=(vA,h3)
def di.of[ay](k:@pC)(s:@f_):@JS:=λb u e h1 h2 h3=>(ą,@Dp)
def di.ofS[ay][ĝ](k:@aru):@JS:=λb u e h1 h2 h3=>(J3,(ą,e))
def di.tr[ay](k:@pC)(k2:@aru):@JS:=λb u e h1 h2 h3=>k2 b u @Dp h1 h2 h3
abbrev adO:bi:=(aY,0)
def aGO:(õ,@ud,@ud,adO):=@E
def  RG[h]:Sp:=λvs H Q _=>∃(p dx:aa)(n:Nat)(sv:Bool),(cA,@ã,@aa,@rK,@lH,0<n,@ï,∀(H':Hp)(mo v:aa),j8 C H' p mo v n sv 0 "handling" "" 0 [] @Ň []->@I4->(ë,(Á,v),@lM,@ŕ))
def  ao1:=@λ{I W p2 p3 p4}G j D B n z J F r=>@id (@RG I W p2 p3 p4) ⟨G,j,D,B,n,z,J,F,r⟩
def aGP(F:(iy,"Reading.__init__",adO))[Ö][Ĝ]:(Â,2,@ud,RG C):=by
 calc(e,aGO,@H);.clear h;calc pH λp dx n sv aW _=>?_;subst aW;rfl
 .clear h;calc i8 λp dx n sv bf hp=>@yc;subst bf;rw[w,<-Ă,@gF,@Jk,ay @v_ (Č,@cV,(ü,(aP,vJ)),(tr,@dm,(þ,@v_,@cV))),<-aV,@Ũ,@Ħ,(AK,@ew),<-s,<-i7,<-s,<-ŀ,aq,T.several,1,<-s];calc(yG,2);rw[s,<-s];rw[sj,sj];let uw:(hY,H,@aqi):=(fr,h);let h3:=(tf,p,(Ð,@tm));let M:=(ve,H,p,(Ð,@aqi));generalize(eF,(Ð,@tm))=H3 at*;rw[s,<-Ó,λmo x=>?_];let s4:=(ŗ,H3,x);let m4:=(cD,H3,mo);let h4:=@aap;let j:=(ve,H3,mo,@SC);rw[e9,mo,[]];let z:mo≠p:=λe=>by rw[e,h3]at x;cases x
  calc(aI,h4,T.moves,3);rw[s];let h5:=(xV,p,(Ð,@Aq));let m5:(nD,H4,@Aq,mo):=(C,z,m4);let G:=(ve,H4,p,(Ð,@Bm));let k5:(hY,H4,@Aq):=(fr,(Ě,uw b o h hb));generalize ah H4 p (Ð,@Bm)=H5 at*;rw[s];calc(c',n,h0,hn,λH6 mv s6 ik m6=>?_);let h6:=s6 _ _ h5;calc(aI,h6,@c7,4);rw[s];calc(bw,@jh,5);rw[s];calc(bw,@g9,6);rw[s];calc(bw,@rs,7);rw[s,<-s];rw[sj,sj,sj];rw[Ó,λv N=>?_];let{l,d}:=j7 N;let r:=s6.free l;let{u,_}:=G v r;let{y,g}:=j v u;let{i,_}:=M v y;let{B,_}:=M mo x;calc(tV,@rl,T.outer,8);rw[s];let k:=s6 _ _ m5;calc q0 _ mo v {fM dx mv aq ?_,(zZ,?_),IE ([]) ?_ @d @dx,g.symm,@D4,@dx,@dx,h0,hn,@ð} B i ?_;.let a1:=m6.updI (o:=(Ð,(F8,ck "wanted" @R2 (pO,"move",mv,"moves",@avo,@tm)))) h6;let X:=a1.same (ŗ,_,N);show X.updI (C:=C) (dx:=dx) (fs:=(F8,ck "wanted" @R2 (ck "move" @Ch @Bm))) (C,@rl,aq)
  rw[Ö,aF z,aF g.symm,aF z,k,<-Ú,aF d,aq]
  .ext b o hb c;let FY:b≠v:=λe=>by rw[e,i]at hb;cases hb
   rw[(@gt),aF FY,(@gt)];show s6 _ _ (k5 b o hb c)
abbrev adP:bi:=(aY,9)
def aGQ:(C?,adP):=@E
def  RH[h]:Sp:=λvs H Q _=>∃(p mo v l:aa)(n:Nat)(sv:Bool)(rf:Int)(I J:au)(tm:Int)(ms:@È)(M h:az)(os:@ī),(ě,@ē,j8 C H p mo v n sv rf I J tm ms M os,@bT,@à,(fC,j8 C H' p mo v n sv rf I J tm ms (aY M h) os,@r0))
def aGR(F:(h,"add_move","Reading.add_move",adP))[Ö][ŉ]:(Ş,2,"move",RH C):=by
 calc(e,aGQ,@H);.clear h;calc(xT,(mw,fb λh os bu _=>?_));subst bu;rfl
 .clear h;calc(xT,(mw,jt λh os a R hl hh q0=>?_));subst a;rw[ŝ,<-w,<-ß,aA (yq,ur),<-s,<-ø,@c7,(ç,mv,l,M,h,im @d ik.toS hl (LD,R.hn) (aU,R.hM.len,hh) @UF)];calc(aI,@nE,@c7,9);rw[s];show q0 _ (R.re (dx:=dx) s1 m1 (_M.kM @cc hh)) @alc
abbrev adQ:bi:=(aY,5)
def aGS:(eK,"number","number",adQ):=@E
def  ao2[h]:Sp:=λvs H Q _=>∃(p mo v:aa)(n:Nat)(sv:Bool)(rf:Int)(I J:au)(tm:Int)(ms:@È)(M:az)(os:@ī)(k:Nat),(iH,@eU,j8 C H p mo v n sv rf I J tm ms M os,(@sW->(cF,j8 C H' p mo v n sv rf "bracket" J k ms M os))/\(iX,@sW))
def aGT(F:(h,"take_times","Reading.take_times",adQ))[Ö](G:@ġ):(y!,@VN):=by
 calc(e,aGS,@H);.clear h;calc(fU,@ais);subst bH;rfl
 .clear h;calc(fU,tR λk cb R q1 q2=>?_);subst cb;rw[ŝ,<-w,<-ľ,(aG,(fE,@K,G.MOST_TIMES)),@gF,@dm,js,<-cJ,<-s];calc(į,@Xo);.rw[s];show q2 (λh=>@ix)
  .rw[s];let hk:@sW:=by
    rcases ft 1000000000000 k with h|h;.show absurd (bN (Ò,@ë>1000000000000)) hc
    .show h
   rw[ŀ,hp,@rs,9,<-s];calc@Nj;rw[s,<-s];rw[sj];show q1 hk _ @apg @VO
abbrev adR:bi:=(aY,6)
def aGU:(nS,adR):=@E
def  ao3[h]:Sp:=λvs H Q _=>∃(p mo v:aa)(n:Nat)(sv:Bool)(rf:Int)(I J:au)(tm:Int)(ms:@È)(M:az)(os:@ī)(x:au),(ě,@aT,j8 C H p mo v n sv rf I J tm ms M os,x="every"->(cF,j8 C H' p mo v n sv rf I J tm ms (aY M @go) os),x="back"->(cF,j8 C H' p mo v n sv rf "bracket" J (-1) ms M os),(@Bo->(cF,j8 C H' p mo v n sv rf "amount" x tm ms M os))/\(@ZF->@ZG->x≠"cut"->x≠"turn"->x≠"deal"->@Ex))
def in3[M]:zN @SS [V.str "cut",V.str "turn",V.str "deal"]=decide @Bo:=by delta zN;let e:∀y:au,pP (V.str y) @SS=(E,y,x):=λy=>@d;rw[B3,B3,B3,List.any_nil,e,e,e];rw[Ô];rw[cG];simp only[pk,cG,qh,or_false];show(iU,@aoi,@aoi)
def aGW(F:(h,"take_word","Reading.take_word",adR))[Ö](G:@ġ)(b:(pG,"every",@T7))(y:@zT):(At,@VP):=by
 calc(e,aGU,@H);.clear h;calc(fU,bj λx cB _=>?_);subst cB;rfl
 .clear h;calc(fU,rE λx a R q1 q2 q3 N=>?_);subst a;calc@ajO;rw[w,<-Ĉ,cv @lz (h2,(ð,b,@ç)) (y6,@lz,(ü,fg G.BACK),(y6,bJ (inS (K:=K)) @K (lh (ac dY (Ď,dY,dY))) @nY,@gF,(à,js))),js,<-î,_,@Ħ,_,(jW,@ew,_,bZ _ dr fj,bZ _ bI il,(cJ,(tL,nG))),<-s];calc@a';rw[gU];calc@í;.rw[s];calc(c0,(fb,hp,(Kz,(vR,λH1 l1 s1 _ m1=>?_))));calc(qE,l1,M,(é,@go,os,@sP,m1,_M.Pl n,@CZ));rw[s];show q1 @Ī H2 R2 (di.ofS s1 o2)
  rw[s];let aQ:@ZF:=@xi;calc@a';rw[gU];rw[c6];.rw[s];calc(ç,p,C,dx,_,(jv,hp,@rs,9));rw[s];calc@Nj;rw[s,<-s];rw[sj];show q2 @uz _ @apg @VO
  rw[s];let l:@ZG:=λh=>dB @eR;calc(Ą,(gg,3),@o9);let s1:=(aV,[.str "cut",.str "turn",.str "deal"],H,ht);calc(é,t,_,.inr @m2,@d,@d,@dK);rw[(@ag),in3];calc@akP;.rw[s,<-bx,<-ŀ,O,@g9,9,<-s];calc@Nj;rw[s,<-s];rw[sj];show q3 (cF j) _ (L5,s1,@VQ) @alc
  .rw[s];let h3:¬@Bo:=λh=>j @eR;show N aQ l (sB,@di) (sB,.inr @di) (sB,(Ĕ,h)) _ s1
abbrev adS:bi:=(aY,3)
def aGX:(nT,adS):=@E
def  Bi[M][İ]:az:=(ax,x,"cut",@Ů,x,"turn",@wp,@xS)
def  ao4(C m:aa):Sp:=λvs H Q _=>∃(p mo v q:aa)(n:Nat)(sv:Bool)(rf:Int)(I J:au)(tm:Int)(ms:@È)(M:az)(os:@ī)(x:Pc),(ě,@ĥ,j8 C H p mo v n sv rf I J tm ms M os,@yw,@AC->(cF,j8 C H' p mo v n sv rf "handling" J tm ms (aY M @yx) os),(iX,@AC))
def aGY(F:(h,"take_amount","Reading.take_amount",adS))[ck][b9](i:(K2,"deal",@T9))(y:@zT):(Ş,3,"piece",@ald):=by
 calc(e,aGX,@H);.clear h;calc(rB,(mw,fb λos x cZ _=>?_));subst cZ;rfl
 .clear h;calc(rB,(mw,jt λos x d R c q1 q2=>?_));subst d;let{b,sq,U,_,_}:=c;rw[ŝ,<-w,<-ľ,(f2,@LW,@aov),cv @ZP (h2,(bd,DJ,@a9)) (hM,@ZP,(zb,Nh),(zb,i)),@dm,js,<-í,@cf,_,_,(eh,_,(b3,bZ _ bI cC,ax @amc aR,_,@Fk)),<-s];calc(bN,@xF,@n9);rw[dg,<-nj,<-ì,<-dm,@F6,@apZ,<-s];let hk:@AC:=by rw[cy,@xF,@n9,<-nN];show{h1.1,@Ä}
  rw[kf];rw[gU];apply b9 @VR @VR
  .rw[s];let e:@yx=eg n @Ĩ:=by delta Bi;rw[aj (cF hw)]
   rw[e]at q1;rw[d3];calc(o7,_M.lz @d4 R.h0);rw[Š,<-s];calc@Nt;rw[s];show@Bb
  rw[s];let a:¬J="cut":=λh=>hw @eR;rw[kf];rw[gU];apply b9 @VS @VS
  .rw[s];let e:@yx=jd n @Ĩ:=by delta Bi;rw[ag a,aj (cF o0)]
   rw[e]at q1;rw[d3];calc(o7,_M.tM @d4);rw[Š,<-s];calc@Nt;rw[s];show@Bb
  .rw[s];let e:@yx=Gp n @Ĩ:=by delta Bi;rw[ag a,ag (λh=>o0 @eR)]
   rw[e]at q1;rw[d3];calc(o7,_M.UY @d4);rw[Š,<-s];calc@Nt;rw[s];show@Bb
def mJ.len[Á][cQ][ar]:(vw,@Mq,@a2):=by clear O;rw[Ë,λzs a b _=>?_];show ab _ a @acB
abbrev adT:bi:=(aY,4)
def aGZ:(nT,adT):=@E
def  ao5(C m:aa):Sp:=λvs H Q _=>∃(p mo v q:aa)(n:Nat)(sv:Bool)(rf:Int)(I J:au)(tm:Int)(to:@c9)(ms:@È)(M:az)(os:@ī)(x:Pc),(ě,@ĥ,j8 C H p mo v n sv rf I J tm ms M os,@yw,tm=@H',@ahH/\(@A?->(cF,j8 C H' p mo v n sv rf "handling" J tm ms @Ň @AE))/\(iX,@A?))
def aG0(F:(h,"take_bracket","Reading.take_bracket",adT))[ck][Ġ][Ĝ]:(Ş,2,"piece",@ale):=by
 calc(e,aGZ,@H);.clear h;calc(zH,lA λM os x aW _=>?_);subst aW;rfl
 .clear h;calc(zH,dF λM os x i R d=>gX λy Bs q1 q2=>?_);subst i;let{b,sq,U,_,_}:=d;subst y;calc@ajO;rw[cm,<-w,<-aU,(f2,@LW,(zo,@bu)),(yY,@ç),@amp,@dm,js,<-c?,@Fj,<-s];calc(bN,@ac8,@al3);rw[dg,<-ku,@api,(lT,@a2,20,@a2,20)];let O:=R.deep;calc@í;rw[dm,@F6,dE (lv,¬@a2=20),<-s];let hk:@A?:=by rw[cy,@ac8,@al3,<-nN];show(aK,h1.1)
  rw[dz,<-ax,(Ů,hy,(dC,@c7,(dC,@rs,(dY,@o9)))),<-bn,@MD,ht];let t1:=(tf,t,@MD);generalize ah H t @MD=H1 at*;rw[Æ,(R.outer.same s1).push t1 @VQ S,λc r W D=>?_];let X:=R.outer.same s1;calc(ŀ,v,c,r,(À,(mE,W)));rw[s,<-dn,v,@nE];let R2:j8 C @amQ p mo v n sv rf I J @H' ms M @AE:=(o1,(C,z,@nE),(ik.same s1).updU S X,(R.moves.same s1).updU R.ne X,D,R.hms,λo N=>by rcases eJ.1 N with e|e;rw[Ē,{@cc,Bs}];.show R.hos o e,@ŝ);let o2:(a!,@amQ):=((di.refl H).of s1).upd3;rw[ķ,v,@ax_,<-Š,<-s,<-nf];calc(i?,@Js,@c7,9);rw[s];calc(k1,l,aq,9);rw[s,<-s];rw[sj];show@asN
abbrev adU:bi:=(aY,7)
def adV:(kp,(eI,"ahead","within"),adU):=@E
def  ao6[h]:Sp:=(Ft,(fZ,j8 C H p mo v n sv rf I J tm ms M os,(os=[]->@jM)/\(∀o S,os=o::S->(cF,j8 C H' p mo v n sv rf I J tm ms @aht S))))
def aG1(F:(ym,"Reading.end_bracket",adU))[Ö][Ġ](ag5:@apb)(aO4:(È,"repeated",["move","times"],2,anP))(y:@zT):(mQ,"self",@VT):=by
 calc(e,adV,@H);.clear h;calc(fU,Fa @o_);subst bf;rfl
 .clear h;calc(fU,gX λbu R q1 q2=>?_);subst bu;rw[ŝ,<-cm,<-w,<-Ă,(aG,@C4),(cy,adV.nd,@Lp),(è,2,adV.nd,@ç,(ü,@pD),(ħ,cv (lA,@pD,G.BACK) (h2,(tG,ag5)) (h2,(ş,aO4,@pD)),js)),<-õ,_,(tL,a6),(DF,@ew),<-s,<-ax,@api];rw[dQ];cases os with
  |nil=>show dg @S7
  |cons o os=>
   rw[ŷ,(js,@BF,@ŝ),<-s,<-dz];let{F8,jL}:=R.hos o @A;let O0:=R.outer;calc alR R.outer.pop (λc t b r W BQ=>gX λht aO5 u X=>?_);rw[ax,{(a5,r),CO v c @ab @d @d r BQ ?_},<-dn,v,hp];let m:t≠v:=λe=>by rw[e,r]at ht;cases ht
   let D:(ř,H,v,@mH,t)=some @anv:=(C,m,ht);let O:(ž,(ř,H,v,@mH,p),@abM):=(d1,z);let l:=ik.updU (o:=@SD) S O0;let aO8:=aO5.updU (o:=@SD) u O0;let d:j8 C @aeL p mo v n sv rf I J tm ms M os:=(o1,O,l,R.moves.updU R.ne O0,X,R.hms,λx hx=>R.hos x (í,hx),by let:=R.deep;simp at this;omega);let o1:(a!,@aeL):=(di.refl H).upd3;rw[ap,v,@mH];calc(vE,dx,@c7,?_);calc(Ĭ,t,(zP,D,(aI,O,@c7,9)));rw[s];let R2:j8 C @w! p mo v n sv rf I J tm ms o.1 os:=d.re (dx:=dx) @TG aO8 F8;let U:(b6,H1,@Cb,t)=some @anv:=(C,(λe=>by rw[e,O]at D;cases D),D);let g:=l.updI (o:=@XF) O;let o2:(a!,@w!):=o1.upd1;let cP:=(il,p,@XF);rw[dV,@w!,<-s];generalize@w!=H2 at*;rw[s];calc(Ĭ,t,Rz @d @d @TL @d @d _ @ľ);rw[gR];let q3:=q2 o os @d;cases N:o.2 with
   |none=>rw[N]at q3;calc@hT;rw[s];calc(c0,(ez,cP,mv,M,(ò,n,g,@cc,R.h0,R.hn,@VU)));calc(Ia,_M.qY @cc);rw[s];show@aqL
   |some k=>
    rw[N]at q3;let hk:=jL k N;rw[fz];.let:@ë=-1:=@Ī;simp_all
    rw[s];rw[N]at U;rw[Ň,aci cP @d _ @d _ @d (ac,t,jI @TL @d mv M n k (Ĵ,g,@cc,R.h0,R.hn,hk,@VU))];calc(Ia,(d,_M.O4 @cc hk,_M.v_ @cc _));rw[s];show@aqL
abbrev adW:bi:=(aY,8)
def aG2:(iV,adW):=@E
def  ao7[h]:Sp:=(Ft,vs=@k1/\j8 C H p mo v n sv rf I J tm ms M os/\(ĕ,ms.length)/\(@AD->(cF,j8 C H' p mo v n sv rf I J tm @LK @Ň os))/\(iX,@AD))
def aG3(F:(h,"end_handling","Reading.end_handling",adW))[Ö][g][Ĝ]:(bu,"self",@VV):=by
 calc(e,aG2,@H);.clear h;calc bv (pX,@tq);subst bH;rfl
 .clear h;calc bv (pX,jF λcb R kZ q1 q2=>?_);subst cb;rw[ŝ,<-cm,<-w,<-aT,(f2,(c6,@ç),@aa!),(fn,@ç),@amp,js,<-cJ,<-s];calc(bN,! sv,@NL);.show(dC,T.several,@Xn)
  .rw[ax,(i5,v,hy)];rw[dQ,(lI,(eG,@a2,0)=@NL)];show k
  calc@í;rw[dm,h.1,h.2,<-s];let hk:@AD:=by rw[cy,! sv,@NL];rw[AE,ajM,oK]at h1;show{h1.1,rS.1 @e}
  rw[dz,<-Æ,R.moves.snoc ik S,λc r W M2=>?_,<-ø,T.moves,(Ů,r,(dC,@c7,(ŀ,mo,c,r,(À,(is,W,kZ))))),<-s,<-dn,mo,hp];let R2:j8 C @y' p mo v n sv rf I J tm @LK M os:=(o1,(d1,z),ik.updM S R.moves,M2,R.outer.updM R.moves R.ne,λh hh=>by
   rcases bX.1 hh with e|e;.show R.hms h e
   rw[þ,e,@cc],R.hos,R.deep);let o2:(a!,@y'):=(di.refl H).upd2;generalize@y'=H2 at*;rw[Š,<-s,<-nf];calc(i?,@Js,@c7,9);rw[s];show@asN
def adX{t u:TE}[a][eJ](h2:a=@o->(hZ,@bR,@Fs))(h:(ŷ,@M2)):al3 t u σ H Q:=(n1,(fv,a),@zZ,h)
def aG4[è](h:(gT,D.rt)):aaC te D σ H:=h
def  adY[Ď]:au:=(iQ,a,"cut",a,"turn","deal")
def  ao8[b_]:(ú,UZ)|.hand=>I="handling"|.amount a=>I="amount"/\J=adY a|.bracket to=>I="bracket"/\tm=@H'/\@ahH
def  IF[h][a5][Đ][dg](own:@ć)(s:Rs):@v:=∃mo v I J tm,j8 C H p mo v n sv rf I J tm s.moves s.mc.mv s.mc.outer/\ao8 I J tm s.mc.want/\(yB,@FC)/\s.moves.length<=j
def  Mg:=@λ{I W p2 p3 p4 p5 U p7 p8}G j D B n z J F r=>@id (@IF I W p2 p3 p4 p5 U p7 p8) ⟨G,j,D,B,n,z,J,F,r⟩
def aG5[h][a5]:Rdr C @zV:=by
 rw[aX,?_];.ext j H p own s;calc gQ λmo v I J tm R _=>?_;rw[hU];show(ca,dx,hp,@d)
 .ext j H p own s;calc gQ (x6,λ_ N _=>?_);ext c hc;rw[hU,<-x,R.moves,λzs hm _=>?_,<-x,R.outer,λws hu _=>?_];rcases(N c).1 hc with e|e|e;rw[ś,hp,<-ś,hm,<-ś,hu]
 rw[ke,gQ (x6,@rO),Mg mo v I J tm @Uz a b c]
def yg{l:@h}{s:au}(h:s.cps.toList=l):@vn=s↔t=l:=by
 constructor;.ext e;rw[<-h,<-e];rfl
 .ext e;cases s with|mk c=>let:c.toList=l:=h;delta xW;rw[e,<-this]
def ao9:(ag,"cut","cut"):=@ø
def ao_:(ag,"turn","turn"):=@ø
def apa:(ag,"deal","deal"):=@ø
def apb:(ag,"every","every"):=@ø
def apc:(ag,"back","back"):=@ø
def qE[Ë](h:@hk):@Ĳ=@Qj:=by delta tokOf;rw[aj h]
def wS[Ë](h:@n1):@Ĳ=@Gc:=by delta tokOf;rw[h,(@ğ),(@Þ)]
def zS[Ë](h:@iu):@Ĳ=@cD:=by delta tokOf;rw[h,(@ğ),(@ğ),(@Þ)]
def Bj[Ë](h:@kN):@Ĳ=@fR:=by delta tokOf;rw[dJ,h]
def Fy[Ë](h:@sV):@Ĳ=@hu:=by delta tokOf;rw[h,(@ğ),(@ğ),(@ğ),(@ğ),(@Þ)]
def De[Ë](h1:@Kw)(h2:@Kx)(h3:@aaU)(h4:@Kv)(h5:@aaV):@Ĳ=@b7:=by delta tokOf;rw[dR,ag h5]
def apd[Ë](h:@Kx):∀k,@Ĳ≠@nO:=by ext k q;rw[eK,<-fk];by_cases h3:@iu;rw[Ĥ,zS h3];by_cases h4:@kN;rw[Ĥ,Bj h4,<-eR,<-Ĥ,Fy h5];rw[De h1 h h3 h4 h5]at q;cases q
def ape[Ë](h:@aaU):@Ĳ≠@cD:=by
 ext q;rw[eK,<-fk,<-eQ,<-fl];by_cases h4:@kN;.rw[Bj h4]at q;injection q with e;simp_all
 rw[eR,<-c4,Fy h5];rw[De h1 h3 h h4 h5]at q;cases q
def aG6[Ë](h:@Kv):@Ĳ≠@fR:=by ext q;rw[eK,<-fk,<-eQ,<-fl];by_cases h4:@iu;rw[c4,zS h4,<-eR,<-c4,Fy h5];rw[De h1 h3 h4 h h5]at q;cases q
def apf[Ë](h:@Kw):∀l,@Ĳ≠.word l:=by ext l q;rw[eQ,<-fl];by_cases h4:@iu;rw[Ĥ,zS h4];by_cases h5:@kN;rw[Ĥ,Bj h5];by_cases h6:@sV;rw[Ĥ,Fy h6];rw[De h h3 h4 h5 h6]at q;cases q
def aG7(n a k:Nat):Bi (adY a) n k=@kU:=by
 delta Bi adY zo;rw[bA,a];.rw[(@eQ),(@Þ),(@eQ)]
 .by_cases h1:a=1;.rw[(@cS),(@cT),(@ğ),(@Þ),(@cS),(@cT)]
  .rw[(@cS),(@Ĺ),(@ğ),(@ğ),(@cS),(@Ĺ)]
abbrev adZ:bi:=(aY,2)
def aG8:(iV,adZ):=@E
def aG9[ă](F:(h,"may_end","Reading.may_end",adZ))[Ö][g]:(Aq,@zV,sh):=by
 calc(e,aG8,@H);.clear h;calc pH λj p own s aW _=>?_;subst aW;rfl
 .clear h;calc i8 λj p own s bf bu q0=>?_;subst bf;let{mo,v,I,J,tm,R,hw,_,_}:=bu;rw[ŝ,<-cm,<-w,<-Ñ,(t9,@ç,(rL,@bu)),<-s];apply(vB,@y6,@KJ,q0 H @ŗ)
  .rw[hV];rw[gU];let:(E,I,"handling")=@y6:=by cases hs:s.mc.want with|hand=>rw[m2,"handling"]|amount a=>rw[cK,hw.1]|bracket to=>rw[cK,hw.1]
   rw[Ã];show k
  rw[ku,(b5,v,@axr,@d,?_),(ha,(eS,(v,s.mc.outer.length))=@KJ)]
abbrev ad0:bi:=(aY,1)
def aG_:(nT,ad0):=@E
def aHa[ă](F:(h,"take","Reading.take",ad0))[ck](X:(ů,"take_amount",(ĸ,"piece"),3,@ald))(V:(g!,"take_bracket","piece",@ale))(z:(gY,"take_times","number",@VN))(y:(zM,"take_word",@VP))(aPc:(ů,"end_handling",@fB,2,@VV))(r:(zq,3,@VT)):(F1,@zV,@wL):=by
 calc(e,aG_,@H);.clear h;calc bv λj p q own s x=>@tq;subst bH;rfl
 .clear h;calc bv λj p q own cb x=>jg λcB cZ U G hj q0=>?_;let{ms,{M,want,os}}:=cb;subst cB;let{mo,v,I,J,tm,R,hw,N,kZ}:=cZ;dsimp only at R hw kZ;rw[ŝ];calc lT @Ss @VW;let O:∀H',@r0->@pH:=λH' o c u hc h=>o c u h (nk,@eI) (nk,@O') (nk,@Jx);let yes:∀(s':Rs),@aoK=some s'->∀H' wn' wd' tm',j8 C H' p mo v n sv rf wn' wd' tm' s'.moves s'.mc.mv s'.mc.outer->ao8 wn' wd' tm' s'.mc.want->(ë,s'.moves.length<=@Ö,@r0,@c'):=by ext s' hs H' wn' wd' tm' R' w' l' o';let k:=q0 H' own @alf @tp;rw[hs]at k;show k (Mg mo v wn' wd' tm' R' w' N l')
  rw[oz,@aoK,Mg mo v I J tm @Uy hw N (ht,ms.length<=_),<-w,<-Ă,(u1,X),(u1,V),(iu,(Dw,z),(Dw,y),(e9,@a9,(nt,aPc)),(t9,@a9,(nt,r))),<-f9,(fG,_,@Nd,_,(ķ,il,fj),_,(ũ,vO,nG)),<-s,<-ž];rw[gU];cases want with
  |amount a=>
   let{rfl,rfl}:=hw;rw[ct,<-s,<-aR,mo,v,q,n,sv,rf,_,dZ _ tm ms M os x (ı,R,U,@VX,@H?)];.rw[aG7]at R';calc(fd,(ĥ,aY M (zo n a @Ĩ),os),@d);rw[wS hk.1];show _M.zE (show oO n (nm,a) @Gc=_ by delta oO;dsimp only;rw[aj @d4])
   .apply(a0,(f8,@WU));by_cases hn:@n1;.rw[wS hn];rw[ã,(ŕ,@BV),<-iS]
    rw[pl]
  |bracket to=>
   clear hw;calc cy λd_ fz Bs=>?_;subst d_;subst fz;rw[ŷ,@s_,<-s,<-ž];rw[gU];rw[ct,<-s];calc(m1,mo,v,q,n,sv,rf,_,dZ _ _ to ms M os (ò,x,R,U,@d,Bs,{@VX,@H?}));rw[ý,(fd,(ĥ,@Ň,@AE),@d),zS hk.1,_M.zE (show(yK,@NK)=_ by rw[aM,@d4])]
   .apply(a0,(f8,@WU));by_cases hn:@iu;.rw[zS hn];rw[Ũ,@D8,@NK,<-ť,hk ⟨hn,h.2⟩]
    .let db:=ape hn;cases ht:tokOf x with|num k=>rfl|word _=>rfl|sign c=>rw[nc,@NK]|wrong=>rfl
  |hand=>
   obtain rfl:=hw;calc@Ot;rw[ž];rw[gU];rw[ŷ,@s_,<-s,<-bv];rw[gU];calc@í;.rw[s];let hk:@n1:=@Ī;rw[pu,TP.nN,(bx,@Ĩ,R,λh_ H' R' o'=>?_,λh_=>?_),<-ý,(fd,{M,.bracket (some @Ĩ),os},(yz,by cases e;show h_)),wS hk,_M.zE (show(ŕ,@x5)=_ by rw[aj (show@x5 from h_)])];.apply(a0,(f8,(ua,wS hk)));rw[wS hk];rw[ã,(ŕ,@x5)];rw[ag (show¬@x5 from h_)]
   rw[s];let l:@Kx:=@xi;rw[bv];rw[gU];rw[ì]
   .rw[s];let hk:@hk:=@Ī;let i:=@VZ;rw[pu,TP.nW,(ò,@mB,R,@vA,@vA,@vA,λh1 h2 h3 h4 h5 H' s'=>?_),<-cM,"every",apb,(ĥ,aY M @go,os),@d,_M.zE (by exact(i3,"every")=_;delta _M.iS;rw[(@ğ),(@ğ),(@ğ),(@Þ)])];.rw[pJ,"back",apc];calc(fd,{M,@Qp,os},(yz,@jq));rw[(@hy),e];show _M.zE (by exact(i3,"back")=_;delta _M.iS;rw[dJ,@ğ])
    .rcases he with he|he|he;rw[cM,"cut",ao9,(nm,0),@IY,_M.zE (by exact(i3,"cut")=_;delta _M.iS;rw[Ų]),<-cM,"turn",ao_,(nm,1),@IY,_M.zE (by exact(i3,"turn")=_;delta _M.iS;rw[(@ğ),(@Þ)]),<-cM,"deal",apa,(nm,2),@IY,_M.zE (by exact(i3,"deal")=_;delta _M.iS;rw[(@ğ),(@ğ),(@Þ)])]
    .apply no (f8,(ua,@hy)) H' s';rw[(@hy)];rw[ã,_M.iS n @B? @bo];delta _M.iS;rw[(ck,h3 (im,ao9)),(ck,h4 (im,ao_)),(ck,h5 (im,apa)),(ck,h1 (im,apb)),(ck,h2 (im,apc))]
   rw[s];let D:@Kw:=@xi;rw[bv];rw[gU];rw[ì]
   .rw[s];let hk:@sV:=@Ī;let nr:(y9,@B?):=rfl;rw[Ň,jI hp @d p mo v n (wl,(é,M,os,R,@e,@vA,@uJ))];.let{rfl,rfl}:=he;calc(Jp,{@LK,@Zp},@d,@iA);rw[Fy hk];delta kg;dsimp only;rw[nr];dsimp only;rw[nX]
    rw[ý,(a0,(f8,he ⟨h.1,h.2.2.2⟩)),Fy hk,nr]
   let uw:@aaV:=@xi;by_cases hk:@kN
   .cases os with
    |nil=>
     dsimp only[vf];calc aG4 ?_;calc(vB,@o,@Å,?_);.rw[bd,@ľ];rw[gU,bN hk];show k
     .show(Hx,[],λ_=>k,λo S e=>@jq)
     .apply(a0,(f8,(ua,@o')));rw[(@o')];rfl
    |cons o os=>rw[bd,(uC,@d)];rw[gU,bN hk];calc@hT;calc(Hx,o::os,@tn,λo2 os2 e H' R' o'=>?_);cases e;calc(fd,(ĥ,@aht,os),@d);rw[(@o')];show _M.zE @d
   .rw[bd,(uC,@d)];rw[gU,dE hk];rw[ċ];calc(a0,_M.zF ?_ @ķ);.by_cases d:@iu;rw[Ě,zS d,<-Ě,@atb]
    .let W:=@e!;by_cases d:@iu;.rw[zS d]at W;injection W with e;omega
     .rw[(@atb)]at W;cases W
def  Mh[c]:Rs:={[],@Zp}
abbrev kC[aw][q]:Rs×Int:=oj @wL sh @D5 t
def Mi[P][ah](hm:@I4)(hu:(Á,v))(h:@EH):¬@FC:=by rintro(e|e|e);rw[Ŀ,hp,<-Ŀ,hm,<-Ŀ,hu]
abbrev ad1:bi:=top 88
def apg:(A3,ad1):=@E
def  IG[j]:Sp:=(GG,@Å,@pP,(ó,mv,@MM),cf n @MM)
def aHb(F:(h,"read_handling","read_handling",ad1))[Ö](r:@asJ)(CR:(EJ,@Å,@wK)):(ot,IG K C):=by
 calc(e,apg,@H);.clear h;calc lA λa t n aW _=>?_;subst aW;rfl
 .clear h;calc dF λa t n bf ha bu=>@akp;subst bf;let{U,O}:=bu;let R:=CR n;rw[w,<-Û,apg.nd,@arJ,@y_,(à,@R),<-ga,<-s,<-fe];calc(IS,@Å);let G:=(dX,x);let B:=(dX,N);rw[dS,<-ps];clear r2;rw[kB,<-Š];calc(i?,cP,@rr,9);rw[s,<-pq,@pP,<-Å,q0 _ p l k u y I J tm ?_ aq (g.updI cP) R2.hM];ext b o h;rw[(@Dk)];show@arC
abbrev ad2:bi:=top 89
def aph:(A3,ad2):=@E
def  api[j]:Sp:=(GG,@o,@jN,eX H' mo @asv,@I4)
def aHc(F:(h,"read_handlings","read_handlings",ad2))[Ö](r:@asJ)(CR:(EJ,@o,@kj)):(ot,api K C):=by
 calc(e,aph,@H);.clear h;calc lA λa t n bH _=>?_;subst bH;rfl
 .clear h;calc dF λa t n cb ha cB=>@akp;subst cb;let{U,O}:=cB;let R:=CR n;rw[w,<-Û,aph.nd,@arJ,@y_,(tI,(a9,@ap,@ap)),<-a4,<-s,<-fe];calc(IS,@o);let G:=(dX,x);let B:=(dX,N);rw[dS,<-ps];clear r2;rw[kB,<-Š];calc(i?,cP,@rr,9);rw[s,<-pq,@jN];let s3:af H @LY:=by ext b o h;rw[(@Dk)];show@arC
  let S:=g.updI (o:=@abF) cP;let iL:=(dV,p,@abF);rw[dV,@LY,<-s];generalize@LY=H3 at*;rw[Æ,W.moves.snoc S (dM,R2.hM),λys hy dQ V=>?_,<-s];let M:(Á,k):=by
   cases e:H k with
   |none=>rfl
   |some o=>
    exfalso;rcases g2 k ((jL k).2 (.inr (.inl rfl)))with h|h;.show Mi m G B e h
    rw[ī,(Ĺ,e)]
  rw[Ĺ,l,iL,T.moves,(Ů,hy,(Al,l,@c7,(DE,k,(mE,dQ)))),<-s];let z:p≠k:=λe=>by rw[<-e,iL]at hy;cases hy
  show(R,q0 _ p l k u y I J tm (dA s3 M) (C,z,iL) V M)
structure RI[Ù][ġ](aN aB:aa):@v extends@ġ,@atD
def  gH:Wt->au|.par=>"("|.orW=>"or"|.andW=>"and"|.notW=>"not"
def ad3{a b:Wt}(h:gH a=gH b):a=b:=by induction a<;>induction b<;>first|rfl|rw[Ò,h,@ø]
def apj(x:Wt):(DQ,adb,@jp,@hv):=by induction x<;>decide+kernel
def  kW[r]:au:=(iQ,k,"up",k,"even","like")
def  yh[aO](st:aa)[bR](M X:aa):@Ŷ:=[@NP,@amY,(aS,"steps",st),@ano,@zy,(aS,"cards",M),(aS,"waiting",X)]
structure vw[j]:@v where
 cl:@b1
 size:@JG
 refusal:@Y1
 steps:(ß,"steps")
 wanted:@Y2
 word:@JF
 cards:@Y0
 waiting:(ß,"waiting")
def apk[a]{q D:aa}[w][Ĕ](hD:@alU)[eT](h:(Ű,q,xs)):cS K @ay q xs:=by rcases h with(h|⟨b,h⟩)|h;rw[ix,(uv,hD,h1 _ @ia),<-ý,.inl (l9,b),aF (uv,hD,h2 _ _ @ia),h,<-Ç,h]
def sG.updO[Ü][Ĕ](h:(d_,l))[bO](hD:@alU)[eT]:sG K @ay l ss:=by clear h;calc@F0;calc bC zs @pY b (λz mz=>(À,gA));calc q_ (c z mz) (λ_ q c1 c2=>?_);show L7 q (C,λe=>by rw[e,hD]at c1;show h1 _ (cM c1),c1) (apk hD h1 h2 c2)
def sG.push[P]{x:Cs}(h:(d_,l))(a:C8 K H p x):(hC,@g5,sG K @qu l (bj,ss)):=by
 clear h;rw[Ë,@HM];subst aW;let one:∀(y:aa)(s:Cs),C8 K H y s->C8 K (be,(œ,@ŵ,p)) y s:=by ext y s;rw[E,λq c1 c2=>?_];show L7 q (C,(λe=>by rw[e,h]at c1;cases c1),c1) (apk h @nV @nR c2)
 rw[d5,<-ń,<-ź,<-cW,gA,one _ _ @nw,gA,one _ _ a]
structure kF[j][i](p st M X:aa)[aO][bR][Ķ](ss:@Č)[ĵ]:@v where
 ins:(te,@asI)
 steps:(d_,st)
 cards:(ã,M,@v6)
 wait:(ã,X,@Ia)
 n1:st≠M
 n2:st≠X
 n3:M≠X
def  oo(p st M X:aa):@ć:=λc=>c=p\/c=st\/c=M\/c=X
def kF.same[Ŕ][d0][u][ă]{I J:au}{cs:@h}{ss:@Č}[d'][m]:kF K C H' p st M X n rf I J cs ss W:=by let{{dx,a},b,c,d,e,f,g}:=R;show{{dx,@Ż},@alh,(ą,c),@Jq,e,f,g}
def kF.re[Ņ][d0][ă][d'][ĝ]{r:aa}[eB]{cs':@h}(hc:(dQ,r,(Ä,cs')))(h1:st≠r)(h3:r≠X):kF K C (g?,yh n rf' st wn' wd' r X) p st r X n rf' wn' wd' cs' ss W:=by let{{m,a},b,c,d,e,f,g}:=R;let a1:=@Ż;let np:(r!,(dQ,q,xs),p):=(rD,a1);let b1:=@alh;rw[aQ,b1];show{⟨dx,aq⟩,sG.updO b1 (np _ _ hz) a1 @nV @nR,(C,np _ _ hc,hc),(C,np _ _ @Jq,@Jq),h1,f,h3}
def Kp.refl[bQ][i]:(hu,H):=@o8
def Kp.upd[bQ][Ņ]{q:aa}[À](k:@LB)(U:own q):(hu,(Ľ,q,o)):=λc u hc h=>(C,(hh,(ŋ,U)),@AT)
def Kp.of[ez](k:@LB)(s:@f_):(hu,H2):=λc u hc h=>(ą,@AT)
def Kp.tr[ez](k:@LB)(k2:(vz,H2)):(hu,H2):=λc u hc h=>k2 c u hc @AT
abbrev ad4:bi:=(bI,4)
def ad5:(kp,(ĸ,"word"),ad4):=@E
def  apl[j]:Sp:=(G8,(fZ,kF K C H p st M X n rf I J cs ss W,@ca<=1000/\(fB,@cE)))
def aHd(F:(h,"depth","Condition.depth",ad4))[Ø][g]:(ę,"self",@ali):=by
 calc(e,ad5,@H);.clear h;calc(ne,λI J cs ss W bf _=>?_);subst bf;rfl
 .clear h;calc(ne,λI J cs ss W bu=>cy λR hl q0=>?_);subst bu;rw[Ā,<-w,<-Ñ,(He,"word",1,ad5.nd,@ç,1,ad5.nd,(c!,@lz,@lz),@K),<-s,<-ay,(gE,X,R.wait,@Ę)];apply rB (λx:Wt=>@aug) W.reverse Co @B6 @Yx hD (ak.of R.wait) @ę @Vw @HG @vs
  .apply(bN,@agq,(E,z,@Ņ));rw[oh,"not",@d2,ad3 (b:=@d2) e,<-oh,"(",@Ņ,(x7,e)]
   .let:(@agq||(E,z,@Ņ))=Co z:=by induction z<;>rfl
    rw[this];show@ao
  .apply(ē,D,(Ý,h1));let k:=@e7;delta kP at k;rw[aw,List.filter_reverse,lK];show k
abbrev ad6:bi:=(bI,8)
def aHe:(nS,ad6):=@E
def  RJ[j]:Sp:=λvs H Q _=>∃(p st M X:aa)(n:Nat)(rf:Int)(I J:au)(cs:@h)(ss:@Č)(W:@Ĕ)(x:Wt),(iH,.str @jp,kF K C H p st M X n rf I J cs ss W,@ayH<=1000/\(fC,kF K C H' p st M X n rf I J cs (L6,@hv) (KI,@hv),@hs))
def aHf(F:(h,"settle","Condition.settle",ad6))[Ø][cy]:(Ş,1,"word",@awa):=by
 calc(e,aHe,@H);.clear h;calc@ac_;subst bH;rfl
 .clear h;calc(h0,gX λcb R hl q0=>?_);subst cb;rw[w,<-ß,aA (aO,(bG,@aa!,(ĝ,A8,(DO,(lB,@Lg)),(DO,@K))),(b8,@ç,(ņ,@Lp,@T8))),<-a8,(cJ,sn _ aP),<-s];apply let Pz:@ah'->@aF:=λ(y:List Cs×List Wt)σ H'=>σ=@aiq/\kF K C H' p st M X n rf I J cs y.1 y.2/\@hs/\(ĕ,y.1.length+y.2.length)/\(io,y.1,y.2)=(io,ss,W);Md Pz (λy=>y.2.length) (ss,W) (ı,R,Kp.refl H,hl,@d) ?_;rintro⟨S,V⟩;ext σ H1;calc jF λcB d k1 ym e1=>?_;subst cB;dsimp only at d ym e1;rw[g3];let hw:=d.wait;cases V with
  |nil=>rw[ay,(i5,X,hw),<-ċ];rw[<-e1]at q0;show@aqB
  |cons v V=>
   rw[mQ,bF]at hw;rw[ay,(i5,X,hw)];calc b9 @bw @zG;rw[ay,(Ñ,1,(e1,X,hw,amu _ _,(A0,@et,@cH,v,(É,(A0,@jp,@hv,x,@fE))))),<-ì]
   .let h_:@hv<=@cH:=@gN;rw[È,(io,S,v::V),(io,@Mx,V),(u,_M.settle,aj h_)];calc ab (B1,@aiq,kF K C H' p st M X n rf I J cs @Mx V,@hs) ?_ ?_;.ext σ' H';calc cy λcZ R' k'=>?_;subst cZ;show qC _ @kq (@Mx,V) @d @d R' (aM k' (by simp at ym⊢;omega) (b1,e1,e2))
    .rw[aQ,d.steps,<-s,<-ø,T.steps,(Ů,hz,(dC,@mK,(Ei,hw,@et,hw,@A)))];rw[(kX,(@gy++[v].map @aue).dropLast,@gy)];let np:p≠X:=λe=>by rw[<-e,hp]at hw;cases hw
     let sO:=d.steps.updO (o:=.lst @gy) d.n2 hw @nV @nR;let cP:(ž,(ř,H1,X,@gy,p),@asI):=(d1,np);let dB:(fu,H1,X,@gy,M,(nL cs).map _L.V.int):=@yl;let o0:=(ĉ,H1,X,@gy);let k2:(mR,(ap,X,@gy)):=@V1;rw[ķ,X,@gy,<-Ó,@o9];let s3:=(aV,[],H2,ht);let t3:=(dV,t,@vd);rw[bV,t,@vd,<-Á,@bA,@k8];let s4:=(ö,@L4,H3,hu);let u4:=(mx,u,@L4);rw[e6,u,@L4];let l:C8 K H4 u (.op v):=(L7 t (by rw[u4];induction v<;>rfl) (cS.of @aaq));let vS:=@cP;rw[Æ,sG.push (sO.same Fw vS) l,λys hy dQ Dx=>?_];calc(ŀ,st,ys,hy,bU (is,dQ,by simp at ym;omega) @d (Gx,(À,dx),Dx,?_) ((k2.of vS).upd @kY));rw[å,(CN,vS _ _ cP),vS _ _ cP,<-å,d.n1.symm,vS _ _ dB,<-å,d.n2.symm,vS _ _ o0]
   .rw[s,<-È,(io,S,v::V),(S,v::V),(u,_M.settle,ag (kE,(ts,(v,@hv)<=@cH)))];rw[<-e1,e2]at q0;show@aqB
def apm[ĵ]:zN (V.str "(") @Ia=@V2:=by
 delta zN;rw[aw9,List.any_reverse];rw[Ô];rw[TD,iW];constructor;.rw[E,@gr,<-eV,(E,gH y,"(")];let:y=@Ņ:=(x7,@O7);rw[Ĕ];show hy
 rw[Ŕ,ab @Ņ h (by exact(E,gH @Ņ,"(")=@o;decide+kernel)]
def apn[f](hk:@fU):(DQ,Iz,@ae,@bP):=by rw[cb];rcases this with rfl|rfl|rfl<;>decide+kernel
def aHg[s](h:@zi):dv Iz @FK=@u:=by let h0:=h 0 @C;let h1:=h 1 @C;let h2:=h 2 @C;delta dv Iz;let e0:(uZ,"up"):=λq=>h0 @Ib;let e1:(uZ,"even"):=λq=>h1 @Ib;let e2:(uZ,"like"):=λq=>h2 @Ib;simp[e0,e1,e2]
def aHh[f](hk:@fU)[Ķ]:_M.Cs.claim k cs=(eD,cs)/\@gx=@ae:=by rw[cb];rcases this with rfl|rfl|rfl<;>show@Ű
abbrev ad7:bi:=(bI,0)
def aHi:(eK,"size","size",ad7):=@E
def  ad8[j]:Sp:=λvs H Q _=>∃(p dx:aa)(n:Nat),(iH,@aa,@lH,∀(H':Hp)(st M X:aa),kF K C H' p st M X n 0 "claim" "" [] [] []->(Á,st)->(Á,M)->(ë,(Á,X),@lM,@ŕ))
def  aHj:=@λ{I W p2 p3 p4 p5}G j D B n r=>@id (@ad8 I W p2 p3 p4 p5) ⟨G,j,D,B,n,r⟩
def aHk(F:(iy,"Condition.__init__",ad7))[Ø]:(Ş,1,"size",@alj):=by
 calc(e,aHi,@H);.clear h;calc lA λp dx n aW _=>?_;subst aW;rfl
 .clear h;calc om λp dx n bf hp q0=>?_;subst bf;rw[w,<-Ă,@gF,@v_,(tr,@cV,(Č,@dm,@cV,aA @cV)),<-aV,@Ũ,@Ħ,@Mr,<-s,<-i7,<-s];calc(yG,1);rw[s,<-s];rw[sj];rw[Ó,λst fB=>?_];let{B,g}:=j7 fB;rw[fv,g.symm,T.steps,2,<-s];calc(KA,3);rw[s];calc(bw,@g9,4);rw[s,<-s];rw[sj,sj];rw[Ó,λM z=>?_];let{D,j}:=j7 z;let{v,cast}:=j7 D;let{y,_}:=j7 v;calc(tV,j.symm,@mL,5);rw[s,<-Ó,λX r=>?_];let{u,d}:=j7 r;let{l,e}:=j7 u;let{k,_}:=j7 l;let{i,a}:=j7 k;let{x,_}:=j7 i;rw[fv,@rl,@mK,6,<-s];calc q0 _ st M X {⟨dx,aq⟩,bC ([]) ?_ @d @dx,?_,?_,cast.symm,@rj,@bi} B y x ?_;.rw[aF g,aF @rj,aF g,aF cast.symm,aF g,aq];rfl
  .rw[aF j,aF @bi,aF j,aq];rfl
  rw[Ú,aF d,aq];.ext b o hb c;rw[(@gt),(fA,x),(@gt),(fA,y),(@gt),(fA,B),(@gt)];show hb
abbrev ad9:bi:=(bI,5)
def aHl:(nT,ad9):=@E
def  apo[b](C m:aa):Sp:=λvs H Q _=>∃(p st M X q:aa)(n:Nat)(rf:Int)(I:au)(k:Nat)(cs:@h)(ss:@Č)(W:@Ĕ)(x:Pc),(ě,@ĥ,kF K C H p st M X n rf I @ae cs ss W,@yw,@fU,@ah1/\@pz/\(@yQ->@oi=@bP->(f3,kF K C H' p st M X n rf "joint" @ae @fq @z0 W))/\(@yQ->@aiu->(f3,kF K C H' p st M X n rf I @ae @fq ss W))/\(iX,@yQ))
def aHm(F:(h,"take_card","Condition.take_card",ad9))[Ø](TP:@lP)[cy]:(Ş,1,"piece",@aqM):=by
 calc(e,aHl,@H);.clear h;calc(Cl,bj λx bu _=>?_);subst bu;rfl
 .clear h;calc(Cl,rE λx v R r D ja=>gX λgc q1 q2 q3=>?_);subst v;let{b,sq,U,_,_}:=r;rw[Ā];let S:@bP<=2:=by delta lg;split<;>omega
  rw[w,<-aT,(aG,kz (qw @LW (qw (gM,@a9) (rn @aov)))),(fn,@a9),(tE,(ee,@bu,QS G.CARDS_NAMED G.CARDS_NAMED_d @ç @ļ),(yY,(n7,@ç)),@dm),js,<-õ,@Ũ,@aam,@za,<-s];calc(bN,@xF,@aji);rw[dg];.apply sE @EM @n9 @ci @ci k;rw[gC,@bG,(c4,(Ó,(v,@Ĩ),1)=@EM,(bY,@e,@Ä)),<-nj]
  rw[ì];.rw[s];calc q3 @ķ;rw[(@F6),dE (Ò,¬@Ĩ<1),(@apZ)]at hc;cases hc
  rw[s];let hk:@yQ:=by rw[cy,@xF,@aji];rw[AE,AE,ajM,cG,oK,oK]at h1;show aM h1.1 @e @Ä
  let z:=R.cards;let MT:(Ä,cs)++[(Đ,@Ĩ)]=@eK:=@zR;rw[ø,@mL,(Ů,z,(K1,(od,M,z))),<-s,<-s];rw[MT];let N:p≠M:=λe=>by rw[<-e,hp]at z;cases z
  let O:(ž,(ř,H,M,@eK,p),@O5):=(d1,N);let d:=R.steps.updO (o:=.lst @eK) R.n1 z @nV @nR;let j:=(ĉ,H,M,@eK);let g:(fu,H,M,@eK,X,@Ia):=(C,R.n3.symm,R.wait);let k1:(mR,(û,M,@eK)):=(Kp.refl H).upd @YE;rw[ap,M,@eK,<-s];let b_:(qa,@fq)=@Ţ+1:=by rw[aw,lX];simp
  rw[ak,O,@mL,(qx,M,(Ý,j),(b2,O,@g9,aU (.inr @ae) (ď,@bP) @d (apn D) (CI @d @Ą)))];rw[b_,gR];calc b9 @uJ @uJ;.rw[s];let i:@oi=@bP:=(Ŀ,cF he);rw[aQ,d,<-ak,O,T.steps,(Ů,hz,(R,(b2,O,@g9,(R,(b2,O,@mL,(nx,M,j,@o9))))))];let s2:=(aV,@eK,H1,ht);let J:=(il,t,@R3);rw[Ů,t,@R3];calc(dY,@k8);rw[bT,@L3,hu];let u3:=(dV,u,@L3);rw[bV,u,@L3];let mf:=@dG;let l:C8 K H3 u (eD,@fq):=(L7 t (u,u3,(aHh D _).2) (cS.of (Í,J)));rw[Æ,sG.push (d.same Fw mf) l,λys hy dQ SD=>?_];calc(DE,st,(is,dQ,gc));rw[s];let y:p≠st:=(CN,mf _ _ O);let R4:kF K C @A' p st M X n rf I @ae @fq @z0 W:=(Gb,(tz,y,O),SD,(tz,R.n1.symm,j),(tz,R.n2.symm,g));let k4:(mR,@A'):=(k1.of mf).upd @kY;generalize@A'=H4 at*;rw[s,<-g7];calc(k1,Gc,c,7);rw[s];show q1 hk i _ (R4.re (dx:=Gc) (af.refl H4) R4.cards R.n1 R.n3) (k4.upd @ì)
  .rw[s];let i:@aiu:=λh=>he @DE;show q2 hk i H1 (Gb,O,d,j,g) k1
abbrev ad_:bi:=(bI,3)
def aHn:(nS,ad_):=@E
def  apq[j]:Sp:=(HW,kF K C H p st M X n rf I J cs ss W,(ĕ,@ca),∀v,@zW->x=@et->@cE=20->@Ex,∀v,@zW->x=@et->@ach->(f3,kF K C H' p st M X n rf I J cs ss (v::W)),∀k,@fU->x=@ae->∀H' r,kF K C H' p st r X n rf "card" @ae [] ss W->@hs->(Á,r)->Q @c' H',@ZH->x≠"("->@zi->@jM)
def aHo(F:(h,"take_claim","Condition.take_claim",ad_))[Ø][cy](m:(ů,"depth",@fB,1,@ali)):(Ş,2,"word",@alk):=by
 calc(e,aHn,@H);.clear h;calc@ac_;subst bH;rfl
 .clear h;calc(h0,lW λl R Ti q1 q2 q3 N=>?_);subst l;rw[Ā,<-w,<-č,(Ť,(c!,@lz,@lz),(it,(aG,(zo,(nt,m))),@ab4,js)),(Č,(aG,CB (aDW G.CARDS_NAMED G.CARDS_NAMED_d @K)),@gF,(it,@cV,@dm,js)),<-c?,(fG,@kW,_,@hJ,_,@amj,(ũ,vO,dr)),<-s];apply(bN,(E,x,"not"),(E,x,"("));rw[cV,<-cV];apply@í
  .rw[s];obtain⟨v,hv,hx⟩:∃v,@zW/\x=@et:=by
    rw[ie];rcases hc with e|e;.show ab @d2 @ì e
    .show ab @Ņ @bN e
   calc(Hw,(bx,W,R,Ti,@DZ));rw[Á,@d,@Ą];rw[gR];calc b9 @V3 @V3;.rw[s];show q1 v hv hx (Ŀ,cF hd) H1 s1
   .rw[s];let xk:@ach:=λh=>hd @DE;let d:=@sP;rw[bx];let a:=d.wait;rw[ak,O,@mK,(FY,(aa,lK,fc Ti)),<-s,<-dw];calc q2 v hv hx xk _ {{dx,@ayw},@A9,@yl,?_,d.n1,d.n2,d.n3} (((Kp.refl H).of s1).upd @axu);rw[aq,mQ,bF,hx];rfl
  rw[s];let g:@ZH:=(hh,(Q,bN e));let fV:x≠"(":=(hh,(u,bN e,Bool.or_true));by_cases hk:∃k,k<=2/\x=@ae;.clear hk;calc bj λk D cb=>?_;subst cb;rw[s];calc(zp,@ae);rw[apn D];rw[ċ,<-s,<-ŀ,hp,@g9,7,<-s,<-Ó,λr i=>?_];let{y,j}:=j7 i;calc(tV,j.symm,@mL,7);rw[s];calc(bw,@jh,7);rw[s,<-s];rw[sj];rw[aQ,R.steps];let d:=R.re (H1:=H) (dx:=dx) (rf':=rf) (wn':=I) (wd':=@ae) @ŗ R.cards R.n1 R.n3;let s2:=(ŗ,@agM,i);let c2:(fu,@agM,r,[],r,(Ä,[])):=aq;calc q3 k D @d _ r (d.re (dx:=dx) (cs':=[]) s2 c2 (λe=>by rw[<-e,hz]at y;cases y) (λe=>by rw[e,R.wait]at y;cases y)) ?_ y;calc Kp.upd (λc u hc h=>?_) @ì;rw[(pP,y),aF (hh,@eI)];show h
  .let jw:@zi:=λk h e=>hk (ab k h e);calc(zp,x);rw[aHg jw];show dg (N g fV jw)
def aHp:(vC,@iK->∃V,(_M.settle 1 S W).2=@Ņ::V):=by
 ext z_;cases z_ with
 |nil=>ext S h;show@Ŧ
 |cons v W M=>
  ext S h;rw[_M.settle];by_cases hb:1<=@cH
  .rw[aj hb];calc M _ ?_;rcases eJ.1 h with e|e;.rw[<-e]at hb;show(g7,hb)
   .show e
  .rw[ag hb];let:v=@Ņ:=by induction v<;>first|rfl|rw[Ò,@Ó,hb]
   rw[Ã];show(ć,W)
def RK[õ]:(vC,(tj,b,S)+(_M.settle b S W).2.length=S.length+@ca):=by
 ext z_;cases z_ with
 |nil=>ext S;show@d
 |cons v W M=>
  ext S;rw[_M.settle];split;.rw[M];simp;omega
  .rfl
def aea[õ]:(vC,C9 S->C9 (_M.settle b S W).1):=by
 ext z_;cases z_ with
 |nil=>ext S h;show h
 |cons v W M=>
  ext S h;rw[_M.settle];split
  .apply M _ λk cs hm=>?_;rcases bX.1 hm with e|e;.show h k cs e
   .cases dt.1 e
  .show h
abbrev aeb:bi:=(bI,7)
def aHq:(iV,aeb):=@E
def  apr[j]:Sp:=(G8,vs=@k1/\kF K C H p st M X n rf I J cs ss W/\@Zh/\(@iK->(f3,kF K C H' p st M X n rf I J cs @zB @Az))/\(@aeo->@jM))
def aHr(F:(ym,"Condition.end_bracket",aeb))[Ø](S:@AL):(bu,"self",@all):=by
 calc(e,aHq,@H);.clear h;calc(ne,λI J cs ss W aW _=>?_);subst aW;rfl
 .clear h;calc(ne,λI J cs ss W bf=>gX λR hl q1 q2=>?_);subst bf;rw[Ā,<-w,<-ľ,(aG,(uN,dY,@ç)),(dh,S,dY),eP @Lp,js,<-cJ,<-s,<-o_,@Ą,<-cD];rw[(@Þ),apm];by_cases hm:@iK;.rw[(@Go)];calc@Ŵ;rw[s];let{V,U}:=aHp W ss hm;rw[Ň,jI hp @d p st M X (vW,(ű,W,.orW,R,hl,@V4)),<-s];let e1:gD .orW=1:=rfl;rw[e1]at d;let{u,O}:=d.ins;let a:=d.wait;rw[U,mQ,bF]at a;rw[i8,(Ei,a,"(",a,by simp[gH]),<-s,<-dw];calc q1 hm _ (Gx,@ac0,@A9,@yl) @V1;rw[aq,U];simp
  .let hf:(A,@V2):=(d,jA,(sA,iW.1 h));rw[hf];show dg (q2 hm)
abbrev aec:bi:=(bI,6)
def aHs:(nS,aec):=@E
def  aps[j]:Sp:=(HW,kF K C H p st M X n rf I J cs ss W,@Zh,x=")"->@iK->(f3,kF K C H' p st M X n rf I J cs @zB @Az),x=")"->@aeo->@jM,∀v,@aoa->x=@et->(f3,kF K C H' p st M X n rf "claim" J cs @ahh (v::@Nr)),x≠")"->x≠"and"->x≠"or"->@jM)
def aHt(F:(h,"take_joint","Condition.take_joint",aec))[Ø](S:@AL)(r:(zq,2,@all)):(At,@alm):=by
 calc(e,aHs,@H);.clear h;calc(h0,Fa @C1);subst bu;rfl
 .clear h;calc(h0,lW λc R hl q1 q2 q3 N=>?_);subst c;rw[Ā,<-w,<-Ă,(e9,@K,(nt,r)),(aG,(bG,@ac',@ac')),(iu,(dh,S,@K),@ab4,@dm,js),<-c?,(CW,@kW),<-s];calc@a';rw[gU];rw[ì];.rw[s];let hx:x=")":=@Ī;show(Hw,oN W @d R hl (q1 hx) (q2 hx))
  let hx:x≠")":=(ro,e);dsimp only[vf,ax,bZ];apply Il (tW,"and") (tW,"or") @ci @ci ?_;rw[cV,<-cV];calc@oB;.rw[s];rw[eZ,AA,AA,oK,oK]at dB;show N hx dB.1 dB.2
  rw[s];obtain⟨v,hv,g⟩:∃v,@aoa/\x=@et:=by
   by_cases e1:x="and";.show ab .andW @ì e1
   .by_cases e2:x="or";.show ab .orW @bN e2
    rw[Í,(Ê,dE e1,dE e2),dB]
  subst g;rw[s,<-aR,st,M,X,n,rf,I,J,(â,cs,ss,W,v,R,{hl,@V4}),<-s];let gc:=RK @cH W ss;let q5:=q3 v hv @d;generalize _M.settle @cH ss W=y at*;let{u,O}:=d.ins;let a:=d.wait;rw[i8,(FY,(qZ,lK)),<-s,<-dw];let R2:kF K C @agG p st M X n rf I J cs y.1 (v::y.2):={@ac0,@A9,@yl,(ds,aq,mQ,bF),d.n1,d.n2,d.n3};let k2:(mR,@agG):=k1.upd (.inr @Jy);rw[ķ,X,@OA,<-s,<-g8];calc(k1,l,cP,7);rw[s];show q5 _ (R2.re (dx:=l) @sv R2.cards R2.n1 R2.n3) (k2.upd @ì)
def  apt[bR](cs':@h):(ú,CW)|.claim=>I="claim"|.card k cs=>I="card"/\J=@ae/\cs'=cs/\@fU/\@ah1|.joint=>I="joint"
def  Mj[j][aO][Đ][dg](own:@ć)(s:Cm):@v:=∃st M X I J cs,kF K C H p st M X n rf I J cs s.steps s.wait/\apt I J cs s.want/\(yB,@atc)/\s.steps.length+s.wait.length<=j/\C9 s.steps
def  RL:=@λ{I W p2 p3 p4 p5 U p7 p8}G j D B n z J F M N r=>@id (@Mj I W p2 p3 p4 p5 U p7 p8) ⟨G,j,D,B,n,z,J,F,M,N,r⟩
def aHu[h][aO]:Rdr C @NE:=by
 rw[aX,?_];.ext j H p own s;calc(tc,Fa λR _=>?_);rw[Ā];show(ca,dx,hp,@d)
 .ext j H p own s;calc(tc,gX λR _ N _=>?_);ext c hc;rw[Ā,<-x,R.steps,@BU];rcases(N c).1 hc with e|e|e|e;rw[ś,hp,<-ś,hz,<-ś,R.cards,<-ś,R.wait]
 rw[ke,(tc,jF λR a b c d=>?_),RL st M X I J cs @Uz a b c d]
def w_not:(ag,"not","not"):=@ø
def apu:(ag,"up","up"):=@ø
def apv:(ag,"even","even"):=@ø
def apw:(ag,"like","like"):=@ø
def w_and:(ag,"and","and"):=@ø
def w_or:(ag,"or","or"):=@ø
def apx:(jD,"(")=[40]:=@ø
def apy:(jD,")")=[41]:=@ø
abbrev aed:bi:=(bI,2)
def aHv:(iV,aed):=@E
def aHw[ă](F:(h,"may_end","Condition.may_end",aed))[Ø]:(Aq,@NE,zG):=by
 calc(e,aHv,@H);.clear h;calc pH λj p own s bH _=>?_;subst bH;rfl
 .clear h;calc i8 λj p own s cb cB q0=>?_;subst cb;let{st,M,X,I,J,cs,R,hw,_,_,_}:=cB;rw[Ā,<-w,<-Ñ,(t9,@ç,jT @avz dY @ç @nY),<-s];apply(vB,@agr,! s.wait.contains @Ņ,q0 H @ŗ)
  .rw[hV];rw[gU];let:(E,I,"joint")=@agr:=by cases hs:s.want with|joint=>rw[m2,"joint"]|claim=>rw[cK,show I="claim"from hw]|card k cs=>rw[cK,hw.1]
   rw[Ã];show k
  .rw[o_,?_,<-cD,<-Ê,@Þ,apm,k]
abbrev aee:bi:=(bI,1)
def apz:(c7,(eI,"piece","word"),"piece",aee):=@E
def aHx[ă](F:(h,"take","Condition.take",aee))[Ø](TP:@lP)(aPs:(gY,"take_card","piece",@aqM))(aPt:(g!,"take_claim","word",@alk))(aPu:(zM,"take_joint",@alm)):(F1,@NE,@kD):=by
 calc(e,apz,@H);.clear h;calc bv λj p q own s x=>Fa @tE;subst cZ;rfl
 .clear h;calc bv λj p q own d_ x=>jg λfz jM U G hj q0=>?_;let{ss,want,W}:=d_;subst fz;let{st,M,X,I,J,cs,R,hw,N,hl,hok}:=jM;dsimp only at R hw hl hok;rw[Ā];calc lT @Ss @VW;let O:∀H',@hs->@pH:=λH' o c u hc h=>o c u (nk,e) h;let yes:∀(s':Cm),(gK,@aa3,@Ĳ,s')->∀H' r wn' wd' cs',kF K C H' p st r X n rf wn' wd' cs' s'.steps s'.wait->apt wn' wd' cs' s'.want->s'.steps.length+s'.wait.length<=@Ö->C9 s'.steps->(ë,r=M\/(Á,r),@hs,@c'):=by
   ext s' hs H' r wn' wd' cs' R' w' l' V z o';let k:=q0 H' (oo p st r X) @alf (λc hc=>by
    rcases hc with e|e|e|e;rw[fg,@eI,<-fg,@O'];.rcases z with h|h;rw[Ä,(N c).2 (Ĕ,.inl (e.trans h)),<-Ç,(ŋ,h)]
    rw[fg,.inr @Jx]);rw[hs]at k;show k (RL st r X wn' wd' cs' R' w' @DB l' V)
  rw[oz,kf n @aa3 @Ĳ,RL st M X I J cs @Uy hw N (ht,@g5+@ca<=_) hok,<-w,<-ľ,(u1,aPs),(ae,apz.nd,rw (bX,@a9) @a9 @a9),(e9,@ç,(a?,aPt,@R)),(a?,aPu,@R),<-î,@fz,@Ħ,_,@Fj,<-s,<-ž];rw[gU];let a:∀{y:au}{l:@h},@hk->y.cps.toList=l->(@mB=y↔@bo=l):=λhk hy=>(d,@VZ,yg hy);cases want with
  |card k cs0=>
   clear hw;calc jF λqP qQ sR D ja=>?_;subst qP;subst qQ;subst sR;rw[ct,<-s];apply(m1,st,M,X,q,n,rf,_,(ŉ,k,cs,ss,W,x,kl R U D ja @e @V5 {@V5,@H?}))
   .apply(i',(m0,@z0),@d,@adK,?_);.rw[wS hk.1];exact@zU=_;delta rb;rw[ÿ,@d4,hn]
    .ext k' cs' hm;rcases bX.1 hm with e|e;.show hok k' cs' e
     .cases dt.1 e;show{D,@iA}
   .apply(i',(q2,@fq),(yO,D,@ŝ),@VY,hok);rw[wS hk.1];exact@zU=_;delta rb;rw[aj @d4,ag hn]
   .apply(a0,?_);by_cases hn:@n1;.rw[wS hn];rw[ã,@zU];delta rb;rw[iS]
    rw[pl]
  |claim=>
   obtain rfl:=hw;calc@Ot;dsimp only[vf];calc@o5;calc@o6;calc@atF;rw[ic,<-lh,<-na,<-ž];rw[gU];rw[ct,<-s];apply(m1,st,M,X,n,rf,_,J,(H4,λv hv hx hd H' s'=>?_,λv hv hx hd H' R' o'=>?_,λk hk hx H' r R' o' z=>?_))
   .apply no ?_ H' s';rw[br]
    .rw[bq];rcases hv with rfl|rfl;.rw[(@hy),(@ab7)];rw[ã,(nJ,@Qk)];delta mn;rw[Ų];show@h!
     rw[mW]
    .rw[bp];rcases hv with rfl|rfl;.exfalso;rw[i']
     .rw[zS hx];rw[Ũ,@D8,@Lu,<-ť,h.2 hd]
   .apply(i',(Ž,ss,v::W),@d,@adK,hok);rw[br]
    .rw[bq];rcases hv with rfl|rfl;.rw[(@hy),(@ab7)];exact(nJ,@Qk)=_;delta mn;rw[Ų];show@uN
     rw[mW]
    .rw[bp];rcases hv with rfl|rfl;.exfalso;rw[i']
     .rw[zS hx];exact(yK,@Lu)=_;rw[aM,hd]
   .apply yes (q2,[]) ?_ H' r _ _ _ R' (yO,hk,by exact 0<@bP;delta lg;split<;>omega) @VY hok (.inr z) o';rw[eT]
    .rw[aj d]at hx;rw[qE d];exact(nJ,@bo)=_;delta mn;rw[cb];rcases this with rfl|rfl|rfl;.rw[(t3,apu),(@ğ),(@Þ)]
     .rw[(t3,apv),(@ğ),(@ğ),(@Þ)]
     .rw[dJ,(t3,apw)]
    .exfalso;rw[ag d]at hx;rw[cb];rcases G.kinds with e|e|e|e|e|e|e<;>rw[e]at hx<;>first|show d e|rcases this with rfl|rfl|rfl<;>show@afA
   .apply(a0,?_);rw[eT];.rw[aj d]at h1 h3;rw[qE d];rw[ã,(nJ,@bo)];delta mn;rw[(ck,h1 (la,w_not)),(of,0,apu),(of,1,apv),(of,2,apw)]
    .rw[ag d]at h2;let db:=ape h2;cases ht:tokOf x with|num k=>rfl|word l=>rw[Ò,ht,apf d l]|sign c=>rw[nc,@Lu]|wrong=>rfl
  |joint=>
   obtain rfl:=hw;calc@Ot;dsimp only[vf];calc@o5;calc@o6;calc@atF;rw[ic,<-lh,<-na,<-ž];rw[gU];rw[ŷ,@s_,<-s];let ja:∀{c:Nat},@Kv->@Ĳ=@oS->c≠41:=λaQ ht e=>aG6 aQ (dB,ht);rw[aR,st,M,X,n,rf,_,J,(H4,λhx hm H' R' o'=>?_,λhx hm=>?_,λv hv hx H' R' o'=>?_)]
   .rw[oZ];let b_:=RK 1 W ss;calc(i',{@zB,@d3,@Az},@d,?_,aea 1 W ss hok);.rw[(@o')];exact(ŕ,(Î,41)=41/\@iK)=_;rw[aM,hm]
    .exact(tj,1,ss)+(_M.settle 1 ss W).2.tail.length<=_;rw[aw2];omega
   .rw[oZ];calc(a0,?_);rw[(@o')];rw[ã,(ŕ,(Î,41)=41/\@iK),<-ť,hm h.2]
   .let b_:=RK @cH W ss;apply(i',(Ž,@ahh,v::@Nr),@d,?_,aea @cH W ss hok)
    .rw[br];.rw[bq];rw[(@hy)];exact@apU=_;delta wq;rcases hv with rfl|rfl;rw[Ú,(hp,w_and),@Þ,<-ä,(hp,w_or),@ğ,@Þ]
     .exfalso;rw[bp];rcases G.kinds with e|e|e|e|e|e|e<;>rw[e]at hx<;>first|show hk e|rcases hv with rfl|rfl<;>show@afA
    .exact(tj,@cH,ss)+(v::@Nr).length<=_;rw[eE];simp+arith[*]
   .apply(a0,?_);rw[eT];.rw[aj d]at h2 h3;rw[qE d];rw[ã,@apU];delta wq;rw[(ck,h2 (la,w_and)),ag (λe=>h3 (la,w_or))]
    .rw[ag d]at h1;cases ht:tokOf x with|num k=>rfl|word l=>rw[Ò,ht,apf d l]|sign c=>rw[fX,@iK,<-ť,ja h1 ht h.1]|wrong=>rfl
abbrev aef:bi:=top 47
def apA:(vO,"condition",aef):=@E
abbrev ln[c][q]:Cm×Int:=@arx
def  aeg[j]:Sp:=(wi,∀(H':Hp)(p dx st M X:aa)(I J:au),@Í->(lR,yh n @j2 st I J M X)->sG K H' st @yt->C9 @yt->(ĕ,(_M.settle 1 @CE @CF).1.length)->Q @ã H')
def aeh[a][d0][ah](hs:(Á,st))(hc:(Á,M))(hw:(Á,X))(h:@EH):¬@atc:=by rintro(e|e|e|e);rw[Ŀ,hp,<-Ŀ,hs,<-Ŀ,hc,<-Ŀ,hw]
def aHy(F:(h,"read_condition","read_condition",aef))[Ø](u:(fI,"Condition",(ĸ,"size"),1,@alj))(CR:(wn,Mj K C n 0,@kD,zG))(S:@AL):(ot,aeg K C):=by
 calc(e,apA,@H);.clear h;calc lA λa t n vK _=>?_;subst vK;rfl
 .clear h;calc dF λa t n vL ha g=>Fa λfO q0=>?_;subst vL;let{U,O}:=g;let R:=CR n;rw[w,<-Û,apA.nd,CU u @ž (Ċ,@K),@y_,(tI,(xJ,S,dY)),<-a4,<-s,<-fe];calc aHj p dx n @d aq (λH1 st M X d fB z r k1=>@ľ);let B:=(dX,fB);let y:=(dX,z);let x:=(dX,r);rw[dS];calc(Ē,a,p,(vT,@Bw,@oC,RL st M X _ _ _ d @d @DB @Â (λk cs h=>@Ŧ),(Ha,O)));clear r2;calc bv λsO G v I J cs=>jF λR2 o0 jL nu N=>?_;rw[g8];calc(i?,cP,@rr,7);rw[s];let W:=R2.re (dx:=l) (rf':=@j2) (wn':=I) (wd':=J) @sv R2.cards R2.n1 R2.n3;let iL:=(dV,p,.ins C l @aws);rw[dV,@LZ,<-s];let k3:Kp D H2 @LZ:=(Kp.refl H2).upd ((jL p).2 @ì);generalize@LZ=H3 at*;rw[s];calc(jh,l,jI iL @d p sO G v (dZ n _ I J cs _ (ű,_,.orW,W,@e,λH4 R4 k4=>?_)));rw[s,<-g7];let gc:=RK 1 @CF @CE;rw[Å,q0 H4 p Gc sO G v I J ?_ c R4.steps (aea 1 _ _ N) (dw @auE (dw (Ou gc) (dw nu @e)))];ext b o h;let um:=@fT;let vI:=k2 b o (Ha,h) um;let db:¬D b:=λhb=>by
   rcases g2 b hb with e|e;.show aeh m B y x h e
   .rw[um]at e;cases e
  show k4 b o (λe=>db ((jL b).2 e)) (k3 b o db vI)
abbrev sH:=@nJ
def  Bk(zs:(ţ,sH)):@ź:=(lq,(@H1,@br))
def  TabAt[a8](l:@h_):@v:=(fi,sH,(al,.dT @V6)/\@hG=l/\(lr,Mv H z.1 @b8,@b8≠[]))
def  aei:=@λ{I W p2}G j D r=>@id (@TabAt I W p2) ⟨G,j,D,r⟩
def TabAt.same[p]{d:aa}[cS][m]:(kw,H'):=let⟨zs,a,b,c⟩:=t;(FF,@Ż,(Cv,m))
def TabAt.updO[a]{d D:aa}{l:@h_}[À](t:@qf)(hn:d≠D)[ce]:(kw,@ay):=by clear t;rw[Ë,@mY];show(FF,(gR,hn),(Eg,m,(fj,m),@axX))
def apB{zs:(ţ,sH)}[Ý]:(nW,@V6,@dI,x):=by delta dv Bk;rw[Hc];rw[cF,@ce,(gy,@dI),(gQ,sH,(@H1,@br)),(e_,x),(n9,@H1,@dI,{adA,λq=>@oo}),<-Ã];cases zs.find? λz=>z.2.1==x<;>rfl
def TabAt.miss[a][cS][C](h:@Xe):(G2,(aq,@dI)=@u):=by clear t;rw[ŗ];calc bC _ a (ub,b) ?_;rw[apB];rw[<-b,Hc]at h;cases e:zs.find? λz=>z.2.1==x with|none=>rfl|some z=>rw[mx,@aeW]
def TabAt.hit[a][cS][C]{y:sH}(h:@awA=some y):∃kvs a,@Zb/\(aq,@dI)=some @Î/\Mv H a y.2:=by clear t;rw[ŗ];rw[<-b,Hc]at h;cases e:zs.find? λz=>z.2.1==x with|none=>rw[mx,(zs.find? @OY)=@u]|some z=>let F:@aeW:=e;rw[F]at h;let:z.2=y:=@ia;calc aU _ z.1 a (Ê,apB,e) ?_;rw[Ĕ];show(fj,@k3)
def TabAt.put[a]{l:@h_}[C][k](t:@qf)[aN](hx:@Xe):(G2,TabAt (cb,(pM,@dI,@Î)) d (l++[(x,h)])):=by
 rw[Æ,t.miss hx,@H6];calc bC kvs k1 k2 ?_;clear t;rw[Ë,λzs e b c=>?_];rw[e]at k1;cases k1;rw[iu,e];let nm:∀G h',@amw->G≠d:=λG h' m' q=>(zd,e);calc aei (dg,a,(x,h)) ?_ ?_ ?_;.rw[aq,QE _ k3];delta Bk;rw[bF];rfl
 rw[Ú,bF,b]
 .ext z mz;rcases bX.1 mz with q|q;.show{(c z q).1.updO (nm _ _ (fj,q)) g,(c z q).2}
  .cases dt.1 q;show{m.updO (nm _ _ m) g,aQ}
def  vx[i](u:aa)(ds:@Ë)[Ĺ]:@v:=(ã,u,@im)/\@g3=@q8/\ds.Nodup/\∀i d,(H,ds,d)->TabAt H d @c!
def  RM:=@λ{I W p2 p3}G j D r=>@id (@vx I W p2 p3) ⟨G,j,D,r⟩
def vx.same[p]{u:aa}[cs](h:@xH)[m]:(qt,H'):=RM (ą,h.1) @š @e! (λi d e=>(h.2.2.2 i d e).same s)
def vx.updO[a]{u D:aa}[cs][À](h:@xH)(hu:u≠D)(hd:D∉ds)[ce]:(qt,@ay):=(Eh,hu,@š,λi d e=>(h.2.2.2 i d e).updO (λq=>hd (e7,eD e)) ht hm)
def vx.put[a][e]{kvs a:@ź}{l:@h_}(h:@xH)(hi:(H,ds,d))(hd:@Zb)(t:(kw,@aa9)):vx @aa9 u ds (U.set i l):=by
 rw[iu,hd];let nm:∀G h',@amw->h'≠[]->G≠d:=λG h' m' _ q=>(zd,hd);let wY:@I':=(bE,@š,hi);calc(Eh,λq=>(DJ,h.1,hd),(d,B1,@š),λj e he=>?_);rw[eY,aiz];by_cases hj:i=j;.subst hj;rw[hi]at he;cases he;rw[(@Þ),aj wY];show t
 .rw[ag hj,<-eY];calc(h.2.2.2 j e he).updO (λq=>hj ?_) g nm;subst q;let{h1,h2}:=gL.1 hi;let{h3,h4}:=gL.1 he;let hp:=rQ.1 @e!;rcases Eb i j with z|z|z;rw[Í,h2.trans h4.symm,hp i j h1 h3 z];.show z
  rw[Í,h4.trans @i4,hp j i h3 h1 z]
def  Bl(u f:aa):@Ŷ:=[("undoing",.ref u),("found",@ņ)]
structure Ml[j]:@v where
 cl:@b1
 und:(ß,"undoing")
 fnd:(ß,"found")
structure pX[Û](p u f:aa)(ds:@Ë)[Ĺ](F:@È):@v where
 ins:(te,@EG)
 und:@xH
 fnd:eX H f F
def pX.same[Ŕ]{p u f:aa}[cs]{F:@È}(R:@lS)[m]:@abL:=by rw[g9];show{{dx,@Ż},@vk,@H2}
def aHz[Ý][o]:Oz @aoo @aon=(E,x,@Ý):=by
 let{a,b}:=x;exact((@li==@ú)&&(@IU==0&&@o))=_;rw[aZv];rw[Ô];rw[eZ,gy,gy,cG];constructor;.rintro⟨h1,h2⟩;rw[Ċ,a,i];subst this;cases b with|false=>rfl|true=>rw[Ř,h2]
 .ext h;cases h;show@Ű
def aHA[a2][ũ](hb:@z6)(hn:@ĵ≠@Ý):@dq=i:=_M.aap (_M.mR.2 hb) hi hn
def aHB[k](hb:∀j,@X5->@s'=@fx):@dq=@ħ:=by
 rcases ft (cX h) h.length with z|z;.show absurd (hb _ z) (_M.aan z)
 .show Tx (_M.P0 h) z
abbrev aej:bi:=top 82
def aek:(Õ,["move","place","source"],"move",aej):=@E
def  ael:Sp:=λvs H Q _=>∃(l:aa)(h:az),vs=[@ē]/\@bT/\(fB,@dq)
def aHC(F:(h,"first_changed","first_changed",aej))[g]:(ę,"move",ael):=by
 calc(e,aek,@H);.clear h;calc fb λl h aW _=>?_;subst aW;rfl
 .clear h;calc cw λl h bf bu q0=>?_;subst bf;rw[g1];let fo:=ht.len;rw[w,<-Ĉ,(i0,1,aek.nd,2,aek.nd,(đ,(ĝ,aCj hr.units,@R,@xm),@K)),@č,<-š,_,@v2,(cJ,@kf),<-s,<-ĉ,l,@TI];apply(ÿ,∃(v1 v2:@Ñ),σ=[@ac,v1,v2]/\@Í/\@z6,(hc,l,@Ķ,(C3,@ŗ,@QK),cw λ_ _ _ s _=>(ta,dG)))
  .ext i y σ H1 T hi;calc cw λv1 v2 bH s1 hb=>?_;subst bH;ext hT;rw[P,<-pR,@abn,<-bu,@vo,<-P];let wY:@gC:=@Gx;let d:@ĵ=x:=(kF,wY,@VL);let s2:=aL (o:=@wo) s1 hT;calc@dX;rw[s,<-Ů,T,@wo,<-s];calc(Ŭ,_,@bA,λt m=>?_);let s3:=aL (o:=@iy) s2 m;let e3:=@Ys;calc aCh @aoo @aon (Fo,cS.of e3) (Fo,@m2) @d @d @Ą;rw[aHz];by_cases O:x=@Ý
   .rw[bN O];rw[ç,(Ğ,_,s3,@Gl),<-aC];.rw[e,d,O]
    .show hb j @e
   .rw[dE O];calc dg @dK;let k:=q0 _ s3;rw[aHA wY hb (d,d,O)]at k;show k
  .ext σ H1;rw[ë,λv1 v2 cb s1 hb=>?_];subst cb;rw[s];rw[aw,fo]at hb;rw[ĉ,l,(Ý,(Ĺ,dG))];rw[aw,fo];let k:=@e7;rw[aHB hb]at k;show k
abbrev aem:bi:=(iE,2)
def Mm:(c7,["self","move","rest","place","known"],"move",aem):=@E
def  aen[h]:Sp:=(G9,(ě,@ē,@lS,@bT,@à,@ï/\@ė/\(th,(ó,q,@ga),cf n @ga)))
def aHD(F:(dZ,"rest_of","Group.rest_of",aem))[aV][ŉ]:(bO,2,f0,@D?,aen C):=by
 calc(e,Mm,@H);.clear h;calc(ik,pH λF S h n cB _=>?_);subst cB;rfl
 .clear h;calc(ik,i8 λF S h n cZ R=>@aju);subst cZ;rw[Ā,<-mv,R.und.2.1,j.len,<-w,<-Û,Mm.nd,@K,(e!,@ç,3,Mm.nd,4,Mm.nd,(þ,(đ,(mz,@agv,@Ô),@R),(ae,Mm.nd,(fW,(e4,@Ô,@agv),@R)))),(à,@R),<-dl,@f9,<-s,<-ĕ,<-ø,T.und,(ē,u,ak.of @rt)];calc(ÿ,∃(v3 v4:@Ñ)(q:aa)(r:az),(d8,[@bM,@ac,(T,q),v3,v4],(ó,q,r),cf n r,(I!,r)=@ga),(hc,u,@im,(â,@u,@u,l,h,@ŗ,aM hl hh @JI),i8 λ_ _ _ _ _ s _=>(ta,@rt)));.ext i y σ H1 k hi;calc i8 λv3 v4 q r d_ s1=>@aja;subst d_;ext hT;rw[P,<-oF,<-P];let dM:i<n:=@ani;let s2:=(ö,@Zl,H1,hT);calc(eC,k,@m2,@ju);rw[s,<-Ů,k,@Zl,<-s];let g:=@bC;let O:=m1.same s2;rw[ă,O,@gv,<-x,ht.get' (i:=i) (x:=(Ħ,r)) (ug,(d,W.len,dM)),@Ic];let M:(İ,@Ķ,@ú,.ref pp):=(y1,vM);let td:=(FG,g);let fB:=_M.HG j dM r;rw[e1]at fB;cases hf:(U.getD i []).find? λx=>x.1==at_ r i with|none=>rw[hf]at fB;calc bW (td.miss hf) @H6;rw[n0];rw[k3];calc dg @dK;dsimp only at fB;show q0 H2 q g (tp,O) (tp,W)|some x=>rw[hf]at fB;calc lT (td.hit hf) (λkvs a k1 k2 k3=>?_);let X:=j.hand i x dM (BZ hf);rw[n0];rw[k2];rw[ċ,<-s];calc(ų,(ly,q,dG,M,(qx,d,(ws,k2.symm),(â,a,q,x.2,r,k3.toS,bU O (ct,W.len) (aU,X.len,W) (λH3 q3 s3 m3=>?_)))));show(â,_,_,q3,aY x.2 r,g.trans s3,aM m3 (_M.kM X W) fB.symm)
  .ext σ H1;calc i8 λv3 v4 q r fz s1=>@aja;subst fz;rw[s];rw[aw,Gd,_M.PV j]at e1;let e2:r=@ga:=e1;rw[<-e2]at q0;show(R,q0 H1 q s1 m1 W)
abbrev aeo:bi:=(iE,3)
def aHE:(C?,aeo):=@E
def  apC[h]:Sp:=(G9,(iH,@ē,@lS,@bT/\@à/\@ï/\@ė/\(Ŝ,@al4)))
def aHF(F:(dZ,"has","Group.has",aeo))[g](ahc:@aq9)(ahd:@an_):(AG,apC C):=by
 calc(e,aHE,@H);.clear h;calc(ik,pH λF S h n jM _=>?_);subst jM;rfl
 .clear h;calc(ik,i8 λF S h n qP R=>@aju);subst qP;rw[Ā,<-ă,hl,@gv,<-w,<-Ñ,(bh,(ð,ahc,(a?,ahd,@K)),@pq),<-s,<-aR,u,f,l,ds,U,F,S,(é,h,n,R,hl,hh,aM hn j (λH1 q1 s1 m1 h1=>?_))];calc aU q1 @ga @d m1 @Um;rw[Ð,l,(Ý,(FH,dG)),@ľ];rw[aw,ht.len,hh.len,gR];let:(E,(o,cX @ga),@ö)=@al4:=ml.2 (lO,(_M.aao h1).1 @e,(ø,(_M.aao h1).2 e));rw[Ã];show q0 H2 @bC
abbrev aep:bi:=(iE,4)
def RN:(kp,(eI,"size","known"),aep):=@E
def  apD[h]:Sp:=λvs H Q _=>∃(p u f:aa)(ds:@Ë)(U:@ĕ)(F:@È),(fZ,@lS,(∀i,@Zg)/\(fB,@ajL))
def aHG(F:(dZ,"size_of_all","Group.size_of_all",aep))[aV]:(AF,apD C):=by
 calc(e,RN,@H);.clear h;calc(xU,Fa λqQ _=>?_);subst qQ;rfl
 .clear h;calc(xU,gX λsR R j q0=>?_);subst sR;rw[Ā];let Gd:=R.und.2.1;rw[w,<-Ģ,RN.nd,aH,(aC,@ç,2,RN.nd,(d7,RN.nd,bA xN @K (pe,aDR,@R))),<-ĭ,<-s,<-ø,T.und,(bL,u,@rt)];calc(fy,(yS,σ=[@bM,(ê,(U.take i).foldl @E8 1),v2]),u,@im,Iv @ŗ @u @d,(LB,@rt));.ext i y σ H1 hi;calc Fo λs1 v2 vK=>?_;subst vK;rw[P,<-oF,<-P];let g:@I':=@ani;rw[Æ,(FG,s1),@H0];let sK:@V7=@sH:=(ub,z2);let hU1:=j i;rw[Õ,d,(ź,z1,(q1,Iv s1 @el ?_)),<-É,U.take @Q,U.take i++[@c!],by rw[uQ,cJ g,eY,cJ g];rfl,<-È,@V7,@sH,(ub,z2)];rw[e1,Gr,e2];rfl
  .ext σ H1;calc Fo λs1 v2 vL=>?_;subst vL;rw[aw,Gd,iQ];show(R,@e7)
def  Mn:@Ė:=λ_=>@Å
def apE:∀{G:@Ë}{aG:@X},bG @ob aG->aG=@dF|[],_,h=>@pm|q::G,_,h=>by induction h with|cons a b=>cases a;rw[apE b];rfl
def aHH:∀(G:@Ë),bG @ob @dF:=by ext z_;cases z_ with|nil=>rw[ñ]|cons q G M=>rw[ģ,@d,M]
def aHI{a b c d:Int}(h:a<c\/(a=c/\b<d)):aZw itemOrd [kc a,kc b] [kc c,kc d]=@o:=by rw[aZx];rcases h with h|⟨rfl,h⟩;rw[Ä,@eR,<-ý,(l9,dE @C),aZx,.inl @eR]
def  II:ai->aa|.ref a=>a|_=>0
def  aHJ:@Ŏ:=λxs H Q=>∃(l:aa)(G:@Ë)(f:aa->@Ü),xs=@j3/\(a_,@ob)/\@aln/\(ĕ,G.length)/\∀(g:@Ë)(D:aa),@V8->(g.map f).Pairwise @apG->(Á,D)->Q @cz (û,D,@Rl)
def aHK:(yF,aHJ):=by
 ext pins s σ H vs us Q I r h;clear h;calc dF λl G f aW hl U=>Fa λb_ q=>?_;subst aW;rw[i6,<-Ł];let M:=apE rv;subst M;let key:∀q∈G,∃o t u n,(nE,(dP,q),@a1=.seq #[(eg,@WX),.int @Yl u] n):=by ext q nz;calc Fb (hD,q,_,q,U q nz) (λ_ aG r o e c=>Fe λn d=>?_);induction r with|cons C D=>induction D with|cons B D=>cases D;let{t,rfl}:=C;let{u,rfl}:=B;show bO o t u n e c d
 let tk:∀q∈G,axc @ä Mn @ĥ=some [kc @WX,kc @Yl]:=by ext q nz;calc(Br,key q nz);delta axc;rw[aj (by exact(match@Sk with|some o=>_|none=>false)=@o;rw[e];exact(match o.cls with|.type n=>n=="tuple"|_=>false)=@o;rw[c];rfl)];exact(match@Sk with|some o=>_|none=>none)=_;rw[e];exact(match o.data with|.seq xs _=>_|_=>none)=_;rw[d];rfl
 let ht:∃fs,TupsOf @ä Mn @dF fs:=by revert q hl rv p' hz b_ r tk U;cases G with|nil=>show{[],@á}|cons a G ih=>let{fs,h}:=ih (λq m=>key q @JA);calc(Br,key a @A);show{_,.cons (â,a,o,_,n,e,dI c d @d (λ_=>wk _ _ @d) @FM) h}
 let{fs,ht}:=ht;calc a3s (shape:=Mn) @i? ht (λv hv=>?_) (dO,@acN) λst' h1 h2 _=>?_;.rw[À,hv,λa ha bf=>?_];subst bf;show{_,tk a ha}
 let hp:(arrOf st').toList.Perm ((G.map dk).zip @dF):=by let e:=Array.perm_iff_toList_perm.mp h1;rwa[pairsOf_toList]at e
 let dM:∀p∈(arrOf st').toList,p.1=p.2/\p.1∈@dF:=λp m=>mem_zip_self (hp.mem_iff.1 m);generalize O:(arrOf st')=arr at*;let hz2:((G.map dk).zip @dF).map @Ĥ=@dF:=(Ė,List.map_snd_zip);let w:(arr.toList.map @Ĥ).Perm @dF:=(d3,hp.map @Ĥ,hz2);let N:@V9=@V_:=@A;have g:=(arr.toList.map @Ĥ).map II;let S8:@V8:=by
  let h3:=w.map II;let e:((G.map dk).map II)=G:=by rw[b6];let:(II∘dk)=id:=rfl;rw[ê,uC]
  rw[e]at h3;show h3
 let A:g.map dk=@V_:=by
  exact((arr.toList.map @Ĥ).map II).map dk=_;rw[b6];conv=>rhs;rw[<-uC (arr.toList.map (λx_=>x_.2))]
  rw[Î];ext v hv;rw[À,w.mem_iff.1 hv,@Ru];subst bu;rfl
 let{ep,Bq}:=aYi @ä @dF (arr.map @Ĥ);let y:(g.map @d5).length<=bq:=(aa,S8.length_eq,@acN);calc oT @kF (û,@ň,@Rl) (Ed,mr y @V9 ep ?_ Bq) @d (q g _ S8 ?_ @G8);.rw[N,<-A];show aHH g
 .rw[rQ];ext i j hi hj E bK;let J:i<@ru:=by simpa[g]using hi
  let x:j<@ru:=by simpa[g]using hj
  let hsz:@ru=(pairsOf @dF).size:=(hV,hp.length_eq,pairsOf_size);let e:=h2 i j @e (K,hsz,x);let kk:∀(k:Nat)(hk:k<@ru)(jw:k<(g.map f).length),KK (a3t @ä Mn) arr k=(op,k,k):=by
   ext k hk jw;let{e1,e2}:=dM @aab @hD;rw[À,e2,λa ha e3=>?_];let e4:(@hj)[k]=f a:=by
    let:(@hj)[k]=f (II (arr.toList[k]).2):=by simp[g]
    rw[this,<-e1,<-e3];rfl
   rw[e4];delta KK;let:(cu,arr,@aab):=(b1,G4,cJ hk);rw[Ã];exact(axc @ä Mn (arr.toList[k]).1).getD []=_;rw[<-e3,tk a ha];rfl
  rw[kk i J @hz,kk j x @pc]at e;let F:(A,aZw itemOrd (op,j,j) (op,i,i)):=e;let nu:=aHI (a:=(qU,j)) (b:=(qX,j)) (c:=(qU,i)) (d:=(qX,i)) (by
   rcases bK with h|⟨h,h'⟩;.show .inl @Ä
   rw[Ç,{@Ä,@Ä}]);rw[nu]at F;cases F
def eX.updW[Ü][Ō][bO][ce]:(eL,@ay):=(n8,@pY,(Eg,mz,@Lh,@Ct))
def eX.offs[c7]:(J!,a≠l):=(qs,λx h mx aQ=>mx.off aQ a (eX.refs c))
def eX.nt[c7]:(Ÿ,H l):=(qs,(ā,a))
def eX.pop[ċ](m:eX H l @adL):∃ys t,(a_,ys)/\@AS/\Mv @Kd t h/\(eL,@Kd):=by let d:=m.offs;let e:=m.nt;clear m;rw[ŗ,<-dC,zs,(by cases hg:zs.getLast? with|none=>rw[GH.1 hg]at b;simp at b|some z=>rw[dT])];rw[bF]at b;rw[gg,b,<-e!,z.2=h];let{c1,c2}:=c z @A;rw[hz]at c1 c2;calc gN _ z.1 a ?_ (c1.updO (d _ _ c1 c2) e) (zR ws ?_ h2.1 (λy my=>?_));rw[d0,<-c3];.let{d1,d2}:=@afO;show{d1.updO (d _ _ d1 d2) e,d2}
def pX.updL[a]{p D:aa}{F:@È}[w](R:@lS)[bI](hu:u≠D)(hf:f≠D)(hm:@x1):(b_,@ay,U,F):=by rw[g9];let g:∀ys,H D≠some @fK:=λys q=>(ji,hD);let nd:D∉ds:=(HC,b.2.2.2 i D @abD,hD);show{{dx,(vG,hD)},b.updO hu nd g hm,c.updW hf g hm}
def aHL(z o:az)(F:@È):both z (F++[o])=@afZ++[@NQ]++[@MS]:=by delta both;rw[Tz];simp
def aeq(z:az):∀F:@È,(both z F).length=2*@e?:=by ext z_;cases z_ with|nil=>rw[Ø]|cons o F M=>delta both;rw[Ei,eM];let:=M;delta both at this;rw[Ã];simp;omega
abbrev aer:bi:=(iE,1)
def Mo:(c7,["self","move","waiting","rest","place","other"],"move",aer):=@E
def  yi(f:aa)(ds:@Ë):@ć:=λc=>c=f\/c∈ds
def  apF[h]:Sp:=λvs H Q _=>∃(p u f l:aa)(ds:@Ë)(U:@ĕ)(F S T:@È)(h:az)(n:Nat),(ě,@ē,@lS,@bT,0<n,@lC/\@æ/\(dx,T,[])/\h∈S/\∀(H':Hp)(U':@ĕ)(F':@È),(b_,H',U',F')->(ë,rh n S (T++[h]) U' F' [],@wD,@ŕ))
def aHM(F:(dZ,"enter","Group.enter",aer))[aV](ahc:@aq9)(ag5:@apb)[ŉ](ahd:@an_):(AG,@V'):=by
 calc(e,Mo,@H);.clear h;calc(ik,gQ λF S TT h n aW _=>?_);subst aW;rfl
 .clear h;calc bv λp u f l ds U0=>gQ λF0 S TT h n aPB=>lW λR0 hl h0 hn v I0=>Fa λhS q0=>?_;subst aPB;let hhn:=v h hS;let aQ:=(dM,hhn);obtain⟨zu,hzu⟩:∃xs,(bo,u):={_,R0.und.1};obtain⟨zf,hzf⟩:∃xs,(bo,f):=(hN,R0.fnd,@Id,{_,a});rw[w,<-ß,(þ,(ae,Mo.nd,@Ye),(t1,@R,(ĳ,3,Mo.nd,(a?,ahd,@xh),4,Mo.nd,(hT,ahc),aA (Ť,(gX,@Ô,@XS),(Č,(d?,(lB,@Ô),(ō,@Á,@Ô),(hT,ag5)),(fn,@Á),aA (aC,@ç,5,Mo.nd,(þ,(iC,(fW,@Á,@Ć)),(iC,(fW,@Ć,@Á))))))))),<-aV,(Ļ,aR),@Ħ,(jW,bZ _ cC _,@hr,@hJ,sn _ il,(ì,nG)),<-s];calc(Ą,@cM,@H7);rw[Ŋ,(eN,l),hW];let uW:u≠W:=λe=>by rw[e,hW]at hzu;cases hzu
  let fW:f≠W:=λe=>by rw[e,hW]at hzf;cases hzf
  let w1:eX (û,W,(eN,l)) W [h]:=(nV,[(l,h)],hl.same s1,aQ);calc(nI,@arH,λ(x:List fX×List az×List az)σ H'=>∃v3 v4 N:@Ñ,σ=@atl/\(b_,H',x.1,@Œ)/\@ag3/\@asR/\@wD/\@ah6,@aoc,(U0,F0,[h]),(r0,@u,R0.same s1,w1,aM (_M.azJ v I0 hS) (λc o hc h=>@fT) (ts,1<=_)));rintro⟨U,F,Wl⟩;ext σ H1;calc dF λv3 v4 N bf d w1=>cy λO k1 um=>?_;subst bf;dsimp only at d w1 O um;let yt:=_M.alF O;let Ai:@fX<=128:=(dy,JZ hn (Nat.mul_le_mul_left 2 hn));rw[ao,w1.len (K:=K),<-è,W,hy,@bG];rw[dQ];cases BQ:Wl.getLast? with
  |none=>rw[k4];subst e;rw[ċ,<-s];show q0 H1 U F d O k1
  |some k=>
   rw[g'];let Ak:(g++[k]).dropLast=g:=@A;calc b9 @bw @zG;let nB:=O.wh k @A;let a0V:=(dM,nB.1);rw[g3];calc zM w1.pop (λys t yG ahf mt2 w2=>?_);let R2:=d.updL (o:=.lst @g8) yG uW fW w1.offs;let k2:(mS,(ap,W,@g8)):=(oJ,k1 c o hc hh);let pW:p≠W:=(CM,yG);calc(n2,∃(x:@arH)(v3 v4 N:@Ñ),@aoc<@aob/\σ'=@atl/\(b_,H',x.1,@Œ)/\@ag3/\@asR/\@wD/\@ah6);.ext σ' H';calc i8 λx u3 u4 u5 hm bu=>jF λa1 X M I a5=>?_;subst bu;show dC _ hm x @d u3 u4 (ò,u5,a1,X,M,I,a5)
   .rw[s];let cP:(ž,(ř,H1,W,@g8,p),@EG):=(d1,pW);calc(c0,aZ8 hp @d _ @d @Yp W (é,ys,@ab,@d,yG,ahf,?_));rw[ķ,W,@g8];calc dZ p u f t ds U (â,F,S,k,n,R2,dI mt2 nB.1 @e O.tab (λH3 q3 s3 m3 hh3=>?_));calc(č,q3,@pw,m3,@vz);rw[ă,@V!,@o!,<-Õ,q3,(k2,@Yi)];rw[aw,uA.len,hh3.len];let vS:=@cP;let R4:=R2.same vS;let w4:=w2.same vS;let k4:=k2.of vS;by_cases hr:@pw=@Ň
    .let MP:cX @pw=n:=(_M.aao hh3).2 hr;rw[MP,dE @C];rw[ç,bO (U,F,g) _ _ _ ?_ @d (dI R4 w4 ?_ k4 ?_)];.exact _+@bh<_+@ayy;simp
     .let:=_M.azH O BQ hr;rwa[Ak]at this
     .exact@bh<=1+256*@e?;simp at um;omega
    .apply r8 (_M.azI v O BQ hr) (λhz D db I5=>?_);rw[Ak]at I5;let aPE:(o,cX @pw)<@ö:=@C;rw[bN aPE];calc@hT;let m4:=@V!;generalize@pw=r at*;let NO:=(dM,D);let aPF:(sR,@cg,(wA,@r1))=@u:=yQ.2 λy my e=>db y my @GC;calc(Ŏ,q3,r,n,dI m4 D h0 @e (λH5 q5 s5 m5=>?_));let J:=@V?;let w5:=w4.same s5;rw[g!,<-mv,J.und.2.1,O.tab.len];let aPG:@cg<@g3:=(hs,Gd);let hd5:(Æ,ds,@cg,@jH):=cJ aPG;rw[ă,@Wa,λps5 aPH aPI=>?_,<-x,aPI.get' (i:=@cg) (x:=@r1) (ug,@act),@Ic,<-Æ,(J.und.2.2.2 _ _ hd5).put (x:=@r1) m5 (dM,_M.qY D) aPF,λkvs e1 e2 t6=>?_];let sK:(Jy,@cg)<=2*n:=by rw[Ķ,(vh,@cg),_M.signed n,by ext y hy;rw[À,hy,@u9];subst bH;show _M.EE.2 (O.tab.lt _ x hz hx)];let:=(O.tab.nodup _ hz).length_le_of_subset kT;rw[eF,_M.Hk]
     rw[Ĺ,DZ,An,T.und,(ly,u,J.und.1,(fY,@cg,hd5),(Ň,(e1,q3,aPH,(fY,@cg,vM),(ē,@jH,.inr (cj kvs @auh pp e1 @d wZ (ć,(mE,e2))))))),<-s];let nD:(Ÿ,H5 @jH):=(ā,e1);let nM:(ue,H5,a≠@jH):=(nQ,e1);let uD:vx @l! u ds @pS:=J.und.put hd5 e1 t6;let fD:eX @l! f F:=J.fnd.updW (λq=>by rw[x,J.fnd,@Id];rw[q,e1]at a;cases a) nD nM;let wD:eX @l! W g:=w5.updW (λq=>by clear w5;rw[E,@Id];rw[q,e1]at a;cases a) nD nM;let mD:Mv @l! q3 r:=(m4.same s5).updO (nM _ _ @Wa NO) nD;let pD:ah H5 @jH @auv p=some @al!:=(C,(λq=>by rw[q,e1]at An;cases An),An);let kD:(mS,@l!):=(k4.of s5).upd (.inr @hD);generalize@l!=H6 at*;rw[Æ,fD.snoc mD NO,λyf JP aPJ fE=>?_,<-s];let ahh:=fD.offs;let NG:=fD.nt;rw[Ĺ,DZ,pD,T.fnd,(Ů,JP,(Ŏ,f,yf,_,(lF,JP,(mE,aPJ)))),<-s];let uf:u≠f:=λe=>by let h3:=uD.1;rw[e,JP]at h3;clear fD;rw[ŗ];rw[JP]at a;cases a;let h4:=(dW,h3);let R:0<@g3:=@C;rw[x,uD.2.2.2 0 ds[0] (cJ R),@ld,<-dB,h4,<-gx,cJ R];cases nF:zs[0]? with|none=>rw[b0];cases e0|some z=>rw[b0];let e5:z.1=ds[0]:=@H!;rw[x,(fj,@oU),λpz JA _=>?_];rw[e5,G]at JA;cases JA
     let fds:f∉ds:=(HC,uD.2.2.2 i f @abD,JP);let uE:vx @q0 u ds @pS:=uD.updO uf fds NG ahh;let wE:eX @q0 W g:=wD.updW fW.symm NG ahh;let mE:Mv @q0 q3 r:=mD.updO (ahh _ _ mD NO) NG;let pE:(ř,H6,f,(œ,yf,q3),p)=some @al!:=(C,(λq=>by rw[q,JP]at pD;cases pD),pD);let kE:(mS,@q0):=kD.upd @ì;generalize@q0=H7 at*;rw[s];let R7:(b_,H7,@pS,@n8):={⟨DZ,pE⟩,uE,fE};let asT:=_M.alF I5;let JQ:@zr=@e?+1:=@A;rw[Ď,fE,@Ie];let jy:@aE=@e?+1:=(f9,zb);let hHF:@ak1:=λz mz=>(I5.fh z.2 @aha).1;rw[Ĺ,DZ,pE,T.fnd,(bL,f,za)];apply(a8,λj σ H'=>∃N:@Ñ,σ=[@bM,@ac,@jK,(T,q3),(ê,@cg),N]/\(b_,H',@pS,@n8)/\eX H' W (g++@adC)/\(ó,q3,r)/\@UX/\(Û,f,@ŵ)/\@wD,(Ń,f,@ŵ,Pz,(ò,N,R7,by rw[Gx];exact eX H7 W (g++[]);rw[iO];show wE,mE,λz mz=>(zc z mz).1,⟨za,kE⟩),λj σ H' _=>rE (xB,λhf _=>ak.of hf)))
     .ext j y σ H8 hj;calc rE λu5 cb R8 w8 m8 z8=>@aiL;subst cb;rw[P];obtain⟨z,FU,rfl⟩:∃z,@awq:=@awi;rw[P,<-Ħ,FU];let hZ:=hHF z mz;let Bp:j<@aE:=(gL.1 FU).1;let hFj:(Ë,@n8,z.2):=(uQ,FU);let htk:(r?,@Ö)=(r?,j)++[z.2]:=(dR,hFj);let jz:(Ź,(g++@adC).length):=by rw[eM,aeq,f_];simp at um;omega
      rw[mu,100001,<-x,w8.len (K:=K),@Wb,<-aJ,Ge,(Ē,q3,z.1,(é,r,z.2,m8.toS,z8 z mz,(Ú,hZ.len),{(aU,D.len,hZ),λH9 q9 s9 m9=>?_}))];let w9:=@If;rw[Æ,w9.snoc m9 (yV,D,hZ),λy9 hy9 aPO Tj=>?_];let ahi:=w9.offs;let nt9:=w9.nt;calc(ŀ,W,y9,hy9,(À,(Ú,aPO)));rw[s];let R10:=(R8.same s9).updL (o:=@SG) hy9 uW fW ahi;let m10:=(m8.same s9).updO (o:=@SG) (ahi _ _ (m8.same s9) NO) nt9;let z10:∀x∈zs,Mv @A! x.1 x.2:=λx mx=>((z8 x mx).same s9).updO (ahi _ _ ((z8 x mx).same s9) @alo) nt9;let f10:(fu,H9,W,@OC,f,@ŵ):=(C,fW,(dL,f8));let JF:(mS,@A!):=(oJ,(yQ,hh));generalize@A!=MV at*;rw[x,Tj.len (K:=K),@Wb,<-s,<-aJ,Ge,(Ē,z.1,q3,(é,z.2,r,(z10 z mz).toS,m10,(Ú,D.len),{(aU,hZ.len,D),λF9 q11 uo m11=>?_}))];let NP:=Tj.same uo;rw[Æ,NP.snoc m11 (yV,hZ,D),λy11 asW aPT w12=>?_];let ahl:=NP.offs;let asX:=NP.nt;calc(ŀ,W,y11,asW,aHN (by rw[aPT,eM,xu];omega) _ @d ((R10.same uo).updL asW uW fW ahl) ?_ ((m10.same uo).updO (ahl _ _ (m10.same uo) NO) asX) (aM (λx mx=>((z10 x mx).same uo).updO (ahl _ _ ((z10 x mx).same uo) @alo) asX) (C,fW,uo _ _ f10) (oJ,uo _ _ (JF c o hc hh))));rw[htk,aHL,<-gh,<-gh];show w12
     .ext σ H8;calc rE λu5 cB R8 w8 m8 z8=>@aiL;subst cB;rw[s];rw[aw,jy,<-JQ,iQ]at w8;calc bO (@pS,@n8,g++@Mg) _ _ _ ?_ @d (dI R8 w8 I5 k8 ?_);.exact 300*(@fX-@zr)+(g++@Mg).length<@aob;rw[JQ,eM,aeq,JQ,eM,xu];rw[JQ]at asT;omega
      .exact(g++@Mg).length<=1+256*@zr;rw[eM,aeq,JQ];rw[JQ]at asT;simp at um;omega
def Mv.pop[a]{W:az}[C](m:Mv H l @Kk):∃ys t,(a_,ys)/\@AS/\@aeE/\Mv @Kd l W/\(ř,H,l,@g8,t)=some @c_:=by
 clear m;calc bj @eY;let hl:=b.len;rw[dC,ps,(by cases hg:ps.getLast? with|none=>rw[GH.1 hg]at hl;simp at hl|some z=>rw[dT])];let G:(ws.map H++[H z])=(W.map @Pg)++[@awB]:=by let:=b;delta eW at this;rw[bF,bF]at this;show this
 rw[gg,G,<-e!,(Ö,z,@c_)];let c:z≠l:=λe=>by rw[e,a]at hz;cases hz
 calc c_ _ z a ?_ hz (vn ws ?_ (eW.upd (show eW H ws W from h2.1) a)) (C,c,hz);rw[d0,<-c3]
def Mv.more[a]{t:aa}{W:az}[C](m:Mv H l W)(ht:@aeE):(hC,@ca,Mv (JO,t) l @Kk):=by clear m;rw[E,@eY];calc bC _ a (hR,b.len) (vn (ps++[t]) @Ka ?_);show eW.upd (b.push ht) a
def  nj(R:@Đ):@ź:=R.map λy=>(gb y,@DR)
def apG(R:@Đ)[Ý]:(dv @Wc @dI).isSome=decide @Jl:=by
 delta dv nj;rw[Ez,Hc,Ez];rw[Ô];rw[aw_,cG];constructor;.rw[E,@gr,<-eV,(E,gb y,@dI)];rw[<-adA @O7];show hy
 rw[Ŕ,ab x h @dh]
def  Dg[i](q:aa):@Ü:=match H q with|some (.tup [.int a,.int b])=>(@e',(E,b,1))|_=>(bP,0)
def apH[a]{q:aa}[C](h:(Ö,q,@c_)):@alp=x:=by delta Dg;rw[h];let{a,b}:=x;exact((ij,a),(E,@IU,1))=(a,b);induction b<;>rfl
def apI[a]:∀{ps:@Ë}{R:@Đ},(zi,@Wc)->(∀q∈ps,(Ö,q,gu @alp))/\ps.map (Dg H)=R|[],[],_=>(ć,@dx)|[],y::R,h=>@Ŧ|p::ps,[],h=>@Ŧ|p::ps,y::R,h=>by induction h with|cons a b=>let J:(ľ,gu y):=a;let{c,d}:=apI b;rw[Á,λq m=>?_,(Ô,cT,d,apH J)];rcases eJ.1 m with e|e;rw[Ê,e,apH J,J];.show c q e
def apJ[a]{f:aa->@Ü}:∀{G:@Ë},@aln->eW H G (G.map f)|[],_=>rfl|q::G,h=>by let ih:=apJ (λx m=>h x (í,m));delta eW at ih⊢;rw[cT,cT,cT,ih,h q @A]
abbrev aes:bi:=top 83
def Fz:(Ü,["moves","start","reached","waiting","here","move","source","there"],"moves","start",aes):=@E
def  apK:Sp:=λvs H Q _=>∃(l:aa)(S:@È)(i n:Nat),(a7,@ē,@þ,@aeN,@æ,i<n,(aQ,∀(H':Hp)(q:aa)(R:@Đ),(q6,@ad1,(ó,q,@N'))))
def aHO(F:(dZ,"brought_to","brought_to",aes))[g]:(bO,1,f0,["moves","start"],apK):=by
 calc(e,Fz,@H);.clear h;calc pH λl S i n aW _=>?_;subst aW;rfl
 .clear h;calc i8 λl S i n bf hl=>gX λv hi hn q0=>?_;subst bf;rw[cB,<-Ď,hl,@Ie,<-kC,<-w,<-cq,@ji,anw ny @xm js,@ji,(cL,@xm),(t1,@Á,(cw,4,@ji,(p!,@Á),(aC,@Ð,5,@ji,(ĳ,6,@ji,(rJ,@ZA),7,@ji,(ņ,@ZB,(bJ,@ZB,@ZA)),aA (tE,(mz,@Ń,@R),(d?,@R,@Ń,js),(a9,@Á,@Ń)))))),(KT,aHK,(hd,aEc @d,@R)),<-õ,@Ũ,bZ _ a6 _,(fG,@ew,(Ļ,dr),@hJ,(d2,il),ax _ nG,(ì,vO)),<-s];calc λd hd=>(lC,@Vo);rw[bn,@dr,hd];let d1:=(tf,d,@dr);generalize(cb,@dr)=H1 at*;let s2:=(ö,@iy,H1,FH);let J:=(il,t0,@iy);let d2:=(ġ,d1);rw[Ů,t0,@iy];calc(ű,t0,@r3,J,d2,?_);let s3:af H (ah H2 d @Lm):=dA @bC hd;let d3:=(dV,d,@Lm);rw[bW,@Lm];calc(Ą,@bA,λt3 JC=>?_);let s4:=(ö,@iy,H3,JC);let t4:=(mx,t3,@iy);let d4:=(Ě,d3);rw[e6,t3,@iy];calc{@cM,@H7};let s5:=(ä,@EA,H4,hW);let w5:Mv @aqY W @oJ:=(vn ([t3]) aq (by delta eW;rw[ajI,ajI,(ad,t4)];rfl));let C:=(ad,d4);let sB:(iv,H4,W,@EA):=@TQ;let hWH:(Á,W):=(s3.trans s4).free hW;let dW:d≠W:=λe=>by rw[<-e,d4]at hW;cases hW
  generalize@aqY=H5 at*;calc(nI,@Đ×@Đ,λ(x:List (Nat×Bool)×List (Nat×Bool))σ H'=>@Í/\(x8,σ=(o?,v4)/\(Ĉ,d,(j6,x.1))/\(ó,W,x.2)/\(fo,x.1,x.2)/\(rn,x.1.length)),2*(2*n-x.1.length)+@gX,(@oJ,@oJ),Rv sB @u @u @u @u @d (bU C w5 (_M.azQ S hi) @Â));rintro⟨R,Wl⟩;ext σ H6;calc Rw λs6 v4 N v6 v7 bu=>gX λd6 w6 I6 hWR=>?_;subst bu;dsimp only at d6 w6 I6 hWR;let yt:=_M.azP I6;rw[ao,w6.len,<-Ð,W,(Ý,hy),@bG];rw[dQ];cases BQ:Wl.getLast? with
  |none=>rw[k4];subst e;calc@Ŵ;rw[s,<-Ð,d,d6,λp ps hp hpd=>?_];let s7:=(ä,@Ķ,H6,hp);let{U,hR}:=apI hpd;let fo:@b!=@ml:=(jR,hR);calc(Ã,p,ps,@vC,aq,λq m=>(dw,U q m),(aJ,λG D ME aPW hD=>?_));let s8:=(Ŗ,@ob,s7,hD);let hpR:(G.map @vC).Perm R:=(d3,ME.map @vC,hR);let{o1,o2}:=_M.azO I6.nodup I6.lt;rw[È,G.map @vC,@N',_M.alI (hpR.trans o1) aPW (hpR.nodup_iff.2 I6.nodup) o2];calc q0 _ D R (s6.trans s8) I6 ?_;rw[<-e2];show vn G aq (apJ λq m=>s8 _ _ (U q (ME.mem_iff.1 m)))
  |some x=>
   rw[g'];calc b9 @bw @zG;calc Fj w6.pop (λJz t yG ahf ht w7 ht7=>?_);calc(n2,∃(R' T:@Đ),2*(2*n-@rv)+@rw<2*(2*n-@ml)+(bl,g,x)/\@Í/\(x8,σ'=(o?,v4)/\@ag2/\@agD/\(fo,R',T)/\@rw<=@rv));.ext σ' H';calc qA λR' T hm a1 u4 u5=>jt λu6 u7 bH X M I a5=>?_;subst bH;show aHP _ hm (R',T) @d a1 u4 (Ã,u5,u6,u7,X,M,⟨I,a5⟩)
   rw[s];simp at hWR;calc(Ą,@Yp,CO W Jz @ab @d @d yG ahf ?_);let s7:(iv,H6,W,Jz.dropLast):=dA s6 hWH;let d7:(ř,H6,W,Jz.dropLast,d)=some (j6,R):=(C,dW,d6);rw[e_,W,Jz.dropLast];let hx:=I6.lt x (I6.wait x @A);calc(Ĳ,l,(dw,za),?_);apply(a8,λk σ H'=>@Í/\(Ĉ,t,@c_)/\∃(R' T:@Đ)(N v6 v7:@Ñ),@rv+@bh=@rw+@ml/\@ml<=@rv/\σ=(o?,(T,t))/\@ag2/\@agD/\wx n i S x k R' T,(Ń,l,@ŵ,Pz,jI s7 ht7 R g N v6 (iu v7 @e @Â @d d7 w7 I6.pop),λk σ H' _ h=>(cl,za)))
   .ext k y σ H8 hk;calc(BR,λu7 b_ Sz cb d8 w8 r=>?_);subst cb;rw[P];obtain⟨z,hzk,rfl⟩:∃z,(cu,zs,z)/\y=@br:=by rw[bB]at hk;cases e:zs[k]? with|none=>rw[gA]|some z=>rw[e]at hk;show(Ñ,z,(cM hk).symm)
    rw[P,<-Ħ,hzk];let f:(cu,S,z.2):=(uQ,hzk);let HZ:=v z.2 (eD f);rw[x,(zc z mz).1.same s8,@o!];let qa:x.1<z.2.length:=(hl,HZ.len);rw[x,uA.get' (i:=x.1) (x:=at_ z.2 x.1) (ug,qa),@Ic,<-Õ,t,(m?,c,(ac,z.1,(Ø,@TI,(fY,x.1,vM))))];calc(Ĭ,pp,(AA,@T!,(ac,pp,(f0,@T!,t,(m?,c,(Ĩ,(CZ,λtt htt=>?_)))))));let aPZ:((o,aD (l_,z.2))+(o,@nc))%2=(o,@av2):=by rw[<-_M.azR];simp[*]
    dsimp only;rw[aPZ];let s9:=(ö,@AG,H8,htt);let u:ah H8 tt @AG tt=some @TE:=aq;generalize ah H8 tt @AG=H9 at*;let d9:=(dL,d8);rw[Ï,(Ğ,d,.inr (cj @vB (gb @hi) tt (.inl d9) @d u @d),@Ą)];rw[apG];by_cases dM:@hi∈R';.rw[bN dM];rw[ċ,<-s];show jI @H4 @abK R' T _ _ (iu _ b_ Sz @d d9 @If (r.old f dM))
    .rw[dE dM];calc@hT;rw[s];let M9:=r.add v hi f dM;rw[g?];let sK:(nj R').length<bq:=by delta nj;rw[aw];show@ĳ
     rw[Ï,(ē,d,.inr (cj @vB (gb @hi) tt d9 @d u (ć,sK))),<-s];let aP1:jU @vB @VD @c'=nj @B2:=by rw[QE _ (Dt,@vB,@VD,(d,apG,dE dM))];delta nj;rw[bF];rfl
     rw[s];rw[aP1];let w9:=@If;let Tk:(Ÿ,H9 d):=(ā,d9);let Tj:Mv @zb W T:=w9.updO dW.symm Tk;let t10:(FN,tt,@TE):=(C,(λe=>by rw[e,d9]at u;cases u),u);let O:(FN,t,@c_):=(C,(λe=>by rw[e,d8]at c;cases c),@abK);let Jk:af H @zb:=dA @H4 hd;let d10:=aq (H:=H9) (a:=d) (o:=@Cs);generalize@zb=MV at*;rw[Æ,Tj.more t10,λyw Ge aP4 NP=>?_,<-s];let Ti:(ĕ,@rw):=by let hf9:=_M.aar M9;simp at hf9;omega
     rw[Ý,Ge,(Ŏ,W,yw,_,Rz @d Ge (is,aP4,Ti) (dA Jk hWH) (C,(λe=>by rw[e,Ge]at O;cases O),O) @B2 (bO (T++[@hi]) _ _ _ @ŝ @ŝ (hF,(C,dW,d10),NP,M9)))]
   .ext σ H8;calc(BR,λu7 b_ Sz cB d8 w8 r=>?_);subst cB;rw[s];rw[aw,jy]at r;rw[g?];calc wQ R' T ?_ s8 _ _ (gn,d8,w8,r.fin,@e);rw[eM,xu];omega
abbrev aet:bi:=(iE,0)
def Mp:(c7,["self","moves","size","place","move"],"moves",aet):=@E
def  RO[j]:Sp:=λvs H Q _=>∃(p dx l:aa)(S:@È)(n:Nat),(ě,@ē,@lH,@aeN,S≠[],@æ/\0<n/\n<=8/\∀(H':Hp)(u f:aa)(ds:@Ë)(U:@ĕ)(F:@È),@abL->(ë,(dx,S,[]),@lM,@ŕ))
def  apL:=@λ{I W p2 p3 p4 p5}G j D B n z J F M N O a r=>@id (@RO I W p2 p3 p4 p5) ⟨G,j,D,B,n,z,J,F,M,N,O,a,r⟩
def aHQ(F:(dZ,"__init__","Group.__init__",aet))[aV][Ĝ](aP7:(ů,"enter",(ĸ,"move"),3,@V')):(bO,4,f0,@axp,RO K C):=by
 calc(e,Mp,@H);.clear h;calc gQ λp dx l S n aW _=>?_;subst aW;rfl
 .clear h;calc gQ λp dx l S n bf=>lW λhp hl aP8 v h0 hn q0=>?_;subst bf;rw[cB,<-Ď,hl,@Ie,<-kC,<-ms,(by cases zs with|nil=>rw[Ò,zb.symm,aP8]|cons z zs=>rw[ć,z])];let HZ:@ak1:=λz mz=>v z.2 @aha;rw[x,(zc u @oU).1,λps0 aP9 aP_=>?_,<-w,<-Û,Mp.nd,(Ĥ,@cO),(ü,(ŵ,"place",3,Mp.nd,(jI,@R),3,Mp.nd,anw ny @acG (ð,vJ,@R))),(þ,@cV,(aC,@K,4,Mp.nd,aA (dh,aP7,@Ô))),<-í,(Ļ,aP),@Ũ,@Ħ,@ka,<-s];calc(Ĭ,l,(cG,ak.of za,@Ll,u.1,(Ø,@d,(Ý,aP9))));rw[aw,aP_.len,(HZ u @oU).len];calc(dJ,@ö,@Ę);apply aa6 (te:=λσ H Q=>(rS,aaN (Ec,3) σ @aaF λy H1=>Qn @BM [] E0 (zK (E1 2) A9) σ H1 @asU)) (lo:=0) (n:=@jF) (LN,∃ds:@Ë,(ł,@im)/\@g3=i/\ds.Nodup/\(FI,H')/\∀d∈ds,@vY) (aHN @EO ([]) aq @d Ul (λj d h=>@ù) @dx) ?_ ?_
  .ext i H1 hi;calc@Wd;rw[cc,<-Ì,@d];simp only[ni,ku];calc λd hd=>(lC,@o9);let s2:=(ö,@dr,H1,hd);let d2:=(il,d,@dr);rw[Ů,d,@dr,<-bT,@aaE,ht];let t3:=(dV,t,@aaE);generalize ah H2 t (gx,@awS)=H3 at*;calc(Dd,λH4 N s4 _ m4=>?_);let vS:=@cP;let d4:=vS _ _ d2;calc(ű,t,@r3,?_,d4,?_);rw[Ú,@aaq,ajD];let BN:@X?:=s2.trans vS;let dD:D≠d:=(CO,hd);let nmd:(ue,H4,a≠d):=(nQ,d4);let Tk:(Ÿ,H4 d):=@ZJ;let nr:=(dM,@D4);let D5:(á,ah H4 d @au1 D,@im):=(C,dD,BN _ _ e1);let hds:d∉ds:=λm=>by let{j,hj,e}:=oC m;rw[x,e4 j d @abE,@ld];rw[hd]at G;cases G
   let T5:∀j d',(Ë,ds,d')->TabAt @xg d' [(@fx,@Ň)]:=λj d' h=>((e4 j d' h).same BN).updO (λe=>hds (Ņ,eD h)) Tk nmd;let N5:TabAt @xg d [(@Ý,@Ň)]:=(nV,[(N,(@Ý,@Ň))],m4.updO (nmd _ _ m4 nr) Tk,nr);let hdH:@vY:=s1.free hd;let s5:af H @xg:=dA (s1.trans BN) hdH;generalize@xg=H5 at*;let aQa:(ue,H5,@jE):=λa h m aQ q=>by clear m;rw[E,@o!];rw[q,D5]at dG;let e6:=(dW,dG);cases h with|nil=>show aQ @d|cons x h=>rw[x,uA.get' (i:=0) (x:=x) @d,λq6 hq6 e7=>?_,<-dB,e6,<-gx,hq6];cases R:ds[0]? with|none=>rw[R]at e0;cases e0|some d0=>rw[R]at e0;let e8:d0=q6:=@H!;rw[x,T5 0 d0 R,@ld];rw[e8,e7]at G;cases G
   let ntD:(Ÿ,H5 D):=(ā,D5);let I:∀{d' l'},TabAt H5 d' l'->TabAt (Ù,H5,D,(œ,@im,d)) d' l':=λ{d' l'}t=>t.updO (λe=>by clear t;rw[E,@ld];rw[e,D5]at G;cases G) ntD aQa;calc Q1 _ D5 (qZ,e2) @Yw (ds++[d]) @Ka (bU (by simp[e2]) ?_ (λj d' hj=>?_) (λd' m=>?_));.rw[Gk];calc aM e3 @A @RF;rw[dt.1 hb]at e;show hds @J?
   .rcases Eb j ds.length with hh|hh|hh;.rw[aiB hh]at hj;show I (T5 j d' hj)
    .rw[xp @C,hh,J1]at hj;cases hj;rw[hh,e2];show I N5
    .rw[xp @e,qg @ŝ]at hj;cases hj
   .rcases bX.1 m with h|h;.show e5 d' h
    rw[þ,h,hdH]
  ext H1;calc@Wd;rw[(@ya)]at e2;rw[bx];calc(ob,T.und);rw[s];let pD:@py:=(CM,hD);let D2:(á,(b6,H1,@l6,D),@im):=(C,pD.symm,e1);let cP:=(il,p,(Ð,@l6));let T2:(FI,(g?,@l6)):=λj d hj=>(e4 j d hj).updO (λe=>by rw[x,e4 j d hj,@ld];rw[e,O]at G;cases G) (ā,O) (nQ,O);rw[ml,@l6];let f2:∀b,(b6,H1,@l6,b)=@u->@ŋ:=λb h=>s1.free (j7 h).1;rw[g6,@l6,<-s,<-Ó,λf hf=>?_,<-fT,hf];let M:=(cD,H2,f);let iL:=@Js;let hfH:=f2 f hf;let D3:=(Í,D2);let T3:=λj d hj=>(T2 j d hj).same s3;let k3:(pv,(ř,H2,f,[],b)):=λb o h hb=>@aq6;rw[aa,f,[]];calc(aI,iL,T.fnd,1);rw[s];let pf:p≠f:=λe=>by rw[<-e,cP]at hf;cases hf
  let c:=(mx,p,(Ð,@p?));let R4:pX C (L?,@p?) p D f ds @We []:=by calc{⟨dx,aq⟩,RM (C,pD.symm,D3) (by rw[e2];simp[_M.start]) e3 (λj d hj=>?_),eX.nil (C,pf.symm,M)};let FO:j<n:=(bE,e2,hj);rw[_M.zC FO];apply(T3 j d hj).updO (λe=>by rw[x,T3 j d hj,@ld];rw[e,iL]at G;cases G) (ā,iL) (nQ,iL)
  let k4:(hY,H3,@p?):=(fr,k3 b o h hb);rw[s];rw[(bD,ck "found" (V.ref f) (ck "undoing" (V.ref D) []),@p?)];rw[g5,@p?,<-s];let X:(x9,(bo,b)->@bz):=@alq;let npt:(x9,(ŧ,@a4)->@bz):=@alq;let W:∀(b:aa)(o:HO),@co->¬yi f ds b:=λb o h hb=>by rcases hb with e|e;rw[Ŀ,hfH,<-ī,e5 b e]
  let r:∀H',@aqK->(Û,l,@ŵ)/\@UX:=by ext H' k;let kk:(bZ,@bz,@co,@jo):=λb o hb h=>k b o @aqc @z';rw[Á,kk _ _ (X _ _ za) za,λz mz=>(zc z mz).1.keep (d:=p) (λxs q=>X _ _ q @d) (λxs q=>npt _ _ q @d) kk]
  calc(Ĳ,l,(r H4 @V0).1,?_);calc(fy,∃(v4:@Ñ)(U:@ĕ)(F:@È),σ=[@bM,@ac,@bF,@u,v4]/\pX C H' p D f ds U F/\(dx,@Wf,[])/\@aqK,l,@ŵ,(Ã,@u,@We,[],R4,_M.azG n S,@V0),λi σ H' _=>dF λ_ _ _ _ _ _ k=>ak.of (r H' k).1);.ext i y σ H5 hi;calc dF λv4 U F bu J I5 k5=>?_;subst bu;rw[P];obtain⟨z,DQ,rfl⟩:∃z,@awm:=@awg;rw[P,<-Ħ,DQ];let hSi:(lw,S):=(uQ,DQ);rw[g!];calc(jh,DZ,(ez,An,p,D,dZ f z.1 ds U F S (Ã,@Wf,z.2,n,J,(r H5 k5).2 z mz,im h0 hn v I5 (eD hSi) (λH6 U' F' R6 I6 k6=>?_))));rw[s];calc(Ã,_,U',F',R6,?_,k5.tr k6);rw[uQ,hSi];show I6
  .ext σ H5;calc dF λv4 U F bH J I5 k5=>?_;subst bH;rw[s];rw[aw,jy,iQ]at I5;show q0 H5 D f ds U F J I5 λb o h hb=>k5 b o @aqc @z'
def  jK(r t c:aa):@Ŷ:=[("row",@m9),("told",@ab),(aS,"cuts_by_size",c)]
structure kS[j]:@v where
 cl:@b1
 row:(ß,"row")
 told:(ß,"told")
 cuts:(ß,"cuts_by_size")
def  Mq:@Qo->@À|none=>[]|some q=>@jx
def  RQ:@Qo->Nat|none=>0|some q=>q.length
def  Bm(zs:@XQ):@ÿ:=@adH
def  Dh[i](c:aa):@v:=(fi,@Ea,(Ö,c,.dK @Ig)/\@HX/\∀z∈zs,ll H z.1 @b8/\RD @Ā @b8/\1<=@Ā/\@Ā<=6)
def  aeu:=@λ{I W}G j D r=>@id (@Dh I W) ⟨G,j,D,r⟩
def Dh.same[p]{c:aa}(h:@Mn)[m]:Dh H' c:=(qY,@C2,(FJ,@Ż,(e z m).1.same s))
def Dh.updO[a]{c D:aa}[À](h:@Mn)(aQ:c≠D)(ht:@e4)(hn:∀kvs,H D≠some @jy):Dh @ay c:=by clear h;rw[Ë,@C2];calc(FJ,@pY,(e z m).1.updO @F_ ht);rw[x,(e z m).1,@Ii];rw[q]at hy;show hn _ hy
structure qF[Û](d r t c:aa)[î](hs:@È):@v where
 ins:∃dx,@Zc
 row:(ã,r,@kx)
 told:eX H t hs
 cuts:@Mn
def qF.same[Ŕ]{d r t c:aa}{l:@À}[bP](R:@anQ)[m]:(dK,H',l,hs):=by let{{dx,a},b,e,f}:=R;show{{dx,@Ż},@v!,e.same s,@Wg}
def qF.re[Ņ]{r t:aa}{l:@À}(R:@anQ)[ĝ]{r' t':aa}{l':@À}{Aj:@È}(hr:(dQ,r',l'.map @é))(ht:eX H1 t' Aj):qF C (hm,jK r' t' c) d r' t' c l' Aj:=by let{{m,a},b,e,f}:=R;let a1:=@Ż;let f1:=@Wg;rw[aQ,f1];show{⟨dx,aq⟩,(C,(λq=>by rw[q,a1]at hr;cases hr),hr),ht.updI a1,f1.updO (λq=>by rw[q,a1]at hz;cases hz) @ZI @ZI}
structure FA[c](q:eG)(ws:@O!):@v where
 isRow:@Ø
 h0:0<n
 hn:@ï
 few:@v4->@lC
 four:@ab!
 wf:@uW
def  IJ[Ğ]:@v:=match S.row with|none=>@mM=[]|some q=>@zL
def  rF[Û](d c:aa)[Ğ]:@v:=∃r t,(dK,H,@Ij,@KQ)/\IJ S
def  IK:=@λ{I W p2 p3 p4}G j D r=>@id (@rF I W p2 p3 p4) ⟨G,j,D,r⟩
def rF.same[Ŕ]{d c:aa}{S:kL}(h:@iP)[m]:@abH:=let⟨r,t,R,O⟩:=h;(IK r t (R.same s) O)
def rF.opened[a](h:@iP)(hS:@wY):∃r t dx,@Zc/\(dK,H,@jx,@Dg)/\@zL:=by clear h;calc fb @Ik;rw[hS]at R;delta IJ at O;rw[hS]at O;rw[e?];show zq r t dx hd R O
def  Kd(d c:aa)[ļ]:@v:=∀b o,@co->b≠d->b≠c->(X,@jo)
abbrev Gives[h](d c:aa)[i](x:@ot)[û]:@v:=∀(H':Hp)(q:aa),rF C H' d c x.1->(ë,(Û,q,x.2.map @é),@afr,@ĥ)
def Gives.stay[a]{x:@ot}(g:@K!)(D:@iP){a:@À}(e:x=(S,a)){H1:Hp}{q:aa}[ĝ](U:(dQ,q,@awG)):@aaJ:=(ya,g H1 q (D.same s) U (λb o h _ _=>@tL))
def Gives.row{C d c:aa}[a]{S:kL}{x:@ot}[ü](g:@K!){r t:aa}{q0 q':eG}(R:@anR)(O:@anK){a:@À}(e:x=(l1,q',a))(nz:aJ @g' q'){H1 H2:Hp}{q r' dx:aa}[ĝ](N:(dQ,r',(Ų,q')))(s2:af (hm,jK r' t c) H2)(U:@ao7):@aal:=by subst e;let hl:q'.length=@g':=nz.len;calc(Ex,IK r' t ?_ ?_);rw[ğ,qF C H2 d r' t c (cg q') (jT,q'.length),hl,(Cy,N,R.told.same s),<-ğ,(qo,q'.length,q'),hl,{nz,@Ē,@ą,O.few,O.four,O.wf}]
def  l4[h](mk:@À->He)(b:(ú,@À)):Sp:=λvs H Q _=>∃(d c a:aa)(S:kL)(q:eG)(ns:@À),(a7,@Ş,@Î,@iP,@wY,@qs,b ns/\(hf,(cT,mk ns)))
def  uc[ā]:@v:=@afy
def  oq[ā]:@v:=@ó<=700/\∀z∈ns,0<=z/\z<=255
def kG:@HI=@Ì:=(u,g_,aw)
def Mr(h:(Ģ,decide @pl,@rP))[K][ů]:@tr=some @bx/\aJ n @bx/\@F2=ns:=by rw[eZ,cG]at h;rw[bD];let I:=_M.UO h2;rw[h1]at I;calc aM ?_ I @Wh;rw[_M.UN,aj (aM @e @C h2)]
def Ms(h:(A,(uk,@pl)))[Ğ](r:eG)[bS](f:@NI):Uz S r ns f=(Ū,2):=by
 delta Uz;rw[_M.UN];by_cases hc:@arU;.rw[aj hc];dsimp only;rw[ag];ext e;let:@vD=@ó:=(_M.UO hc.2.2).len;rw[hc.2.2,(@ky)]at h;cases h
 .rw[ag hc]
def RR[å](h:@abe)(I:@Ø)[bS][Ğ](f:@NI):Uz S r ns f=f q:=by delta Uz;rw[h];dsimp only;rw[aj (u,I.len,hl)]
def aHS[s](f:Nat->V)[O](hl:(Ź,x.cps.toList.length))[ě][aj](step:∀(i c:Nat)(H':Hp)(Q:VK),@aeG->@bs->(kk,f c)->(ky,(qI,@s6)))(hd:(f4,x.cps.toList.map f)):(pm,(LB x).stop i H,j H,(LB x).go i H,@Bx/\∀y H',(LB x).yld i H y H'->mw slot y @aG H' @B4):=by
 let hsz:x.cps.toList.length=@c4:=AI;rw[â,(o5,@c4-i,@c4,(x_,i)),(oU,@c4)];ext i m H;calc@Og;subst aW;rw[bQ,@c4];.apply(bg,bK,(vu,(x_,@Q)),(vt,@c4),@oc);clear y;calc Cy λbf c hc bu=>?_;subst bf;subst bu;let rJ:@aeG:=(lt,G4);rw[ř];simp only[ni,ku];calc step i c _ _ rJ hs (h7,hm,@o4);rw[đ,f_,@l2];.rw[aq,_M.tK f rJ]
 .rw[ę,i,@c4];subst e;calc(v',@Â);rw[hm,<-hsz,iQ]
abbrev aev:bi:=top 129
def aew:(Õ,["number","digit"],"number",aev):=@E
def  aex:Sp:=λvs H Q _=>∃k:Nat,vs=[@eU]/\k<@kT/\∀(H':Hp)(q:aa),@Í->(Û,q,(mA,@Wi))->(ĕ,(jo @Wi).length)->Q @ĥ H'
def aHT:∀(m k:Nat),k<10^@ü->(Hf k).length<=@ü:=by
 ext z_;cases z_ with
 |zero=>ext k h;rw[_M.Po @Ÿ];simp
 |succ m M=>
  ext k h;by_cases hk:k<10;.rw[_M.Po hk];simp
  .let a:@N0<10^@ü:=by rw[Gq]at h;show aiE (d,B0,h)
   let ih:=M @N0 a;rw[ę,k,10*@N0+k%10];rw[e,_M.akp @e @e,eM];simp;show ih
def aHU[f](h:k<@kT):(toString k).toList.length<=100:=by let:=aHT 99 k h;delta Hf axd at this;rw[eH]
def aHV(F:(h,"in_decimal","in_decimal",aev))[g]:(ę,"number",aex):=by
 calc(e,aew,@H);.clear h;calc@ais;subst bH;rfl
 .clear h;calc cV λk cb hk q0=>?_;subst cb;let a:((@Tu)).cps.toList=(toString k).toList.map aWW:=(Q,Str.ofString_eq_toList);let b_:=aHU hk;rw[w,<-cN,"digit",aew.nd,aCM (jE,aBa,B.str,boot_str,@Ð),aew.nd,(cI,aBc,B.ord,boot_ord,@K),<-s];calc aHP _ @d @ë @d (_M.aAk hk) _ (Ì,@Ę);calc aHS (x:=@Tu) (λc=>(ď,c)) (tA,a,aw) hD @ę (λi c H' Q _ hs q=>?_) @vs;.show(Ŭ,@s6,@d,@ao)
  .rw[a]at h1;calc q0 H1 D s1 ?_ ?_;.rw[h1];delta jo Hf axd;rw[b6,b6,b6];rfl
   .delta jo Hf axd;rw[aw,aw];omega
abbrev aey:bi:=top 131
def aHW:(a1,aey):=@E
def yj[a](ha:(ã,a,@bv))(hb:(ã,b,@Ŀ))(hl:(Ź,@ó))(h:∀H' p,(JC,(lo,0,ns))):aaX @Î @î H Q:=E9 a b _ _ @d @d ha hb (dO,(dy,(yh,1+@ó<=100001))) (λp hp=>h _ p @tV aq)
def aHX(F:(h,"tell_row","tell_row",aey))(T:@ě):(aL,1,λ_=>.row,@eu):=by
 calc(e,aHW,@H);.clear h;calc(ė,@Wj);subst cB;rfl
 .clear h;calc(Ę,λcZ D hS ha _ g=>?_);subst cZ;rw[ē,<-w,<-Ñ,@w0,<-s,<-Á,@cM,@da,<-cI,<-ĥ,yj aq @Eb (by rw[kG];let:=O.hn;omega) λH2 p s2 h2=>?_];show(tH,@bC,h2)
abbrev aez:bi:=top 140
def aHY:(a1,aez):=@E
def aHZ(F:(h,"count","count",aez))[Ģ](b:@aq_)(e:@arb):(DX,.count):=by
 calc(e,aHY,@H);.clear h;calc(ė,λd_ _=>?_);subst d_;rfl
 .clear h;calc(Ę,λfz D hS ha _ g=>?_);subst fz;calc@bB;rw[w,<-Ñ,(LQ,@amm),<-s,<-Á,@cM,@da,<-cI,<-gw,<-c',<-ĥ,@aao,<-Ù];calc Q1 @Ì @d @Ē @ą _ @d {@alr,λH2 p s2 h2 hl=>?_};calc yj @Za h2 @e @fL;show(tH,@fY,h3)
def fw:@II<=bq:=@Ó
def sI:(Î,2)<=bq:=@Ó
abbrev aeA:bi:=top 137
def aH0:(a1,aeA):=@E
def aH1(F:(h,"can","can",aeA))[Q][aI]:(uq,.can):=by
 calc(e,aH0,@H);.clear h;calc@J6;subst aW;rfl
 .clear h;calc@J8;subst bf;rw[ē,<-w,<-Ĉ,@xG,(nU,@avS),<-ņ,<-s];calc@bf;rw[Ù];calc@ahV;rw[a6];.rw[hb];calc@Ŵ;calc f7 @au? @auR;rw[s,<-Ė,@Wk,(nv,@Ou),@Ac,<-cY];cases hc:uP q (gC ns)with|true=>rw[co,@bC]|false=>rw[cp,@bC]
  rw[cx]
abbrev aeB:bi:=top 138
def aH2:(a1,aeB):=@E
def apM[å](h:@abe)(I:@Ø)[bS][Ğ](f:@NI):a3u S r ns f=(V,@kV,f q,@iw):=RR h I hl S _
def aH3[ţ][Ħ][ů](hc:@W_):(Ź,(ajO r q).length):=by
 let a:∀(l:@h)(m o z:Nat),(aZz m o l z).length=@Ã+1:=by ext l;cases l with|nil=>ext m o z;rfl|cons i l ih=>ext m o z;exact(_::aZz m (m-i) l z).length=_;rw[eE,ih];rfl
 delta ajO;dsimp only;rw[a,eM,H.len];generalize W:(å,a3v n @xM)=G;let ym:G.length=n:=by
  rw[<-W];delta done;rw[aw];let:@xM<=n:=by split<;>omega
  show(x3,this)
 let h1:=_M.UV (Ku q) 0 G ym;let g:(Ku q).length=n:=by delta Ku;rw[aw,J.len]
 rw[g]at h1;let nu:(aZA G @aqN).length=n:=(u,_M.Pj,ym);generalize aZA G @aqN=r2 at*;let h2:=_M.akl (rY,@asr) r2 nu;let h3:(if@Ċ then[]else@asr).length<=n:=by
  split;.show@ð
  .rw[<-g];show@m1
 let h4:n*n<=2704:=JZ hn hn;let h5:=dw h2 (GD n h3);omega
def aH4(F:(h,"way","way",aeB))[Q][aI](b:(ki,"way_to",5,@UA)):(aL,6,.way,uc):=by
 calc(e,aH2,@H);.clear h;calc@J7;subst bu;rfl
 .clear h;calc@J9;subst bH;calc@bB;rw[w,<-Ī,@xG,@zt,(e2,(kh,b)),<-dI,<-s];calc@bf;rw[Ù,<-n7,<-a6]
  .rw[hb];rw[ċ];calc@x!;rw[s,<-Ė,@Wl,(V,@Ou,(bM,@als),@iw),(Hb,_),<-cY,<-ō];cases hc:uP q (gC ns)with
   |true=>
    rw[hc,(@Þ)]at ge;rw[ç,@ed,<-m5];let z3:=(kA,H2);rw[aa,z,@bv,<-ė,(Í,hd),(qh,(mu,@bq),(mu,ha),{_,(Í,ha)},@İ,dI I @Ē @ą hc @hV)];let N:(á,H4 p4,(mA,@als)):=by rw[h4];delta jo;rw[b6];rfl
    calc yj (Ě,z3) N (by delta jo;rw[aw];show aH3 @İ I @Ē @ą hc) @vv;show(y3,s4,s5,h5)
   |false=>rw[hc,(@ag)]at ge;show(e',gw)
  rw[cx]
abbrev aeC:bi:=top 141
def aH5:(a1,aeC):=@E
def aH6(F:(h,"rank","rank",aeC))[Q][aI](b:@aq_)(e:(È,"rank_of",["row"],3,@Us)):(uq,.rank):=by
 calc(e,aH5,@H);.clear h;calc@Z2;subst cb;rfl
 .clear h;calc@Z5;subst cB;rw[ē,<-w,<-Ī,@xG,@zt,(Ay,e),<-dI,<-s];calc@bf;rw[Ù,<-n7,<-a6];.rw[hb];rw[ċ];calc@x!;rw[s,<-Ė,@Wm,(V,@Ou,(bM,Hf (aw7 @bx)),@iw),(Hb,_),<-cY,<-ō];cases hc:uP q (gC ns)with|true=>rw[hc,(@Þ)]at ge;rw[ç,@ed,<-m5];let z3:=(kA,H2);rw[aa,z,@bv];calc(Ŏ,a,@bx,@Ì,dI (d,e3,(mu,ha)) I @Ē @ą @vz);calc(Ą,TJ (_M.aAj I @Ē) @alr,λH5 p5 s5 h5 hl=>?_);calc yj ((s4.trans s5) _ _ z3) h5 @e @UV;show(y3,@hU,s6,h6)|false=>rw[hc,(@ag)]at ge;show(e',gw)
  rw[cx]
abbrev aeD:bi:=top 139
def aH7:(a1,aeD):=@E
def aH8(F:(h,"walk","walk",aeD))[Q](l:(JH,"is_way",@UC))(j:(da,"walked","way",3,@UE)):(aL,4,.walk,uc):=by
 calc(e,aH7,@H);.clear h;calc(ė,@tE);subst cZ;rfl
 .clear h;calc(Ę,@D6);subst d_;calc@bB;rw[w,<-Ī,(jQ,(gG,l),G.WRONG_LIST),(yq,j),@w0,<-cU,<-s];calc@bf;rw[Ù];calc(v!,hok);let Ng:(aN,@agf,¬@asO):=by
   delta LR;rw[É,(y7,(Ó,z,@sS)),@Ft,by congr 1;funext z;rw[Bool.decide_and];rfl];rw[e1];cases fU:(ns.all λz=>decide (0<=z/\z<dU q.length))with
   |false=>simp
   |true=>
    rw[aZv,AA,AE,oK,Bool.and_eq_false_iff,oK,oK];constructor
    .rintro⟨h1,h2⟩(h|h|⟨h3,h4⟩);.show h1 (Q,GB.1 h)
     rw[ò];.show h2.elim (λz=>z h3) (λz=>z h4)
    .ext h;rw[Ì,λe=>h (.inl (Q,rS.1 e))];by_cases h3:@Ì=1;rw[Ç,λh4=>h (Ĕ,⟨h3,h4⟩),<-Ä,h3]
  by_cases hb:@agf=@o
  .rw[hb];calc@Ŵ;rw[s];let hn:=Ng.1 hb;rw[Ė,@Il,(l1,@zE,0::cg @zE),(cp,@nb,hn)];let fU:∀z∈ns,0<=z/\z<@sS:=by
    ext z hz;let h1:@Ft=@o:=by cases hh:(ns.all λz=>decide (0<=z/\z<dU q.length))with|true=>rfl|false=>rw[Ò,(l8,hh),hn]
    show cF (j_.1 h1 z hz)
   let aQ:@nU≠[]:=by
    ext e;let:ns=[]:=by simpa using e
    show hn (.inl @auV)
   let h2:1<(ns.map qU).length->2<=@Ì:=by ext h;rw[aw]at h;rcases ft q.length 2 with z|z;rw[Í,(Ĕ,{by let:=O.h0;omega,h}),hn];.show z
   let nE:∀k∈@nU,k<@Ì:=by ext k hk;rw[À,hk,λz hz fz=>?_];subst fz;let:=fU z hz;simp[*]
   let i:@Ŀ=(ns.map qU).map @ċ:=by rw[b6];rw[Î];ext z hz;let:=fU z hz;rw[k1];rw[av_ @i1]
   let v:=_M.Ht @Ē @nU nE h2;rw[gf,v,<-ĥ,(ç,r,a,q,@nU,(ò,@Ì,@nl,(K,i,@nG),@d,@Ē,dI @ą aQ nE h2 @axg)),<-pv,@zE]
  .rw[jA.2 hb];let hn:@asO:=aZm.1 λh=>hb (Ng.2 h);calc dg @ed;rw[bo,@Il,9,hn];show(c3,s1)
def aH9[e6]:∀(l:a3w)(s:α),(BL,l)=@u->∀y∈l,@afJ:=by
 ext z_;cases z_ with
 |nil=>ext _ _ y hy;show absurd hy uJ
 |cons x l M=>
  ext s h y hy;cases e:step s x.1 with
  |none=>rw[ż,@H9]
  |some s'=>
   rw[(@H_)]at h;rcases eJ.1 hy with q|q;.subst q;ext z;rw[z,hw]at e;cases e
   .show M s' h y q
def apN:∀(xs:@ŷ),(∀y∈@nX,@afJ)->@nX=@xe:=by ext z_;cases z_ with|nil=>rw[ġ]|cons x xs M=>ext h;let h1:@Lt:=h @sl (by exact _∈(_::_);show pw);let e:xX @it=(KU,@nX):=(cp,@z!,h1);rw[e]at h⊢;rw[M @Ae,cT]
def aeE{b:Nat}:(@ş="("->b=40)/\(@ş=")"->b=41)/\(@ş=";"->b=59):=by
 delta cA;by_cases h1:@gR;.rw[Ŗ,<-as,@ķ,@ķ,@ķ]
 rw[ag h1];rw[eP,<-f',h2,@ķ];rw[ag h2];by_cases h3:@qP;rw[f',h3,@ķ];rw[ag h3];by_cases h4:b=40;.rw[aj h4];rw[as,λ_=>h4,@ķ,@ķ]
 rw[ag h4];by_cases h5:b=41;.rw[aj h5];rw[as,@ķ,λ_=>h5,@ķ]
 rw[ag h5];by_cases h6:b=59;rw[f',h6,λ_=>h6];rw[ag h6];rw[as,@ķ,@ķ,@ķ]
def aH_[ň](hp:@bD)(h:@hF≠@b7):_M.EG @hF=@yC:=by
 let hk:=adH t p @ĉ;let D:@yC=@a8:=rfl;rw[Ŭ,<-fD];let b_:@e_=@lA:=@agz;let one:∀b,@ý≠"word"->@ý≠"number"->@ha=b->@a8=[b]:=by ext b h1 h2 hb;delta spelt;rw[abo h1 h2,(Ā,@ģ-p,1),abn hp,hb];rfl
 rw[jq]
 .rw[(@cT)]at hk;by_cases h2:@W9
  .rw[(@gq),h1]at hk;rw[wS hk];let i:@qV=rW @a8:=by exact(P,@ý,"number",(bF,@j'),_)=_;rw[ÿ,h1,h2]
   exact Hf @qV=_;rw[i,D];delta rD at h2;rw[eZ,pk,cG,cG,cG]at h2;calc _M.aym _ _ @d @Ź (λx hx=>an6 (anr h1 @bN hp x hx)) h2.2;rw[e]at b_;simp at b_;omega
  .rw[(@aQ)]at hk;show absurd (De @qe @qe @qe @qe @qe) h
 .rw[(@Ĺ)]at hk;by_cases h2:@ý="word";rw[Ě,qE (hk.trans h2)];.by_cases h3:@ý="(";rw[c7,zS (hk.trans h3),40,aeE.1 h3];.by_cases h4:@ý=")";rw[c7,Bj (hk.trans h4),41,aeE.2.1 h4];.by_cases h5:@ý=";";rw[c7,Fy (hk.trans h5),59,aeE.2.2 h5,<-Í,De (ft,h2) (ft,h1) (ft,h3) (ft,h4) (ft,h5),h]
def aIa[q]:(xF,@Lt->_M.EG @Ĳ=@bo):=by
 ext z_;cases z_ with
 |zero=>ext p x h _;show@Ŧ
 |succ f M=>
  ext p x h hw;rw[ij]at h;rw[bZ]
  .rw[ô,hp];rcases bX.1 h with h|h;.by_cases hb:@w3;rw[b',hb];.rw[ě,hb];rw[(@FO)]at hw⊢;show aH_ hp hw
   .show M _ x h hw
  rw[b!,hp]
def aIb[q]:∀(f p:Nat),((ij t f p).map @nM).sum<=@Ú-p:=by
 ext z_;cases z_ with
 |zero=>ext p;show@ð
 |succ f M=>
  ext p;rw[ij];rw[bZ]
  .rw[aj hp,bF,Gm];rw[ũ,@ĉ,<-Ŭ,<-fD];let hl:(iI t p @ĉ).spelt.length=@lA:=by exact@e_=_;delta spelt;rw[f_,jC];omega
   split;.simp;omega
   .simp[hl];omega
  rw[ą,hp,@ð]
def pR.toP[Ŏ][Ŗ]:@qR:=by cases h with|nil=>rw[ñ]|cons a _ ih=>clear a;calc g9 λdx sp a1 X M _=>?_;show .cons (abm dx sp a1 X M) ih
def Mt[F][q]:(oZ,@pP,∃w,axf n t=.ok w/\@ep/\@pP=0/\@MM=@fk/\a3x w=(Ee,@rE),axf n t,@pP):=by
 rw[e'];.left;rw[Ŵ];delta kC oj;rw[aj h6]
 .right;rw[Ŵ];let{h1,h2}:=_M.aAc hn (t:=t) h6;cases hr:axf n t with
  |error q=>rw[c!]
  |ok w=>
   left;calc f7 (h1 w hr) (λwf e hp=>?_);let F:kC n @Å t=(@abf,0):=e;calc(F_,w,@Eq);let Jb:(jQ @wK @D5 @ax).2=@u:=by let e2:=dS @Ĥ F;delta kC oj at e2;rw[ag h6]at e2;dsimp only at e2;cases U:(jQ (kg n false) (Mh n) (nJ t)).2 with|none=>rfl|some q=>rw[U]at e2;let e3:@jO=0:=e2;let:(dU q)=(v,q):=rfl;omega
   let a:=aH9 (_M.alQ n @Å) _ _ Jb;rw[anu]at a hp;rw[hp,apN _ a,b6];rw[Î];ext x hx;let fV:@Lt:=a @sl (d,apN _ a,@xE);show aIa t _ _ x hx fV
def Bn[a](ha:@qs)(h:@dJ):BL K H a @ct/\(nZ ns).length<=700:=by rw[Á,@aw_,by delta nZ;rw[aw];show h.1];rw[ha];congr 2;delta nZ;rw[b6];rw[Î];ext z hz;rw[k1];rw[av_ (h.2 z hz).1]
def Di[cW](h:@jr):(oR,@Cr):=@f0
def Dj[cW]{q:Nat}(h:@hC)(hx:x=@fj):(oR,(S,[@jO])):=@aq3
def Dk[cW]{w:α}(h:@hC)(hx:x=.ok w):(oR,f w):=@aq3
def Dm(q:Nat):(Ó,@jO,@a3)=@o:=bN (by let:dU q=(v,q):=rfl;omega)
abbrev aeF:bi:=top 132
def apO:(i1,aeF):=@E
def aIc[bT](F:(h,"act","act",aeF))[ŧ](G:@AW):(cH,.act @ct):=by
 calc(e,apO,@H);.clear h;calc(ė,@sQ);subst aW;rfl
 .clear h;calc(Ę,@avC);subst bf;calc@bB;rw[İ];dsimp only at g;rw[ħ,<-w,<-Û,apO.nd,@De,@ko,(ħ,(ü,@agK),@w0),<-í,@cf,_,@nA,@ka,<-s];calc@bf;rw[Ù,<-aj,@o?,<-ad];rcases Mt O.h0 tx with⟨h6,e⟩|⟨h6,⟨k,n,wf,e,W,ep⟩|⟨qq,n,e⟩⟩;rw[ae];.rw[e];calc@Ŵ;rw[s,<-aI,<-Ņ,.act tx,(l1,@xk,0::cg @xk),<-gf,hh,<-ĥ,@atW,<-pv,@xk]
  rw[af]
abbrev aeG:bi:=top 133
def apP:(i1,aeG):=@E
def aId{CR:aa}(F:(h,"shape","shape",aeG))[ŧ](b:(ĩ,"written","pieces",aoX CP))(M:(Hg,CP)):(cH,.shape @ct):=by
 calc(e,apP,@H);.clear h;calc@J7;subst bu;rfl
 .clear h;calc@J9;subst bH;rw[ē,<-İ];dsimp only at g;rw[ħ,<-w,<-fZ,apP.nd,(Ay,M),<-ch,<-s];calc@bf;rw[Ù,<-aj,@o?,<-ad];rcases Mt O.h0 tx with⟨h6,e⟩|⟨h6,⟨k,n,wf,e,W,ep⟩|⟨qq,n,e⟩⟩;rw[ae]
  .rw[e];calc@Ŵ;rw[s,<-aI,<-Ņ,.shape tx,(bM,@Im),<-Ŏ,<-ſ,@bv,hz,<-gu,<-c9];calc(zS,(aJ,λH3 j s3 G=>?_));clear G;rw[Ë,λps To fU _=>?_];let U:=aIb tx @mN 0;let y:=aoW tx @mN 0;calc(Ã,j,ps,ij tx @mN 0,To,fU.toP,(aJ,@hV));let N:(á,H4 p4,(mA,@Im)):=by rw[h4,<-ep];delta jo UB;rw[b6];rfl
   let nB:(Ź,(jo @Im).length):=by delta jo UB;rw[aw,ep];let:=RE ((ij tx @mN 0).map @rE);rw[b6,aw]at this;let e5:(FK,nO∘λx=>@bo)=(FK,@nM):=rfl;rw[e5]at this;omega
   calc yj ((s3.trans s4) _ _ z2) N nB @vv;show(fw,(s2.trans @cP).trans s5,h5)
  rw[af]
abbrev aeH:bi:=top 135
def apQ:(i1,aeH):=@E
def aIe[bT](F:(h,"order","order",aeH))[ŧ](b:(c8,"order_of","move",anO)):(cH,.order @ct):=by
 calc(e,apQ,@H);.clear h;calc@Z2;subst cb;rfl
 .clear h;calc@Z5;subst cB;calc@bB;rw[İ];dsimp only at g;rw[ħ,<-w,<-fZ,apQ.nd,(dk,(ð,b,@ap)),<-ch,<-s];calc@bf;rw[Ù,<-aj,@o?,<-ad];rcases Mt O.h0 tx with⟨h6,e⟩|⟨h6,⟨k,n,wf,e,W,ep⟩|⟨qq,n,e⟩⟩;rw[ae];.rw[e];calc@Ŵ;rw[s,<-aI,<-Ņ,.order tx,(qp,a3y @jQ)];show(L9,(Ã,mv,@jQ,@Ì,ik,hh,aM @ą sI (λz hz=>(c3,s1))))
  rw[af]
abbrev aeI:bi:=top 136
def apR:(i1,aeI):=@E
def aIf[bT](F:(h,"tame","tame",aeI))[ŧ](G:@AW)(BR:@qT):(cH,.tame @ct):=by
 calc(e,apR,@H);.clear h;calc(ė,@tE);subst cZ;rfl
 .clear h;calc(Ę,@D6);subst d_;calc@bB;rw[İ];dsimp only at g;rw[ħ,<-w,<-fZ,apR.nd,(nU,(bd,BR,@agK)),<-ch,<-s];calc@bf;rw[Ù,<-aj,@o?,<-ad];rcases Mt O.h0 tx with⟨h6,e⟩|⟨h6,⟨k,n,wf,e,W,ep⟩|⟨qq,n,e⟩⟩;rw[ae];.rw[e];calc@Ŵ;rw[s,<-aI,<-Ņ,.tame tx,(nv,aiV @jQ),<-gf,hh];rw[<-_M.aAn @İ hh]at ge;rw[ĥ,(Ak,@atW)];calc(ŉ,r,p2,q,@xk,@Ì,kl (ak.of (FH,@bq)) (ak.of kX) @İ b @Ē @ą @vt);let mf:=@fY;cases hc:uP q (done (du q.length k) q)with|true=>rw[co,mf]|false=>rw[cp,mf]
  rw[af]
abbrev aeJ:bi:=top 134
def RS:(kf,["deck","text","reading","answer","pair"],aeJ):=@E
def aIg[bT](F:(h,"hand","hand",aeJ))[ŧ]:(cH,.hand @ct):=by
 calc(e,RS,@H);.clear h;calc(ė,λfz _=>?_);subst fz;rfl
 .clear h;calc(Ę,λjM D hS ha hok g=>?_);subst jM;rw[ē,<-İ];dsimp only at g;rw[ħ,<-w,<-Û,RS.nd,@De,@ko,(ok,RS.nd,@m5,(d6,@ap,4,RS.nd,(z1,@Á,@Ô))),<-î,@m_,@Ħ,_,@adT,<-s];calc@bf;rw[Ù,<-aj,@o?,<-ad];rcases Mt O.h0 tx with⟨h6,e⟩|⟨h6,⟨k,n,wf,e,W,ep⟩|⟨qq,n,e⟩⟩;rw[ae]
  .rw[e];calc@Ŵ;rw[s,<-aI,<-Ņ,.hand tx,(bM,(du @Ì k).flatMap @sI)];generalize@jQ=M at*;rw[ă,ik,@o!,<-Ŏ];let s2:=(lP,H1);rw[Å,(CT,CR,l.cl,l.move,(bL,mv,(ġ,dG)))];let N:∀Lq:az,@arv:=by ext Lq;delta jo;rw[aw];rw[mw]
   apply(oS,@bs/\∃v4:@Ñ,(Hi,[@el,@Ě,@bM,(T,z),v4]),mv,s2,aq,(cl,dG))
   .ext j y σ H3 hj;calc Cy λs3 v4 qP h3=>?_;subst qP;rw[P,<-nO,<-h',<-P];let G:=hh.len;let hn:=O.hn;rw[Ý,h3,(ç,z,pp,_,_,(Ĵ,@d,h3,@Ys,?_,dA s3 hz,@dK))];.rw[aw,eE,N,f_];show@xs
    rw[o9]
   .ext σ H3;calc Cy λs3 v4 qQ h3=>?_;subst qQ;rw[s];rw[aw,uA.len,iQ]at h3;show(R,(fw,s1.trans s3,h3))
  rw[af]
def apS[c][q]:(oZ,@j2,∃x,axh n t=.ok x/\@alt/\@axo/\@j2=0/\(wg,@yt)/\(dH,ig @yt),axh n t,@j2):=by
 rw[e'];.left;rw[Ŵ];delta ln oj;rw[aj h6]
 .right;rw[Ŵ];let{h1,h2}:=_M.aAf (n:=n) (t:=t) h6;cases hr:axh n t with|error q=>rw[c!]|ok x=>left;calc aZ9 (h1 x hr) (λa1 X m e _ I a5=>?_);let F:ln n t=(m,0):=e;calc(ò,x,a1,X,@Eq,?_,?_);rw[Â,F,I,<-Â,F,a5]
def aIh[ţ]:((((bQ n).map @s?).zipIdx.filter @Ph).map λx=>V.int @aey)=(mA,(Kv r).filter λno=>@YJ):=by
 rw[É,((bQ n).map @s?).zipIdx,(d4,(@IV,i)),by
  refine xn;.simp[bQ]
  .ext i h1 h2;simp[bQ]];rw[È,@In,(d4,@Q),by delta Kv;rw[Œ]];rw[e1,e2,J7,J7];delta jo;rw[b6,b6,b6];let e3:(w4,(λx:Int×Nat=>@aym)∘λi=>(@IV,i))=(w4,(λno=>@YJ)∘λi=>@Q):=by refine TW;ext i _;exact decide (@IV%2=0)=(@avJ%2==0);rw[Ô];rw[cG,gy];omega
 rw[e3];rw[Î];ext i _;rfl
def aIi{l m:@h}(hm:@HU)(h:(jH,m,l)):@ń=l.eraseDups.length:=by
 let g:@rn:=hm.imp @awu;let hd:=_M.PL @Ã l @Â;calc Tx (g.length_le_of_subset @eT) (hd.length_le_of_subset @eT);.show J6.2 ((h c).1 hc)
 .show(h c).2 (J6.1 hc)
def aIj:∀(f:Nat)(l:@h)(i:Nat),(axi f l i).length<=f:=by
 ext f;cases f with
 |zero=>ext l i;show@Â
 |succ f ih=>
  ext l i;delta axi;dsimp only;split;.show@ð
  rw[Â,eE,avG (ih _ _)]
def aIk[e][å][Ő][ů](hi:i<Kw n):(Ź,(cg @aeu).length):=by
 rw[kG];let hl:=aIj r.length @In @YV;let hr:=H.len;let:(OP r i).length<=(axi r.length @In @YV).length:=by delta OP a3z;dsimp only;split;rw[đ,OH,@Â,<-đ,aiN,Nat.min_le_left _ _]
 omega
def aIl{r z:eG}{x:aZs}[Ő](hx:@alt)(h:@jP=some z):aJ n z:=by
 rcases _M.Vp H h0 hx with⟨e,_⟩|⟨q,e,J,_⟩;.rw[h]at e;cases e
 .rw[h]at e;cases e;show J
abbrev aeK:bi:=top 142
def aIm:(kf,["deck","text"],aeK):=@E
def aIn(F:(h,"nth","nth",aeK))[Q](j:@arc)(W:@ao_)(e:@arb)(k:(da,"row_of_rank","rank",4,@UU)):(Ju,5,.nth @ct):=by
 calc(e,aIm,@H);.clear h;calc@J6;subst aW;rfl
 .clear h;calc@J8;subst bf;rw[ē,<-İ];dsimp only at g;rw[ħ,<-aF,.nth tx,(FL,(Š,_M.AU tx=@o/\@lc<@pa,@lc)),(af,(FL,a3A @pa tx),_M.ayW @ą),<-w,<-Ĉ,(m3,(c6,(aP,j)),(ĝ,A8,@aa_,@amm),G.NO_SUCH_NUMBER),(e2,(bd,k,@aa_)),<-ņ,<-s];calc(č,a,tx,jz,(aJ,@nC));cases l:_M.AU tx with
  |false=>rw[ce];calc dg @ed;rw[(md,(by rw[l]at h;cases h.1))]at n;show(ke,n)
  |true=>
   rw[ċ];let b:∀x∈tx,48<=x:=by ext x hx;delta _M.AU at l;rw[eZ,eZ,j_]at l;let:=l.1.2 x hx;delta Uy at this;show(cF this).1
   calc(č,a,tx,s1.seq jz,fH b _ @d (ju,@fp,@aao));rw[Ù];calc(Db,@Ē,@fE);rw[ì];.rw[s];let Br:¬@lc<@pa:=@gN;rw[s];rw[(md,Br h.2)]at n;show@YB
   .rw[s];let bK:@lc<@pa:=by
     rcases ft (rW tx) (Kw q.length)with z|z;.show z
     rw[Í,bN (ſ,(o,@lc)>=(o,@pa)),hc]
    rw[s];rw[aj ⟨l,bK⟩]at n;rw[Ŏ,<-ſ,@bv,hz,<-gu,<-c9,<-ė,@Y?,(zS,Rv b r q @Ì @lc @d (im @abA @İ @Ē @ą bK @fL))];calc yj @lp h3 (aIk @İ @Ē @ą bK) @hV;show g.stay D n @Ox h4
abbrev aeL:bi:=top 144
def RT:(C7,"at","number",aeL):=@E
def aIo(F:(h,"fate","fate",aeL))[Ģ](m:@yr):(DX,.fate):=by
 calc(e,RT,@H);.clear h;calc@J7;subst bu;rfl
 .clear h;calc@J9;subst bH;rw[ē];let hn:=O.hn;rw[w,<-Ñ,(e2,(DU,"at","number",RT.nd,(jJ,(ð,m,@ç)),RT.nd,RT.nd,(eO,@Á),@Z!)),<-s,<-Ŏ,<-cI,<-gw,<-c',<-ĥ,(H_,@gw)];calc(Ğ,p2,@f3,@dH);calc QR @é ((bQ @Ì).map @abP) @Ph (λx=>.int @aey) (mL,_M.iR) ia @f3 @ļ (λi x H' Q _ hs k=>?_) (λi x H' Q _ _ k=>(į,@eC)) @DY;.rw[ş];rw[gR];show@eC
  .rw[aIh @İ]at h3;calc yj ((s2.trans s3) _ _ z1) h3 ?_ @hV;.delta jo;rw[aw];rw[eD];delta Kv;rw[aw,nI];omega
   .show(tH,(tb,@dG),h4)
abbrev aeM:bi:=top 145
def apT:(JP,"condition",aeM):=@E
def aIp{j:aa}(F:(h,"holds","holds",aeM))[Ģ][eS](G:@asG)(l:(g1,"lies_of",@Vi)):(cH,.asks @ct):=by
 calc(e,apT,@H);.clear h;calc(ė,@tD);subst cb;rfl
 .clear h;calc(Ę,@axf);subst cB;calc@bB;rw[İ];dsimp only at g;rw[ħ,<-w,<-Û,apT.nd,@aa5,@ko,(à,(nU,(ť,G,@ap,(ð,l,@ç)))),<-ch,<-s];calc@bf;rw[Ù];calc(gF,tx,jz,@js,@aaY);rw[Å,(k9,@bG)];rcases apS q.length tx with⟨h6,e⟩|⟨h6,⟨x,n,inr,aQ,e,zZ,lp⟩|⟨qq,n,e⟩⟩;rw[le];.rw[e];calc@Ŵ;rw[s,<-Ņ,.asks tx,(nv,@alu),<-Å,(p9,b.steps,(Ak,(H_,λH2 dd s2 nu=>?_)))];calc dZ st dd _ _ _ _ (ò,@alu,@alv,hos,nu,(wR,@alw),aM gc @alx @vt);let mf:=@fY;cases hc:axj q x with|true=>rw[co,mf]|false=>rw[cp,mf]
  rw[lf]
abbrev aeN:bi:=top 146
def aeO:(kf,["deck","text","condition","failing"],aeN):=@E
def aIq{j:aa}(F:(h,"sure","sure",aeN))[Q][eS](U:@aq8)(aQr:(da,"first_failing_row","steps",5,@Vy)):(cH,.sure @ct):=by
 calc(e,aeO,@H);.clear h;calc@Z3;subst cZ;rfl
 .clear h;calc@Z4;subst d_;rw[ē,<-İ];dsimp only at g;rw[ħ,<-w,<-Û,aeO.nd,@aa5,@ko,(iu,(C0,(Ĥ,(ð,U,@ap)),G.MOST_CARDS_NAMED),(æ,aeO.nd,(bd,aQr,@ap)),(đ,(mZ,@Á),(dk,aH)),(b4,(dk,aH),@Á))];apply let aP:TS:=_;let aR:TS:=_;let a6:TS:=@fz;let bI:TS:=@Ħ;(eh,_,(b3,@kW,_,@ami,@tK));rw[s];calc@bf;rw[Ù];calc(gF,tx,jz,@js,@aaY);rw[Å,(k9,@bG)];rcases apS q.length tx with⟨h6,e⟩|⟨h6,⟨x,n,inr,aQ,e,zZ,lp⟩|⟨qq,n,e⟩⟩;rw[le]
  .rw[e];calc@Ŵ;rw[s,<-Ņ,.sure tx,if axk<@le then(Ū,6)else match vV q x with|none=>(S,[0,1])|some z=>(S,0::0::cg z)];generalize(pY,(ln @Ì tx).1.steps,(ln @Ì tx).1.wait)=ss at*;let yI:∀c∈@ek,1<=c/\c<=@Ì:=λc hc=>@alw;rw[Å,(p9,b.steps,(Ã,st,ss,@Ì,fB,gc,aM @ą yI (λH2 p2 m s2 Dq qG h2=>?_)))];calc(i5,p2,h2);let kZ:=aIi Dq (Bk,lp c);rw[aw,lX,kZ];rw[ō];apply@í
   .rw[s];let h4:axk<@le:=by let:=@Ī;exact 4<_;omega
    rw[s];rw[aj h4]at ge;show(cM,(c3,gw))
   .rw[s];let h4:¬axk<@le:=(kE,by let h':4<@le:=h;exact(o,@le)>4;omega);rw[s];rw[ag h4]at ge;let JE:∀m':@h,m'.Nodup->(∀c∈m',c∈@ek)->m'.length<=4:=by ext m' ot kT;let:=ot.length_le_of_subset (l₂:=@CS) λc rJ=>J6.2 ((lp c).1 (kT c rJ));let N:@le<=4:=aiu h4;show dw this N
    let W:@Jd:=λe=>by cases S5:e9 x with|nil=>show aQ S5|cons c l=>let:=(lp c).2 (Ė,S5);rw[Ğ];cases this
    rw[ė,@n7,(R,(CT,j,b.cl,b.steps,dZ r st q ss @Ì x (Ĵ,ak.of (gw _ _ @bq),@İ,@Ē,@ą,@alv,kl hos gc yI W JE lp {λp=>@alx,@fL})))];let mf:=gw.trans s3;rw[Ð,p3,(Ý,h3),@cm];rw[aw,gR];cases hf:vV q x with
    |none=>rw[hf]at ge h3;show dg (j7,(c3,mf))
    |some v=>
     rw[hf]at ge h3;let h3:(hS,H3 p3,v):=h3;let IZ:=aIl @İ @Ē inr hf;let jy:@Uj=@Ì:=(u,kG,IZ.len);let hn:=O.hn;let h0:=O.h0;rw[ŷ,@Pl];.rw[s];exfalso;let h9:(v,@Uj)=0:=cF y;omega
     rw[s,<-Á,sI,@da];let s4:=(ä,[@aH,@aH],H3,hz);calc(É,(nz,z,p3,aq,@aap,λp5 An=>?_));rw[ğ,2+_<=_,aw,@uy];.show(fw,aL (mf.trans s4) An,aq)
  rw[lf]
def  IM[ā]:@v:=2<=@ó/\@ó<=4002/\∀z∈ns,@aoy
def apU[ĸ](h:@Ax=@o)[ů]:∃h w:Nat,a=h/\b=w/\0<h/\0<w/\h*w=n/\@ln/\w<=52/\@aqO=@o:=by
 delta C7 at h;rw[eZ,eZ,cG,cG,cG]at h;clear h;rw[Ü,@oa];let{x,rfl}:=GJ (Ò,0<=a);let{y,rfl}:=GJ (Ò,0<=b);let h4:x*y=n:=by exact_mod_cast h3
 let hx:0<x:=@e;let hy:0<y:=@e;let e1:x<=x*y:=Nat.le_mul_of_pos_right _ hy;let e2:y<=x*y:=aW1 _ hx;show(é,x,y,@d,hx,hy,(t6,h4,bN @ag5))
def apV[ĸ](h:(A,@Ax)):(A,@aqO):=by delta C7 at h;delta axl;rw[oK];rw[Ü,@oa];let h3:a*b=@ö:=h3;rw[(@uQ),bN h2,bN h3]at h;cases h
def  RU[Ğ](o:Option eA):@B':=match o with|none=>@JH|some [[q]]=>@aoL|some _=>@iw
def aIr[Ğ]{g:eA}(h:1<@bh\/1<@nP):RU S @PB=@iw:=by match g with|[]=>rw[ő]|[[]]=>rw[ő]|[[q]]=>rw[ő]|[x::y::l]=>rfl|[]::b::l=>rfl|[x]::b::l=>rfl|(x::y::l')::b::l=>rfl
def aIs[c9](h1:¬1<@bh)(h2:¬1<@nP):∃q,g=[[q]]:=by calc lT G.rect (λh w h0 U R=>?_);let hl:=R.len;let hh:=@hE;match g with|[]=>simp at hl;simp_all|[[]]=>simp at hh;simp_all|[[q]]=>rw[ć,q]|[x::y::l]=>simp at h2|a::b::l=>simp at h1
def aIt{w h:Nat}[å](hl:r.length=h*w):(eq,@w?):=by rw[Á,_M.aaj w h r,@dw];rw[_M.aak]at hx;rw[fn];subst aW;let hi:=@gn;rw[mZ];rw[Oc]at h_;rw[aw,f_,jC];omega
abbrev aeP:bi:=top 148
def aIu:(a1,aeP):=@E
def aIv(F:(h,"alike","alike",aeP))[Q](I:@atn)(b:(da,"alike_when_folded","width",2,@Vd)):(aL,3,λns=>@alz,IM):=by
 calc(e,aIu,@H);.clear h;calc(ė,@o_);subst bf;rfl
 .clear h;calc(Ę,@Io);subst bu;calc@bB;rw[oG,<-l?,<-fa,@aly,<-w,<-Ĉ,@atg,(e2,(bd,b,@cO)),<-ņ,<-s];calc(Eu,@BA);rw[Ù,<-oU];cases hb:C7 x y q.length with
  |false=>rw[bo,@aly,3,apV hb];show@Dj
  |true=>
   calc Fj @alA (λh w bH cb h0 U=>@akq);subst bH;subst cb;rw[Ė,.alike @tF @cQ,(bM,@adI),by exact@nb=_;rw[j!];rfl,<-ç,@ed,<-cI,<-gw,<-c',<-ĥ,(eP,zQ @d @d @nG @Fl r q (é,@Ì,w,@nl,@İ,@Ē,bU @ą U o0 @gw))];calc yj @Za (ns:=jo @adI) h2 ?_ @fL;.delta jo OQ;rw[aw];rw[eD];delta Kv;rw[aw,nI];let:=O.hn;omega
   .show(fw,@fY,h3)
abbrev aeQ:bi:=top 147
def apW:(jG,["deck","numbers","grid"],aeQ):=@E
def aIw(F:(h,"fold","fold",aeQ))[Q](I:@atn)(aQu:(È,"laid",["row","height","width"],1,@U7))(aQv:(È,"folded",["grid","folds"],5,@Vc)):(aL,6,λns=>@aqP,IM):=by
 calc(e,apW,@H);.clear h;calc(ė,@Wj);subst cB;rfl
 .clear h;calc(Ę,λcZ D hS ha hok g=>?_);subst cZ;calc@bB;rw[oG,<-l?];let DV:@afy:=by let:=hok.2.1;rw[eE,eE]at this;simp_all
  rw[fa,@aor,<-w,<-Ă,@atg,(ae,apW.nd,(ť,aQv,(bt,aQu,@ç,@cO,@cO),@ahl)),(iu,(ev,(mZ,@R),G.WRONG_LIST),(m3,(hw,@R),(hw,@wr),G.MORE_THAN_ONE_PILE),(ü,(cX,@wr)),@w0),<-f4,(DF,@kW),<-s];calc(Eu,@BA);rw[Ù,<-oU];cases hb:C7 x y q.length with
  |false=>rw[bo,@aor,3,apV hb];show@Dj
  |true=>
   calc Fj @alA (λh w d_ fz h0 U=>@akq);subst d_;subst fz;let GG:=_M.azs @İ h0 U hw;let fm:=_M.alx ns GG;rw[aF,@aos,RU S (match axm ns with|none=>none|some f=>@alB),by exact@nb=_;rw[j!];exact(match axm ns with|none=>@JH|some f=>match@alB with|none=>@JH|some [[q]]=>@aoL|some _=>@iw)=_;cases axm ns<;>rfl,<-Ė,@aos,RU S @zS,n.trans (dS (RU S) fm),<-ċ,<-s,<-ė,hd,(Ml,jI @fw @Fl r q h w (Ĵ,ak.of @bq,hw.symm,@ą,hh,o0,λH1 W s1 g1=>?_)),<-Õ,a,(tS,@nG)];let Nc:oW (lo,@tF,@cQ::ns) @sn @u=@Ŀ:=Ir _ 2;dsimp only;rw[Nc];rw[ſ,@Ŀ,cP];let g2:=g1.same @dl (ä,@Ŀ,H1,cP);let z2:=(ĉ,H1,p2,@Ŀ);rw[ķ,p2,@Ŀ];calc dZ W p2 _ @Ì h w (ò,ns,g2,ak.of z2,GG,@ą,kl (aIt hw.symm) h0 U hh o0 @e (λH3 p3 s3 g3=>?_));let u:=@dG;let GX:∀g',@zS=some g'->GoodG @Ì g':=by
    ext g' e;by_cases Na:@wM;.rw[aj Na]at e;cases e
    .rw[ag Na]at e;show _M.azq _ GG e
   generalize@zS=X at*;rw[be,g3.len (K:=K),<-è,p3,oy,@cm];rw[dQ,gR];cases X with
   |none=>show(e',u)
   |some g'=>
    let p:=GX g' @d;replace g3:vp H3 p3 g':=g3;replace dQ:@aD=@mO:=dQ;calc lT p.rect (λh' w' m SU R'=>?_);let J:=R'.len;let hgh:=R'.head m;rw[fz];.rw[s];exfalso;let h9:(v,@mO)=0:=@Ī;omega
    let hi0:0<@mO:=@C;calc zM (g3.ix (K:=K) hi0) (λJz pl SQ M_ _ To=>?_);rw[hF,To.len (K:=K)];let e0:g'[0]=g'.headD []:=by cases g' with|nil=>rw[Ò,hi0,@A]|cons a l=>rfl
    dsimp only[vf,ax,bZ];calc(bN,@LT,@LU);.rw[è,p3,oy,@bG];rw[dQ];show k
    .apply(Ĭ,p3,(cG,SQ,M_,pl,(u_,@Qz,@Ą)));rw[Tp,e0];show k
    by_cases hm:1<@mO\/1<@avD;.rw[(Dm,@LT,@LU)];rw[aIr S hm]at ge;show(e',u)
    .rw[lJ,@LT,@LU];let{q',rfl}:=aIs p (sA,@di) (sA,@uA);let b:=_M.azt p;calc zM (To.ix (K:=K) (i:=0) @A) (λys4 pq aQw aQx _ v=>?_);replace v:(hS,H3 pq,q'):=v;rw[ç,(Ĭ,p3,(cG,SQ,M_,pl,(Ŵ,aQw,aQx,(L2,@ahz)))),<-s,<-Ŏ];let s4:=(lP,(KW,@wu));let M:(h8,H3,@wu,@wu):=aq;let p3':(hS,ah H3 d (Ð,@wu) pq,q'):=(F3,@ahz);rw[ė,(Ě,M),(wm,(Ě,p3'),λH4 p4 s5 h4=>?_)];show g.row R O ge b u v @hU h4
abbrev aeR:bi:=(en,128,0)
def aIx:(iV,aeR):=@E
def  aeS[h]:Sp:=λvs H Q _=>∃(p dx:aa),(fZ,@lH,∀(H':Hp)(c:aa),rF C H' p c a3B->@ol->@lM->@axk)
def  aIy:=@λ{I W p2 p3 p4}G j D B r=>@id (@aeS I W p2 p3 p4) ⟨G,j,D,B,r⟩
def aIz(F:(dZ,"__init__","Deck.__init__",aeR))[Ģ]:(AF,@Wn):=by
 calc(e,aIx,@H);.clear h;calc fb λp dx jM _=>?_;subst jM;rfl
 .clear h;calc cw λp dx qP hp q0=>?_;subst qP;rw[w,<-Ă,@cV,@cV,aA (ü,Lz),<-ga,<-s,<-Ó,λr W=>?_,<-ea,W];let z1:=(cD,H,r);let d:r≠p:=λe=>by rw[e,hp]at W;cases W
  rw[ap,r,[],<-bx];calc(ob,@jj);rw[s];let z2:(ž,(b6,H1,@qL,p),@qL):=aq;let r2:(nD,H1,@qL,r):=(C,d,z1);rw[ml,@qL,<-g6,@qL,<-s,<-Ó,λt D=>?_,<-fT,D];let t3:=(cD,H2,t);let uA:t≠p:=λe=>by rw[e,z2]at D;cases D
  rw[aa,t,[]];let iL:=@lp;calc(aI,iL,@rx,1);rw[s];let j:(ž,(b6,H3,@ma,p),@ma):=aq;let I:(nD,H3,@ma,r):=(C,d,(Í,r2));let t4:(nD,H3,@ma,t):=(C,uA,t3);let k4:(hY,H3,@ma):=(fr,@aq6);rw[g5,@ma,<-s];calc@eT;let s5:=(ö,@ev,H4,hc);let c5:=(xV,c,@ev);let f:c≠p:=λe=>by rw[e,j]at hc;cases hc
  let hcH:@ol:=by cases U:H c with|none=>rfl|some o=>rw[k4 _ _ U f]at hc;cases hc
  generalize ah H4 c @ev=H5 at*;let An:=(ad,j);calc(aI,An,@ry,2);rw[s];calc q0 _ c (IK r t (ol,aq,?_) @d) hcH ?_;rw[å,d,(ad,I)];.show(z0,(C,uA,(ad,t4)))
  .show aeu ([]) (C,f,c5) Ul @axb
  .ext b o h hb;rw[(@ak)];show(ad,@z')
abbrev aeT:bi:=top 130
def aIA:(a1,aeT):=@E
def  apX[h]:Sp:=λvs H Q _=>∃(d c a:aa)(S:kL)(ns:@À),vs=[@Ş,@Î]/\@iP/\@qs/\(hf,@abU)
def aIB(F:(h,"load","load",aeT))[Q](k:(c8,"is_deck","numbers",@Ug)):(Â,3,["deck","numbers"],apX C):=by
 calc(e,aIA,@H);.clear h;calc gQ λd c a S ns qQ _=>?_;subst qQ;rfl
 .clear h;calc gQ λd c a S ns sR=>cy λD ha g=>?_;subst sR;calc jH @St @Ik;rw[e?,<-w,<-aT,(qq,(aP,k)),@gF,@cV,@abd,<-cJ,<-s];calc(č,a,ns,@fw,@nC);let e0:@tr=(Š,@arU,@bx):=_M.UN ns;let e:@abU=(v7,@tr):=rfl;rw[pB,decide (1<=@ó/\@n0)];.rw[hb];rw[eZ,cG]at hb;rw[aj (aM hb.1.1 hb.1.2 hb.2)]at e0;rw[e0]at e;let I:=_M.UO hb.2;let hl:@vD=@ó:=I.len;let et:@F2=ns:=@Wh;let xk:=@fp;let i:=(Ĺ,ha);calc dH (R,(bR,d,xk,aM @d? @jj (À,(je,3))));rw[s];let R2:qF C @Lk d a t c ns @KQ:=R.re s1 i (R.told.same s1);let z2:(h8,H1,@Dt,@Dt):=aq;let k2:Kd d c H @Lk:=λb o h hb _=>(jU,@fT);generalize@Lk=H2 at*;rw[s,<-Ó,λJ U=>?_,<-fT,U];let t3:=(cD,H2,J);rw[aa,J,[]];calc(zw,@lp);rw[s];let R4:qF C @NB d a J c ns []:=R2.re s3 (Í,R2.row) (z0,t3);let j:(h8,H3,@Du,@Du):=aq;let k4:Kd d c H @NB:=λb o h hb hc=>(jU,(Í,k2 b o h hb hc));generalize@NB=H4 at*;rw[s,<-ė,j,(b5,a,(Ý,R4.row),sI,@da)];rw[e]at g;let s5:=(ä,(yZ,@UD),H4,hz);calc g _ z (IK a J ?_ ?_) ?_ (λb o h hb hc=>(ad,(Hc,hc)));rw[ğ,qF C _ d a J c @F2 [],et,@V?,<-ğ,FA @vD @bx [],hl,{I,hb.1.1,hb.1.2,λh=>@LD,@ð,λw m=>nomatch m}];.rw[aq,aw];rw[ci,_,(aB,@aH,dU @vD)];rw[hl];rfl
  .rw[jA.2 hb];rw[(md,hb (Ç,eZ,cG,{{h.1,@š},@gU}))]at e0;rw[e0]at e;show dg (cM,(ke,e))
def aIC[F][q]:(oZ,@jN,∃ws,axn n t=.ok ws/\@uW/\@v4/\@jN=0/\@asv=@GK,axn n t,@jN):=by
 rw[e'];.left;rw[Ŵ];delta kC _M.oj;rw[aj h6]
 .right;rw[Ŵ];let{h1,h2}:=_M.aAd hn (t:=t) h6;cases hr:axn n t with|error q=>rw[c!]|ok ws=>left;calc E3 (h1 ws hr) (λwf wi w e1 e=>?_);let F:kC n @o t=(@agl,0):=e;calc(F_,ws,@ZN);rw[F,e1,bF];rfl
def Gives.words{C d c:aa}[a]{S:kL}{x:@ot}[ü](g:@K!){r t:aa}{q0:eG}(hS:@g_=some q0)(R:@anR)(O:@anK){a:@À}{ws:@O!}(e:x=(@Wo,a))(X:@g'<=8)(h4:@ab!)(wf:∀w∈ws,WF @g' w){H1 H2:Hp}{q t' dx:aa}[ĝ](m:eX H1 t' (sT,@g'))(s2:af (hm,jK r t' c) H2)(U:@ao7):@aal:=by subst e;calc(Ex,IK r t' ?_ ?_);rw[ğ,qF C H2 d r t' c @Ij (sT,@avB),hS,(Cy,(ą,@bq),m)];.exact IJ {@g_,ws};delta IJ;dsimp only;rw[hS];show{@İ,@Ē,@ą,λ_=>X,h4,wf}
def Mu{H H2:Hp}[U][ah](hd:(Á,dx))(k:(bZ,(X,(b6,ah H dx @GW,[],b)),@bz,H2 b)):@gB:=by ext b o h;let hb:@bz:=(ea,hp);let vI:b≠dx:=(ea,hd);show k b o (Ç,@ak,aF vI,h) hb
def aID{S:@È}(T:_M.jq n S U)[bj][o]:@Zg:=by
 by_cases hi:i<n
 .let dJ:=@l4;let kT:∀x∈(vh,i),x∈(bP n).flatMap @QQ:=by ext x hx;rw[fm];subst aW;let bK:=T.lt i y hi hy;rw[lI];rw[â,y.1.1,kt.2 bK];let{{a,b},z}:=y;induction b<;>simp
  let hl:=@k5;rw[aw]at hl;let e:((bP n).flatMap @QQ).length=2*n:=by rw[aiw];rw[oV];show@Q'
  omega
 .rw[eY,qg (c?,T.len)];simp
abbrev aeU:bi:=top 149
def apY:(i1,aeU):=@E
def aIE{CR:aa}(F:(h,"group","group",aeU))[Q](l:@lE)(b:(p_,"read_handlings",api K CR)):(cH,.group @ct):=by
 calc(e,apY,@H);.clear h;calc(ė,@o_);subst bf;rfl
 .clear h;calc(Ę,@Io);subst bu;calc@bB;rw[İ];dsimp only at g;rw[ħ,<-w,<-aU,(ae,apY.nd,(gG,b)),@ko,(m3,(fE,@bu,G.MOST_CARDS_FOR_GROUP),(fE,(Ĥ,@ap),G.MOST_TOLD),G.TOO_MANY),(ü,@ap),@abd,<-f4,@adT,<-s];calc@bf;rw[Ù,<-aj,λH1 p u mo mv v I J tm s1 hp x _=>?_,<-ad];rcases aIC O.h0 tx with⟨h6,e⟩|⟨h6,⟨ws,n,wf,j,e,W⟩|⟨qq,n,e⟩⟩;rw[ae]
  .rw[e];calc@Ŵ;rw[W]at x;rw[Ņ,.group tx,if@z? then(Ū,6)else(@Wo,[0,dU @d9]),<-be,x.len (K:=K),<-b2];dsimp only[vf,ax,bZ];calc(bN,@zp,@zq);.rw[ĥ,(i5,r,@Eb),<-Ù];show k
   .rw[Å,(jp,l.moves,(J0,mo,@avi))];rw[dQ];show k
   by_cases hm:(KZ,8,4);.rw[(Dm,@zp,@zq)];rw[aj (show@z? from hm)]at ge;show(e',s1)
   .rw[lJ,@zp,@zq];rw[(Bi,@z?)]at ge;calc dH (R,(jp,l.moves,(zw,@fp)));rw[s];let M:(h8,H1,@E0,@E0):=aq;let Nt:eX @ab6 mo (sT,@Ì):=x.updI @fp;rw[hF,Nt.len (K:=K)];rw[aw]at Tp;rw[bl,M,(ű,mo,N,@Qz,sI,@da)];calc g.words (H2:=(Ù,@ab6,z,(yZ,@rf))) hS R O ge @Ä @Ä wf s1 x (aL @ĩ hz) ?_;rw[aq,Tp];rfl
  rw[af]
abbrev aeV:bi:=top 150
def aIF:(a1,aeV):=@E
def aIG{e:aa}(F:(h,"size_of_group","size_of_group",aeV))[Q](i:@atk)(k:i_ P w K mg @ĝ e "size_of_all" @fB 1 (apD e)):(aL,6,λ_=>.size,@eu):=by
 calc(e,aIF,@H);.clear h;calc(ė,@auz);subst bH;rfl
 .clear h;calc(Ę,λcb D hS ha hok g=>?_);subst cb;calc@bB;rw[fx,<-b2,<-w,<-Ĉ,@zh,(dk,ID k @ž @apc),<-ņ,<-s,<-dZ];rw[dQ,gR];rw[fS,<-dX,.size];.rw[dr,<-Ė,.size,(qp,a3C @Oy),@z4];calc@Ji;rw[dK,<-s,<-gr,<-gp,λh hh=>by rw[À,hh,λw hw cB=>?_];subst cB;show@AA,<-bl,hd,@Wp];let M:af H (ah (ah H j @GW) p @aqj):=Mu m rL @Ip;calc(I2,R.told.same M);let s2:@gB:=@afg;let{l,cP}:=y.ins;rw[ho];let hsz:=_M.azB X v N.tab x hg;calc(Ã,p,l,_,cP,@d,dZ p u f0 ds U F0 (hF,y,aID N.tab X,λH3 s3=>(j7,?_)));calc(ef,ge,@dG,?_);rw[aq,<-hsz];rfl
abbrev aeW:bi:=top 151
def aIH:(a1,aeW):=@E
def aII{e:aa}(F:(h,"member","member",aeW))[Q](i:@atk)(W:i_ P w K mg @ĝ e "has" @D? 3 (apC e))(J:@l')(ahy:@arA):(aL,6,.member,uc):=by
 calc(e,aIH,@H);.clear h;calc@Z3;subst cZ;rfl
 .clear h;calc@Z4;subst d_;rw[ē,<-fx,<-b2,<-w,<-Ī,@zh,@xG,(nU,(gp,W,@apc,@abG)),<-dI,<-s,<-dZ];rw[dQ,gR];rw[fS,<-dX,@Iq]
  .rw[dr,<-aF,@Iq,Uz S q ns λq'=>(nv,(Cz,lM q q')),@z4];calc@Ji;rw[dK,<-s,<-gr,<-gp,λh hh=>by rw[À,hh,λw hw fz=>?_];subst fz;show@AA];calc@bf;rw[Ù];calc@ahV;rw[a6]
   .rw[hb];calc@x!;let ge:=n.trans @Ac;calc dH (R,(Ţ,d,dx,@fp,@rx,@Wp));let M:af H1 (ah (Ľ,j,@GW) p @aqj):=Mu m rL @Ip;calc(I2,(R.told.same s1).same M);let s2:@gB:=s1.trans @afg;let{l,cP}:=y.ins;rw[ho];calc(Ã,p,l,_,cP,@d,(R,(ju,@Y?,(zf,@abA,(pN,ha),@fL))));let k:=@alC;calc dZ p u f0 p3 ds U (â,F0,_,@xV,@Ì,y.same s3,dI h3 k @ą N.tab (λH4 s4=>@Ą));let V:(Cz,@xV)=(E,(jf,@xV),gY @Ì):=by calc f7 (_M.ajZ X v) (λA1 A2 A3=>?_);rw[Ô];delta axq ajQ;rw[gy,cG,_M.axK A1 A2 k,A3,<-_M.alE v N.tab x hg];show(iU,@gU,aM k (by simp[a3D]) h)
    rw[V]at ge;let BN:=@Ox;cases hc:decide (restOf U 0 (lM q (gC ns))=gY q.length)with|true=>rw[co,BN]|false=>rw[cp,BN]
   rw[pK,n.trans @avc]
def  okO[ā]:@v:=@Jh
def Hv(Lq:az):@arv:=by delta jo;rw[aw];rw[mw]
def aIJ[c](R:@Đ):(wv n R).length<=2*n:=by delta wv;calc(bs,?_);delta _M.signed;rw[aiw];rw[oV];show Ou @Q'
abbrev aeX:bi:=top 152
def IP:(jG,["deck","numbers","card","place","answer","pair"],aeX):=@E
def aIK(F:(h,"orbit","orbit",aeX))[Q](I:(an,"brought_to","moves","start",apK)):(aL,3,λns=>@Wq,okO):=by
 calc(e,IP,@H);.clear h;calc@J6;subst aW;rfl
 .clear h;calc@J8;subst bf;rw[ē];obtain⟨x,ns,rfl⟩:∃x l,ns=@eL:=by match ns,hok with|x::l,_=>show wk x l @d
  rw[fa,@Ir,<-fx,<-b2,<-w,<-č,@zh,(Č,(m3,(gM,@cO),(ĝ,lV,@cO,@bu),G.NO_CARD),(æ,@mP,(HJ,@mP,@mP,@cO)),(è,4,@mP,@m5,(d6,(bd,I,@Á),5,@mP,(z1,@Ô,@Ć)),(à,@Ô))),<-õ,@m_,@Ħ,(b3,_,@Nd,_,@Fk),<-s,<-dZ];rw[dQ,gR];rw[fS,<-dX,@Ir]
  .rw[dr,<-aF,@Ir,if@NF then(Ū,4)else(bM,(l',@Ì,(ES,(FM,@Ý),(FM,@pV)))),@z4];calc@Ji;rw[dK,<-gr];let hn:=O.hn;rw[gp,λh hh=>by rw[À,hh,λw hw bu=>?_];subst bu;show@AA];dsimp only[vf,ax,bZ];calc(bN,@Lj,@zk);.show(eP,(cG,@fw,@sE,_,(Ł,@Xn)))
   .apply(K!,(pl,(Ğ,r,@Yj,@fE)));rw[Ù];show k
   by_cases hm:x<1\/@sS<x;.rw[show(@Lj||@zk)=@o by rw[bw];show hm];rw[aj (show@NF from hm)]at n;show(Au,@ŗ)
   .rw[show(A,@Lj||@zk)by rw[AE,oK,oK];show(iU,hm @di,hm @uA)];rw[(Bi,@NF)]at n;let{no,rfl}:=GJ (Ò,0<=x);let b1:@bL:=@e;let b2:no<=@Ì:=@Ä;rw[aje]at n;rw[ç,(R,(pl,(gE,r,@bq,λJ hD=>?_)))];let agH:(ĺ,r,aw6 @aJ q):=(tY,ak.of (K:=K) @bq,g_,b6);calc(F9,q,agH);rw[Ľ];let{pl,pe}:=(k!,@İ);calc(Ů,u,(eP,(cG,@nG,@sE,J,(ŀ,_,@pA,@ih,im @d ?_ @JZ ?_ ?_ ?_))));.rw[j_];ext x hx;rw[ň,λc _ bH=>?_];subst bH;rfl
    rw[j9];.ext m z' hm hz;rw[jW];cases hz;rw[C1];calc dE @Ź;let:@pA=m:=(Cm,@İ);simp_all
    rw[Ŏ];let s2:=(lP,H1);rw[gu,<-c9,<-ō,<-bl,@n7,(ç,t,_,@pA,@Ì,im @d (R.told.same gw) v pl @ą (λH3 p3 W s3 I3 h3=>?_)),<-Ė,.orbit (v,no),(bM,(w3,@Ì,W)),(u,n,_M.azM (_M.azL v pl I3))];let hML:=aIJ @Ì W;generalize wv @Ì W=M at*;rw[ă,h3,@o!];calc(bL,p3,dG);calc(oS,(bZ,@XB,b≠z,@jo)/\∃N:@Ñ,(Hi,[@el,@Ě,@u,(ê,@pA),(T,z),N]),p3,@Ip,@lp,ak.of (h.1 _ _ dG @Ź));.rw[e,(@lp)]at dG;cases ps with|nil=>cases dG|cons p ps=>cases dG
    .ext j y σ H4 hj;calc Cy λs4 v4 cb h4=>?_;subst cb;rw[P,<-nO,<-h',<-P];let JA:pp≠z:=λe=>by rw[e,(@lp)]at ex;cases ex
     rw[Ý,h4,(ç,z,pp,_,_,(Ĵ,@d,h4,s4 _ _ ex JA,?_,(fr,s4 _ _ h hb),@dK))];.rw[aw,eE,Hv,f_];show@xs
     rw[o9]
    .ext σ H4;calc Cy λs4 v4 cB h4=>?_;subst cB;rw[s];rw[aw,uA.len,iQ]at h4;rw[Å,(fw,@Vf,h4)];calc s4 _ _ @Yu @Ź;rw[Ĵ];rw[(@fT)]at hz;cases hz
def RV[å](H:aJ 1 r):∃b,r=[⟨1,b⟩]:=by
 let hl:=H.len;match r,hl with
  |[c],_=>
   let:=H.nos;let h1:@aZ∈_M.bQ 1:=this.mem_iff.1 @A;rw[_M.kN]at h1;let{no,b}:=c;let:no=1:=by let:=h1.1;let:=h1.2;simp at*;omega
   show{b,by rw[Ã]}
def aIL[å]{K:je}[Î][Ħ](h6:@dR)(G:RD n K):@kV=@o->@oX/\(d5,@acc)/\∀w:@h,@apm->@apn->@K7:=by
 ext hc;by_cases h2:@õ;.let A:=G.all h2;let{U,C}:=(_M.alM H J h2 h6).1 hc;show aM A.nodup (λk hk=>_M.alP h2 H J A C hk) (λw hw wX=>_M.az6 H J h2 h6 hc A hw wX)
 .rw[iD];let e:=G.one @d;subst e;let{a,rfl}:=RV H;let{b,rfl}:=RV J;let d:a=b:=by induction a<;>induction b<;>first|rfl|rw[Ř,hc]
  subst d;let hb:mZ 1 (lM @aio @aio) 0=gY 1:=by induction a<;>decide
  calc aM @A @FQ (λw hw wX=>?_);.rw[jI];rw[hb];simp
  .clear hw;rw[ë,λk b hk hm aW=>?_];subst aW;rw[jI];rw[dt]at hm;let:b=[]:=dS @Ĥ hm;subst this;induction a<;>decide
def aIM[ţ][Ħ](h6:@dR)(hc:(A,@kV)):@td=@u:=by
 by_cases h2:@õ
 .rcases _M.akE H J h2 h6 with⟨h,_⟩|⟨w,_,hw,_⟩;.show h
  rw[id,(_M.alM H J h2 h6).2 ⟨w,hw⟩,hc]
 .rw[iD];let{a,rfl}:=RV H;let{b,rfl}:=RV J;induction a<;>induction b<;>first|rw[Ř,hc]|decide
def RW{zs:@XQ}:(nW,@Ig,@Gg,n):=by delta dv Bm;rw[Hc];rw[cF,a_,(gy,(dl,@ö)),(gQ,@Ea,@Fo),(e_,n),(n9,@Eu,@Gg,@amR),<-Ã];cases zs.find? λz=>z.2.1==n<;>rfl
def aIN[dq](J:@ec)(h1:(yt,(c2,H')))(h2:(CA,(yt,D'.nx σ H'))):(su,D):=h2 D h1
def rF.stok[a](h:@iP):IJ S:=let⟨_,_,_,O⟩:=h;O
def  ap0[i](c:aa)[c]:@v:=∃kvs y Cn,(Ö,c,@aq)/\(aq,@Gg)=some @kE/\ll H y Cn/\RD n Cn
def  aIO:=@λ{I W p2}G j D B n z r=>@id (@ap0 I W p2) ⟨G,j,D,B,n,z,r⟩
abbrev aeY:bi:=top 143
def aeZ:(C7,"size","found",aeY):=@E
def aIP(F:(h,"least","least",aeY))[Q][aI](aQF:(È,"fewest_cuts",["size"],3,aoS))(aQG:(È,"least_way",["move","cuts"],3,aoT))(ahy:@arA):(uq,.least):=by
 calc(e,aeZ,@H);.clear h;calc(ė,@o_);subst bf;rfl
 .clear h;calc(Ę,@Io);subst bu;rw[ē,<-w,<-Û,aeZ.nd,@bu,(qq,(jA,J,@R)),(Č,(C0,@R,G.MOST_CARDS_FOR_LEAST),@zt,(it,(Ť,(mz,@R,@ç),aA (d?,@ç,@R,(tG,aQF))),(æ,aeZ.nd,(ť,aQG,@abG,(e4,@ç,@R))),(b4,(dk,(aX,@XS)),(hd,aaU,@Á)))),<-f4,(fG,@kW,_,@ami,_,@amj,(ì,vO)),<-s,<-ė,hd,@at5,<-Ù,<-à,a,ns,(Db,@fw,@nC),<-a6]
  .rw[hb];rw[ċ];calc@x!;rw[s,<-aF,@Is,if axr<@Ì then(Ū,6)else match Gz q @bx with|none=>@iw|some w=>(bM,@IP::w),@Ac,<-á,@Xo];.rw[s];rw[aj (show axr<@Ì from(LS,6<@Ì,@Ī))]at n;show@YB
   .rw[s];let h6:@Ì<=6:=by
     rcases ft 6 q.length with z|z;.show absurd (bN (Ò,(o,@Ì)>6)) hc
     .show z
    rw[ag (show¬axr<@Ì from Nat.not_lt.2 h6)]at n;rw[cY,<-ō];cases kY:uP q (gC ns)with
    |false=>rw[aIM @İ I @Ē h6 kY]at n;show(Au,gw)
    |true=>
     calc@Ŵ;let R2:=R.same gw;let qL:=@n7;let Tq:=gw _ _ ha;dsimp only[vf,ax];apply aIN (λH'=>(dK,H',@jx,@Dg)/\@afr/\(Û,a,@Ŀ)/\ap0 H' c @Ì) (λH4 hJ=>?_) @Wr
     .clear hJ;calc aZ_ λR4 k4 ha4 kvs y Cn=>gX λhc4 hv4 aQK GC=>?_;let{Gc,S2}:=R4.ins;calc f7 (aIL @İ I @Ē h6 GC kY) (λdJ dM afv=>?_);dsimp only;rw[s,<-Å,(Ţ,d,Gc,S2,@jj,(zf,ak.of R4.row,ak.of ha4,@vv))];let aQL:wK H5 c (ď,@Ì) (T,y):=(cx,(x',(ad,hc4)),hv4);calc(ç,d,C,Gc,_,(ò,_,(ad,S2),@d?,@ry,@d,(š,c,aQL,?_)));calc(ŉ,p5,y,@xV,Cn,@Ì,kl h5 @alC @Ē h6 (aQK.same s5) dJ (aM dM GC.short (λH6 U l s6 h6' hex wX=>?_)));let elw:=afv l hex wX;rw[elw]at n;replace n:(cT,@Is)=(bM,@Z_):=n;clear hex;calc cw λk b hk hbm N=>?_;let yC:@Ã=@aY+1:=(Ê,N,eM);let jz:@aY<=2985984:=GC.short _ hbm;rw[iI,h6',(k5,sI,@da)];let s7:=(ä,@qO,H6,hz);let z7:=(ĉ,H6,z,@qO);rw[e_,z,@qO,<-iI,(dw,h6'),λy8 hy8=>?_];let s8:=(ä,@gE,H7,hy8);calc(nz,z,y8,s8 _ _ z7,aq,@Ws);rw[đ,lX,(dy,(Ò,2+@Ã<=2985990))]
      .let s9:=(Ŗ,@qO++@gE,((s5.trans s6).trans s7).trans s8,NR);let e5:(lo,@a3,jo @Z_)=@qO++@gE:=by
        rw[aw,lX];exact@aH::V.int @PX::_=@aH::V.int @aa0::_;let:@PX=@aa0:=by exact(o,@j!)=_;simp[*]
        rw[Ã];rfl
       rw[n]at g;let R9:=R4.same s9;calc g _ p9 (IK r t ?_ D.stok) ?_ (λb o h hb vI=>(dL,(Hc,vI)));rw[ğ,(dK,_,@Ij,@KQ),hS,R9];.rw[aq,e5]
     .apply(ų,(Ţ,d,dx,qL,@ry,?_));rw[Ď,R2.cuts,λzs JR p X=>?_];calc(Ğ,c,(x',JR),@Ą);rw[RW,Ez];cases hf:zs.find? λz=>z.2.1==q.length with
      |some z=>
       rw[ç,xf _ (am2 R2 (λb o h _ _=>@axS) Tq _ z.1 @b8 (Ø,JR,?_)),<-Ú,RW,hf]
       .let hz1:=BZ hf;let hz2:@Ā=@Ì:=by let:=JY hf;show gy.1 this
        let:=X z hz1;rw[hz2]at this;show{@i1,this.2.1}
      |none=>
       calc dg (c',@Ì,@Ē,h6,λH3 q3 C3 s3 j gc3=>?_);let u:=(Í,JR);let MT:@Ì∉@UW:=λm=>by rw[À,m,@VC];let:=yQ.1 hf z mz;show this @Pr
       let jy:@aE<=6:=(tY,p.length_le_of_subset (l₂:=_M.bQ 6) λx hx=>by rw[hO];subst bH;show _M.kN.2 (X z mz).2.2,aw,_M.iR);rw[d8,(Í,qL),@ry,(É,(ē,c,Lw.k (k:=@axF) u (by delta Bm;rw[aw];show@ĳ)))];let aQQ:jU @Ig (Ŧ,@Ì) (.ref q3)=@Ih:=by
        rw[QE];.delta Bm;rw[bF];rfl
        rw[Ú,RW,hf]
       rw[aQQ];let kn:@jD:=λe=>by rw[e,qL]at JR;cases JR
       let W:=@D1;apply xf _ (bU ?_ (λb o h hb vI=>?_) ?_ (aIO @Ih q3 C3 aq ?_ ?_ gc3))
       .let{{BI,M},v,JC,_}:=id W;rw[ă,JC,λtz htz _=>?_];calc{{BI,(C,kn.symm,M)},(F3,u),JC.updW (λe=>by rw[e,u]at htz;cases htz) @JU (λa h m _ e=>by clear m;rw[E,@sc];rw[e,u]at dG;cases dG),@awr,aq,?_,?_};rw[Â,bF,(Cr,p,MT (by rw[È,y,@Ì,dt.1 hy];rw[<-e2,<-e];show hx))]
        .ext z mz;let up:∀{y:aa}{C':je},ll H3 y C'->ll (ah H3 c (.dK @Ih)) y C':=λh=>h.updO (λe=>by clear h;calc bj @Ii;rw[k0]) @JU;rcases bX.1 mz with m|m;.show{up ((X z m).1.same s3),(X z m).2}
         rw[þ,m,bU (up j) gc3 @Ē h6]
       rw[å,vI,@Yu,<-å,(λe=>by rw[e,JR]at Tq;cases Tq),(Í,Tq)];.rw[RW,aZF,hf];simp
       .show j.updO (λe=>by clear j;calc bj @Ii;rw[k0]) @JU
  rw[cx]
def  sJ[cp]:He:=[@axh,.row,.act @e0,.shape @e0,.hand @e0,.order @e0,.tame @e0,@Wk,@Wl,@Il,.count,@Wm,.nth @e0,@Is,.fate,.asks @e0,.sure @e0,@aqP,@alz,.group @e0,.size,@Iq,@Wq].getD k .row
def  RX[cp]:@v:=[True,True,@dJ,@dJ,@dJ,@dJ,@dJ,@lf,@lf,@lf,True,@lf,@dJ,@lf,True,@dJ,@dJ,IM ns,IM ns,@dJ,True,@lf,okO ns].getD k True
def ap1{P:He->@Ù}(hd:P .row=@o):∀(l:List He)(k:Nat),l.all P=@o->P (l.getD k .row)=@o|[],_,_=>hd|x::l,0,h=>(fk,J8,eZ,h.1)|x::l,k+1,h=>(fk,J8,eZ,ap1 hd l k h.2)
def ap2[f]{l:@À}[d1](e:@jw=.load l):@fd:=by cases k with|zero=>show hk @d|succ k=>let:=Eq.trans (Ks (ap1 (P:=λc=>@ah!) @d _ k (@d:(_:List He).all _=@o))) (dS (λc:He=>@ah!) e);cases this
def  spI[h]:Nat->Sp|0=>apX C|k+1=>l4 C (sJ @û) (RX @û)
def  ap4(fs:@I0):@ÿ:=(Lh,23,((dl,@ú),@akd))
structure ap5[ì](C o:aa)(fs:@I0):@v extends@ġ where
 CALLS:(dS,"CALLS",o)
 CALLS_d:(dq,o,ap4 fs)
 hs:∀k,@dO->∃fd ps,(bO,8,@T6,ps,spI C k)/\(pI,.ref @T6)/\@iX
def aIQ(g:Nat->V):∀(m k:Nat),k<m->dv (ia,@aiT) @QB=some (g k):=by
 ext z_;cases z_ with
 |zero=>ext k h;show@Ä
 |succ m M=>
  ext k h;delta dv;rw[uF,bF,aZF];by_cases hk:k<m;.let:=@aiC;delta dv at this;cases hf:((bP m).map λ(i:Nat)=>((.inl (i:Int):a_),g i)).find? λD=>decide (D.1=(.inl (k:Int):a_))with|none=>rw[ik,hf]|some x=>rw[hf]at this;show this
  .obtain rfl:k=m:=@e;let:((bP k).map @aiT).find? (pJ,@EC)=@u:=by rw[yQ];ext x hx e;rw[fn];subst aW;let h1:=@gn;let h2:=@RQ;omega
   rw[Ã];simp
def aIR[f](h:@g_=@u)[d1]:@ow=@Eo:=by delta tJ;rw[oo,@Eo,<-lN];show@alD
def aIS[f](h:@wY)[d1]:@ow=(cT,@jw):=by delta tJ;rw[oo,(cT,c),<-lN];show@alD
abbrev ae0:bi:=top 157
def ap6:(õ,["deck","call","numbers","handler"],@zw,ae0):=@E
def  ap7[h]:Sp:=λvs H Q _=>∃(d c a:aa)(S:kL)(k:Nat)(ns:@À),vs=[@Ş,@eU,@Î]/\@dO/\@iP/\@qs/\@y0/\(hf,@ow)
def aIT{o:aa}{fs:@I0}(F:(h,"answer_of","answer_of",ae0))[Ģ](G:(Ir,C,fs)):(Â,9,@zw,@Wt):=by
 calc(e,ap6,@H);.clear h;calc bv λd c a S k ns=>Fa @o_;subst bf;rfl
 .clear h;calc bv λd c a S k ns=>jg λbu hk D ha hok g=>?_;subst bu;calc jH @St @Ik;rw[e?,<-w,<-Ī,(ev,(bG,(ĝ,wC,@K,fg G.LOAD),@C4),G.NO_DECK),(æ,ap6.nd,QS G.CALLS G.CALLS_d @K @ļ),aDw (i:=3) (k:=8) @ž (Ď,@Ð,@R),<-cU,<-s];calc Il @NM (yL,@g_) @Wu @Wu ?_;.apply@a';rw[gR,<-decide_not];show kk
  .rw[ė,hd,(Mb,r,@Yj)];rw[aw,gR];show kk
  let go:∀(H':Hp),@abH->H'=H->(k=0\/∃q,@wY)->spI C k [@Ş,@Î] H' Q E0:=by
   ext H' D' e U;subst e;rcases U with rfl|⟨q,U⟩;.show@atp
   .cases k with|zero=>show@atp|succ k=>rw[aIS U @e]at g;show dZ d c a S q ns (im @d D' U ha hok g)
  calc lT (G.hs k hk) (λp n m b l=>?_);let hv:=aIQ (λi=>@akd) 23 k hk;by_cases yu:k=0;.rw[show(A,@NM)by rw[oK];omega,zd];calc dH @ao5;show(HG,@Qy)
  .rw[show@NM=@o by rw[cG];simp[*],Eo];cases U:S.row with|none=>rw[aIR U yu]at g;show dg (cM,(ef,@d,@ŗ,aq))|some q=>delta IJ at O;rw[U]at O;let j:@zL:=O;let h0:=j.h0;rw[show(A,(yL,@PE))by rw[oK];exact¬(v,@HI)=0;rw[kG];omega];rw[ç,@ao5];show(HG,(as,q,U))
def  del[i](g:aa):Hp:=λb=>(P,b,g,@u,H b)
def aIU[š]:del H g g=@u:=@Þ
def Dn[š](h:@ir):@NA=H b:=@eH
def ap8[š](h:(X,@NA)):@co/\@ir:=by delta del at h;rw[fP,<-b',e];.rw[ě,e];show⟨h,e⟩
def aIV[bd]{g:aa}[w][af][d](hg:(bo,g))(N:(ń,g,@fO)):Inv X @aox σ @qd s:=by
 let sub:(mo,@NA=@u):=λb h=>by
  delta del;split;.rfl
  .show h
 calc{I.ok,I.os,@b_,?_,@i9,@rb,sub _ @bl,λx c e=>sub _ @iS,?_,?_,I.len};.show(HK,sub _ @arp,(FZ,@aok),(FZ,@aoM),by let{m,this}:=(vk,h);show{m,(d,@Oz,this)})
 .ext p hp;rcases bX.1 hp with m|m;rw[n_,(eV,@abb)]
  .rcases eJ.1 m with e|m
   .subst e;calc dI N aIU @Ź @G5 (λv e=>@jq);.let:=I.free;rw[<-e]at this;rw[hg]at this;cases this
    .apply q_ @G6 @G7;let:=I.base.free g o N (xa,g) (u?,g,hb);rw[hg]at this;cases this
   rw[n_,(t2,m)]
 .ext a o e;let{e1,aQ}:=ap8 e;calc(I.hok a o e1).stay @R? @Ho (λb ys q=>?_);rw[lq,<-lq]
def aIW[ž]{f:_L.St}[a]{s j:aK}{g:aa}[w][af](I0:(ec,f,k,j))(d:(á,k g,ys))(hl:@D!)(hv:@hN)(I:(nH,@aox)):(ï,(û,g,xs),s):=by
 let pg:=I.pin (g,@fO) @aaz;let hn:@po:=pg.2.1;let up:∀b o,@co->(X,(ř,H,g,xs,b)):=λb o h=>(C,(λe=>by rw[Ţ,hn];cases h),h);apply(ov,?_,?_,@vg,@Ŝ,?_)
 .apply(HK,?_,up _ _ @aok,up _ _ @aoM,let⟨m,q⟩:=I.base.tbls b ps h;{m,@MN});rw[aF @Ź];.show@arp
  .let:=I0.base.free b o h1 h2 h3;rw[e,d]at this;cases this
 .rw[aF @Ź];.show@bl
  .let:=I0.free;rw[e,d]at this;cases this
 .rw[aF @n'];.show@iS
  rw[kS,I0.freeC x c e]
 .let h0:=I0.pin p hp;let{a,b,c}:=(eV,by
   rcases bX.1 hp with m|m;.show@abb
   .show uG _ @JA);calc aM a ?_ c;rw[aF @n'];.show b
  rw[kS,h0.2.1]
 .ext a o e;by_cases ha:a=g;.subst ha;rw[aq]at e;cases e;show mr hl aG n hv pg.1
  .rw[aF ha]at e;show(I.hok a o e).stay @R? (λb q=>@MN) (λb ys q=>@MN)
def aIX{t:TE}(he:@JX):(bW,λσ H Q=>∃g xs,(bo,g)/\t σ @qd λv H'=>H' g=@u->Q v (Ù,H',g,xs)):=by delta PE at*;intro pins s σ H Q I⟨g,xs,hg,h⟩;calc E3 (bc,g,hg) (λhl aG n hv N=>?_);calc(ig,he _ s σ _ _ (aIV I hg N) h,λu s1=>(Lp,?_));let pg:=O.pin (g,_) @aaz;show oT v (ap,g,xs) (aIW I hg hl hv O) rv (q1 pg.2.1)
def aIY[s](h:@p6)[Ą]:(np,@Î):=CA (v:=@Î) hg h @d hd
def Bo{t:@À}(h:(CY,aZH z 8,700)):oq t:=by rw[eZ,cG,j_]at h;calc{h.2,λz hz=>?_};let:=h.1 z hz;delta aZH at this;rw[eZ,cG,cG]at this;let h2:z<256:=@q1;show(aK,@i1)
def FC{t:@À}(h:(CY,Hh z,4000)):uc t:=(fk,eZ,cG,h.2)
def Mw{z:Int}(h:Hh z=@o):@aoy:=by delta Hh at h;rw[eZ,cG,cG]at h;omega
def ap9:∀r:@À,(kD,2)->∃x y l,r=@Ef|x::y::l,_=>{x,y,l,@d}
def  CMq[dF]:@v:=∃(k:Nat)(ns:@À),p=k/\@dO/\@y0/\@ass/\@ab'/\(rl p=@o->ns=@Cg/\t=@Cf)/\(Ie,ns=@Cg++@RH)
def  CMn[dF]:@v:=@asC
def  CMl[dF]:@v:=(Ie,c=[@EQ,@RH])
def  CMk(r:@À)(c:@gk)[cp]:@v:=@y0/\@ass
def  RY[d?][r]:@v:=@Lr->CMn r t c k->CMl r t c k->CMq r t c k
section
variable{r t:@À}{c:@gk}{k:Nat}
def cmL(g:∀l,c=[@ë::@F',l]->@Lr->CMk r c k (@F'++l))[ed]:@yP:=by ext J _ hl;let{m,rest,e1,e2,e3,e4,e5}:=hl h1;let G:=g _ e4 J;show{k,_,@d,hk,G.1,G.2,J,@aiY,λ_=>{m,@Į,e1,e2,e3,@d,e5}}
def rG(g:∀l,c=[[@ë],l]->@ahT)[ed](h2:@eb=0:=by rfl):@yP:=cmL (λl e _=>by rw[h2]at e⊢;show g l e) hk h1
def IR(g:∀l,l=@F'->c=[@ë::l]->@Lr->@ahT)[fh](h1:@DI=@o:=by rfl):@yP:=by ext J hn _;let{e1,e2}:=hn h1;let G:=g _ @d e1 J;show{k,_,@d,hk,G.1,G.2,J,λ_=>(Ì,e2),@aiY}
universe z
def l5{p:@Xm}(h:p n)(r:(d5,p k)):∀k,k<@pg->p k:=λk hk=>(Nat.lt_succ_iff_lt_or_eq.1 hk).elim (r k) (sz,h)
def aI1[cU]{c:@gk}{t:@À}(h:@Ba)(ha:@IH):CMq r t c p:=by
 calc EQ (_M.az_ h) (λh0 a J hn hl=>?_);let{k,rfl}:=GJ h0;let hk:@dO:=@e;calc(?_:∀k,@dO->@yP) k hk J hn hl;calc(ew,(uh,(ew,(ew,(uh,(ew,(uh,λk hk=>absurd hk (N8 k))))))));.apply@Ww;cases r with|nil=>rw[Ř,J]|cons x l'=>subst N;subst e;show{bM 1,@mW}
 rw[Ź];.show@yX
 rw[Ĭ];.apply@Ww;rw[hq,J];subst N;subst e;rw[æ,@mW,<-j3,Hh y];rw[eZ]at hb;exact IM [x,y];calc{@A,@A,@da};rcases eJ.1 hz with e|hz;rw[Ē,Mw hb.1,<-þ,hz,Mw hb.2]
 .apply cmL λl e J=>?_;rw[hq,J];subst e;rw[æ,@mW,<-j3,Hh y&&(l.all (λ(z:Int)=>Hh z)&&(Ŷ,@Ã,4000))];rw[eZ,eZ]at hb;let hL:=FC hb.2.2;rw[eZ,j_]at hb;exact IM @Ef;calc{@A,?_,@da};.rw[eE,eE];delta uc at hL;simp[*]
  .rcases eJ.1 hz with e|hz;rw[Ē,Mw hb.1];.rcases eJ.1 hz with e|hz;rw[Ē,Mw hb.2.1];.show Mw (hb.2.2.1 z hz)
 rw[Ĭ,<-Ĭ];.show@yX
 rw[Ź,<-Ĭ,<-Ź];.show@yX
 rw[Ź,<-Ź,<-Ź,<-Ĭ,<-Ĭ,<-Ĭ,<-Ĭ,<-Ĭ];.show@yX
 rw[d_,gA]
def aqb[š]:del (cS,g) g=@qd:=by
 funext b;delta del;rw[fP];.rw[ÿ,e,e]
 .rw[(@kv),(@kv),aF e]
def aqc[š](h:@po):@qd=H:=by
 funext b;delta del;rw[fP];.rw[(@k6),e,h]
 .rw[ag e]
def aI2[p]{g:aa}[m]:af @qd @abV:=λb o h=>by let{h1,h2}:=ap8 h;rw[Dn h2];show@Jr
def aI3[dq](J:@aF)(h1:(Dc,@af9))(h2:(CA,(Dc,D'.nx σ' H'))):(su,D):=h2 D h1
def  RZ:@ÿ:=[(ŝ,(dl,17),2),(ŝ,(dl,18),2),(ŝ,(dl,22),1)]
def  Mx:@P:=[@rX,.int 10,.int 14,.int 18,.int 20,.int 22]
structure aqd[Ù][ġ](aO:aa):@v where
 OWN_NUMBERS:(dS,"OWN_NUMBERS",aO)
 OWN_NUMBERS_d:@ang
structure aqe[ġ](T:aa):@v where
 CALLS_WITHOUT_LIST:(dS,"CALLS_WITHOUT_LIST",T)
 tup:@aqn
def aI4[f](hk:@dO):(Gq,@QB,@eb):=(Ep,(Gq,.inl @vS,dP @vS))
def aI5[f](hk:@dO):zN @RZ Mx=@DI:=(Ep,zN (.int @vS) Mx=rl @vS)
abbrev ae2:bi:=top 158
def vy:(Õ,["calls","deck","given","at","call","begin","end","numbers","answer"],"calls",ae2):=@E
def  ae3[b]:Sp:=λvs H Q _=>∃(a:aa)(l:@À),(du,(eo,l),(l7,17000),aZI l=@o,∀(H':Hp)(q:aa),(Û,q,(Kx l).map @é)->Q @ĥ H')
structure Mid[Û][î](d c g:aa)(x:@arG)(at_:Nat)(H':Hp):@v where
 same:@Í
 rest:l.drop at_=x.1
 le:(h',at_)
 calls:∃f,B4 uK f x.1=some @Œ
 asked:∀c∈@Œ,@IH
 given:(Û,g,x.2.2.2.map @é)
 deck:rF C @abV d c x.2.2.1
 told:(uT,x.2.2.2,x.2.2.1,x.2.1.map tE)
def aI6{aO T:aa}(F:(h,"answers","answers",ae2))[g](D:@atd)(G:@aqQ)(JS:(fI,"Deck",@fB,1,@Wn))(aQR:(È,"answer_of",@zw,9,@Wt)):(Â,10,["calls"],@Wx):=by
 calc(e,vy,@H);.clear h;calc fb λa l aW _=>?_;subst aW;rfl
 .clear h;calc jt λa l bf ha h17 y q0=>?_;subst bf;obtain⟨U,atg,aQS,aQT⟩:∃U,B4 uK @Ã l=some U/\(∀c∈U,@IH)/\(Kx l).length<=10000000:=by delta aZI at y;cases hc:B4 uK l.length l with|none=>rw[hc]at y;cases y|some U=>rw[hc]at y;dsimp only at y;rw[eZ,eZ]at y;let{{_,h1},h2}:=y;delta a3E at h1;rw[eZ,j_]at h1;show bC U @d (λc hc=>h1.1 _ @EU) (cF h2)
  let aQU:(uT,[],axt,U.map tE):=by delta Kx a3F;rw[atg];rfl
  rw[w,<-č,(cy,@c8,aDu JS @ž),(è,2,@c8,@Ĵ,(æ,@c8,aH),(tI,(aO,(nf,@Á),ay (iw,@c8,@KA) (GB,@Z?,(FA,D.OWN_NUMBERS,D.OWN_NUMBERS_d,@Ô,aH),(è,7,@c8,@aoF,(Ť,(uN,@Ô,aIY G.CALLS_WITHOUT_LIST),(GB,(ay,@Ł),(jL,@Ł),(bi,7,@c8,(b4,@Ń,@aoF)))),ay (æ,@c8,@Ł) (è,8,@c8,aIX (C',aQR,@Ń),(iC,(Ĥ,@aU)),aA (sa,amF,@R,@aU))))))),<-i_,@Ħ,_,(ķ,il,cC),(v6,ax _ NA,(d2,NB),(Cx,let aQV:TS:=ax _ agJ;(ì,aQV))),<-s];calc λd dx rL ath aQ=>aIy d dx @d aq (λH1 c DK yJ keep=>@ľ);let s1:@ō:=Mu rL ath keep;let hcH:@ol:=by by_cases e1:c=d;rw[Â,e1,rL];by_cases e2:c=dx;rw[Â,e2,ath];rw[aF e1,aF e2]at yJ;show yJ
  rw[Ó,@n!,<-ſ,[],hg];let hgH:@po:=s1.free hg;let M0:(o9,@ast,0,(ap,g,[])):={s2,@d,@ð,{_,atg},aQS,aq,(Ç,aqb,aqc hg,DK),aQU};rw[ķ,g,[]];calc(nI,@arG,λ(x:List Int×List (List (List Int))×kL×List Int)σ H'=>∃(at_:Nat)(v4 N v6 v7 v8:@Ñ),σ=(oT,at_,v4,N,v6,v7)/\(o9,x,at_,H'),x.1.length,@ast,(Il,0,M0));rintro⟨rest,cs,S,v⟩;ext σ H';calc bv λat_ v4 N v6 v7 v8=>Fa λbu M=>?_;subst bu;let yL:=M.same.seq ha;let JT:=M.rest;dsimp only at JT;rw[h5,yL];rw[aw];cases rest with
  |nil=>
   let h_:@Ã<=at_:=axu.1 JT;rw[fz];.let:=@Ī;omega(config:={})
   .rw[hA];let lp:=_M.aAb MJ;dsimp only at lp;subst lp;let ht:Kx l=v++[]:=M.told;rw[iO]at ht;show(R,q0 _ g (d,ht,M.given))
  |cons p r=>
   let bK:(aF,at_):=by
    rcases ft at_ l.length with z|z;.show z
    .rw[axu.2 z]at JT;cases JT
   calc b9 @bw (kM,(ſ,@rY<(v,@Ã)));rw[hA];calc EH (_M.aAa MJ) (λcc t cs' f2 aQX aQY ecs=>?_);dsimp only at ecs;subst ecs;let aQZ:=M.asked cc pw;calc Fj (aI1 aQX aQZ) (λk ns bH hk hok R=>cy λJ db Tb=>?_);subst bH;let hp:(Æ,@kx,at_,@RZ):=by
    let:(Æ,l,at_,@ë):=by let e:(bC,l.drop at_,@ë):=(Q,JT);rw[N0]at e;show e
    rw[bB,this];rfl
   let zW:l.drop @ph=r:=(yi,JT);let ug:r.length=@Ã-@ph:=(b1,zW,jC);let atj:(uT,@arM,@alE,@Wy):=by let:=M.told;rw[ê,cT];exact v++UC ((Hi S @Wv).2::ajR Hi (Hi S @Wv).1 @Wy)=_;rw[R S];delta UC;rw[Ei,gh]
   calc{λI H9=>∃(Ts:Nat)(v4 N v6 v7 v8:@Ñ),I=(oT,Ts,v4,N,v6,v7)/\(o9,(t,cs',@alE,@arM),Ts,H9),λI H9=>bv λTs w4 w5 w6 w7 w8=>Fa λe M9=>dC @Ú ?_ _ @d Ts w4 (aAx w5 w6 w7 w8 e M9),?_};.exact@Ú<((@ë::r)).length;rw[eE];cases DV:rl (k:Int)with|true=>rw[(db DV).2,jC];simp+arith[*]|false=>calc Fj @Wz (λm rest e1 _ _ _ e5=>?_);rw[fA];rw[jC,eE]at this;rw[e5,jC];omega(config:={})
   calc(Ē,a,_,(Ŵ,yL,(er,at_,hp),?_));rw[á,?_,<-Ï,(fv,@EC)];rw[aI4 hk];calc@lq;let Nc:(fH,@kx,some (@rY+1),@kn,@yi):=(H1,@ph,@cs,@tM,(Ā,@kn,(o,@cs)),@rY,@ph,@cs,@ph,@eb,zW);rw[ð,(ų,(d',yL,λp7 X=>?_))];dsimp only;rw[Nc];let u:=M.given;let n7:p7≠g:=λe=>by rw[e,u]at X;cases X
   let s3:=(ä,@yi,H',X);let z3:=(ĉ,H',p7,@yi);generalize(Ù,H',p7,@yi)=H3 at*;let atk:=s3.seq yL;dsimp only[mw,ax];apply aI3 (λσ' H4=>af H' H4/\∃(N:V)(p9:aa)(W:Nat),σ'=(oT,at_,@I8,some N,(Ï,W),(T,p9))/\(á,H4 p9,@Ŀ)/\p9≠g/\W<=@Ã/\l.drop W=t) (λσ' H4 hJ=>?_) @Wr
   .clear hJ;calc aoU λs4 N p9 W cb h9=>cy λn9 MW n=>?_;subst cb;dsimp only[mw,ax];rw[ĕ];calc a0a g _ (Ě,u) _ @d _ (aGa @d _ @d d c p9 (Ã,S,k,ns,hk,M.deck.same (aI2 s4),aM (d,Dn n9,h9) hok (λH5 q5 D5 h5 k5 hg5=>?_)));generalize@ow=xs at*;let b_:@q5+(1+xs.2.length)<=10000000:=by let:=aQT;rw[atj,eM,eM,eE]at this;omega
    let n5:q5≠g:=λe=>by rw[e,hg5]at h5;cases h5
    let g6:=(ĉ,H5,g,@sR);let q6:(F',H5,@sR):=(C,n5,h5);rw[Ý,g6,(š,q5,(Ý,q6),(C2,g6)),<-Â,aw,oB (yr,@q5) @Ó];let g7:=(ĉ,@ao4,g,@alT);let O:(F',@ao4,@alT):=(C,n5,q6);rw[Ý,g7,(ç,g,q5,_,_,im @d @d g7 O ?_ ?_),<-Ö,eM,aw,aw,(dy,(yr,@q5+1+xs.2.length))];rw[sj,sj];calc dZ W _ _ _ _ _ (Ì,{@Vf,n,MW,⟨f2,aQY⟩,λc hc=>M.asked c (í,hc),?_,?_,?_});.let hbg:@ir:=(ea,hgH);rw[aF hbg];calc k5 b o ?_ (ea,rL) (ea,hcH);rw[Dn hbg];show(Ě,M.same _ _ h)
    .rw[aq,aw,bF,cT,gh];rfl
    rw[Ê,aqb,aqc hg5,D5];.show atj
   .apply(č,T,Mx,.inr (G.tup _),@auq);rw[(@Þ),aI5 hk];cases DV:rl (k:Int)with
    |true=>let{e1,e2}:=db DV;rw[ç,xf _ _ (QI s3 _ p7 @cs @d (d,e1,z3) (tO,n7))];rw[e2,<-zW,J9]
    |false=>
     calc Fj @Wz (λm rest e1 e2 e3 e4 e5=>?_);let wW:@P?=m::@Į:=by rw[<-J9,zW];show e1
     let qG:(Æ,@kx,@cs,@RX):=by let e:(bC,@P?,m):=(Q,wW);rw[N0]at e;rw[bB,show(Æ,l,@cs,m)from e];rfl
     let ahB:l.drop @pi=@Į:=(yi,wW);let a07:@q9=@Ã-@pi:=(b1,ahB,jC);let kZ:(aF,@cs):=by
      rcases ft (at_+1+dP (k:Int)) l.length with z|z;.show z
      .rw[axu.2 z]at wW;cases wW
     calc dg @ZX;calc(ų,(É,(ba,a,atk,(er,@cs,qG),@lq)));let aQ0:(fH,@kx,some (@kn+1),@y?,@qG):=(H1,@pi,@qJ,by rw[aw];omega(config:={}),(iB,@y?,@qJ),@kn,@pi,@qJ,@pi,@g!,ahB);calc(ar,(ar,(d',atk,λp8 hp8=>?_)));dsimp only;rw[aQ0];let s8:=(Ŗ,@qG,s3,hp8);let s38:=(ä,@qG,H3,hp8);let z8:=(ĉ,H3,p8,@qG);generalize(Ù,H3,p8,@qG)=H8 at*;calc(nz,p7,p8,s38 _ _ z3,z8,@Ws);.rw[aw,aw,f_,f_];show(dy,(rE,min @eb r.length+min @g! @q9<=34000))
     .apply xf _ _ (QI (aL s8 NR) (V.int (@kn+1)) p9 @qJ ?_ ?_ (Ø,@Ź,@cL));.rw[Ċ,@y?,(o,@qJ),<-Ĕ];rfl
      .rw[aq,e4,bF]
      .rw[e,s8 _ _ u]at NR;cases NR
      .rw[e5,<-ahB,J9]
def R_[ō](h:p [])[ŷ](e:@gY=0):p us:=by cases us with|nil=>show h|cons a r=>cases e
def zT[ō](h:∀a r,@Š->p (a::r))[ŷ](e:@gY=n+1):p us:=by cases us with|nil=>cases e|cons a r=>show h a r (a3G e)
def Sa[ō](h:∀a,p [a]):(nC,1):=zT λa=>R_ (h a)
def us2[ō](h:∀a b,p @x6):(nC,2):=(uO,R_ (h a b))
def us3[ō](h:∀a b c,p [a,b,c]):(nC,3):=(uO,zT λc=>R_ (h a b c))
def us4[ō](h:∀a b c d,p [a,b,c,d]):(nC,4):=(uO,zT λc=>zT λd=>R_ (h a b c d))
structure Df[b][M][Ě][Ś]:@v where
 a:@agO
 F:(h,x,x,s)
structure If[j](q:au)[Ě][Ś]:@v where
 a:@ad9
 F:(iy,q,s)
structure Mf[j](x q:au)[Ě][Ś]:@v where
 a:HY K C x f
 F:(h,x,q,s)
section
variable{h:cH}{k:Nat}{ps:@â}{x q:au}{s:bi}{W kV M pm a7 ct:ai}{od z:@aP}{vE:@gs}
structure Qx[ì]:@v where
 ex:∃h:cH,@dE/\@Ff
def Qx.at[ÿ][ğ](e:(uP,@a5)):(tK,v):=let⟨_,X,G⟩:=Q.ex;aZJ X G e
def Qx.non[ğ](e:(uP,@u):=by as_aux_lemma=>k_is):(ă,x):=let⟨_,X,G⟩:=Q.ex;a3H X G e
def Qx.val{g:Tok->ai}{t:Tok}[ğ](e:(uP,some (g t)):=by as_aux_lemma=>k_is):(pf,x,g t):={t,Q.at e}
def cn[ğ](D:@ahU)(O:@tb)(hb:(n5,@L?):=by first|show λ_ _ _ _ _ _=>Sa λ_=>rfl|show λ_ _ _ _ _ _=>us2 λ_ _=>rfl|show λ_ _ _ _ _ _=>us3 λ_ _ _=>rfl|show λ_ _ _ _ _ _=>us4 λ_ _ _ _=>rfl):@asw:=gN f fd O @WA D.F.kp @Iu
def IS[ğ](m:(Ō,x,C))(D:If K C q s f fd)(O:@tb)(hb:(n5,@Bl):=by first|show λ_ _ _ _ _ _=>Sa λ_=>rfl|show λ_ _ _ _ _ _=>us2 λ_ _=>rfl|show λ_ _ _ _ _ _=>us3 λ_ _ _=>rfl|show λ_ _ _ _ _ _=>us4 λ_ _ _ _=>rfl):(fI,x,ps,k,sp):=gN f fd O D.a (Q.at m) @Iu
def lE[ğ](cl:@b1)(D:(H6,fd))(O:@tb)(hb:(n5,@Ma):=by first|show λ_ _ _ _ _ _=>Sa λ_=>rfl|show λ_ _ _ _ _ _=>us2 λ_ _=>rfl|show λ_ _ _ _ _ _=>us3 λ_ _ _=>rfl|show λ_ _ _ _ _ _=>us4 λ_ _ _ _=>rfl):(ů,x,ps,k,sp):=gN f fd O D.a @Iu cl
def bo.to8(R:@asw)[ğ](D:@ahU)(hk:k<=8:=by decide):∃fd ps,(p6,8)/\@gO/\@iX:=by clear R;calc g9 λf' fd O m kp b=>?_;let e:=m.symm.trans @WA;cases e;show aU fd ps (be.mono O hk) kp b
def cp(a:@agO:=by as_aux_lemma=>k_is)(l:(ga,@L?):=by as_aux_lemma=>k_is)(c:(lb,x):=by as_aux_lemma=>k_is)[fi]:Df K x s f @L?:={a,@AB}
def lF(a:(lc,x):=by as_aux_lemma=>k_is)[fj](l:(ga,@Ma):=by as_aux_lemma=>k_is)[ec]:(H6,@Ma):={⟨a,b,k⟩,@AB}
def IT(m:@y4:=by as_aux_lemma=>k_is)(a:@L9:=by as_aux_lemma=>k_is)[fj](d:@abi:=by as_aux_lemma=>k_is)(l:(ga,@Bl):=by as_aux_lemma=>k_is)[ec]:If K C q s f @Bl:={⟨m,a,b,d⟩,@AB}
def IU(a:@ad':=by as_aux_lemma=>k_is)(b:@yk:=by as_aux_lemma=>k_is)(c:@y3:=by as_aux_lemma=>k_is)(d:@zF:=by as_aux_lemma=>k_is):@b1:=⟨a,b,c,d⟩
universe z
set_option maxHeartbeats 0 in def aI7[Ç]{g l o aO T m Ni r u i JS:aa}{aQ2 aQ3 aQ4 aQ5 aQ6 aQ7 aQ8 aQ9 aQ_ aRa aRb aRc aRd aRe aRf aRg aRh aRi aRj aRk aRl aRm aRn aRo aRp aRq aRr aRs aRt aRu aRv aRw aRx aRy aRz aRA aRB aRC aRD aRE aRF aRG aRH aRI aRJ aRK aRL aRM aRN aRO aRP aRQ aRR aRS aRT aRU aRV aRW aRX aRY aRZ aR0 aR1 aR2 aR3 aR4 aR5 aR6 aR7 aR8 aR9 aR_ aSa aSb aSc aSd aSe aSf aSg aSh aSi aSj aSk aSl aSm aSn aSo aSp aSq aSr aSs aSt aSu aSv aSw aSx aSy aSz aSA aSB aSC aSD aSE aSF aSG aSH aSI aSJ aSK C ahD ahE y J A ahI I N D ahM R ahO ahP E ahR ahS aSL U ahU F S O V aSM aSN:aa}{aSO aSP aSQ aSR aSS aST aSU aSV aSW aSX aSY aSZ aS0 aS1 aS2 aS3 aS4 aS5 aS6 aS7 aS8 aS9 aS_ aTa aTb aTc aTd aTe aTf aTg aTh aTi aTj aTk aTl aTm aTn aTo aTp aTq aTr aTs aTt aTu aTv aTw aTx aTy aTz aTA aTB aTC aTD aTE aTF aTG aTH aTI aTJ aTK aTL aTM aTN aTO aTP aTQ aTR aTS aTT aTU aTV aTW aTX aTY aTZ aT0 aT1 aT2 aT3 aT4 aT5 aT6 aT7 aT8 aT9 aT_ aUa aUb aUc aUd aUe aUf aUg aUh aUi aUj aUk aUl aUm aUn aUo aUp aUq aUr aUs aUt aUu aUv aUw aUx aUy aUz aUA aUB aUC aUD aUE aUF aUG aUH aUI aUJ aUK aUL aUM aUN aUO aUP aUQ aUR aUS aUT aUU aUV ato:nY}(X:@dE)(Gn:@Ff)(MD:(dS,"answers",g))(aUW:(Ō,"Ring",m))(aUX:(Ō,"Piece",Ni))(aUY:(Ō,"Reading",r))(aUZ:(Ō,"Condition",u))(aU0:(Ō,"Group",i))(aU1:(Ō,"Deck",JS))(f:C0 K m)(j:zP K Ni)(a:oZ K r)(d:vw K u)(t:Ml K i)(b:kS K JS)(atp:Df K "nothing" abz aQ2 aSO)(atq:Df K "cut" abB aQ3 aSP)(atr:Df K "every" abD aQ4 aSQ)(ats:Df K "turned_round" abF aQ5 aSR)(att:Df K "turn" abG aQ6 aSS)(atu:Df K "deal" abH aQ7 aST)(atv:Df K "followed" abI aQ8 aSU)(atw:Df K "moved" abJ aQ9 aSV)(atx:Df K "common_divisor" abK aQ_ aSW)(aty:Df K "round_length" abL aRa aSX)(atz:Df K "order_of" abM aRb aSY)(atA:Df K "undone" abN aRc aSZ)(atB:Df K "repeated" abP aRd aS0)(atC:Df K "side_of" abR aRe aS1)(atD:Df K "is_row" abS aRf aS2)(atE:Df K "is_deck" abU aRg aS3)(atF:Df K "faces_up" abV aRh aS4)(atG:Df K "sums_of" abX aRi aS5)(atH:Df K "odd_differences" abY aRj aS6)(atJ:Df K "can_come" ab0 aRk aS7)(atK:Df K "sides_of_one_order" ab1 aRl aS8)(atL:Df K "count_of_rows" ab2 aRm aS9)(atM:Df K "rank_of_numbers" ab4 aRn aS_)(atN:Df K "rank_of_sides" ab5 aRo aTa)(atO:Df K "rank_of" ab6 aRp aTb)(atP:Mf K m "bring_up" "Ring.bring_up" ab7 aRq aTc)(atQ:Mf K m "exchange" "Ring.exchange" ab9 aRr aTd)(atR:Mf K m "place_of" "Ring.place_of" acb aRs aTe)(atU:If K m "Ring.__init__" ace aRt aTf)(atV:Df K "ring_of" acf aRu aTg)(atW:Df K "put_in_order" ach aRv aTh)(atX:Df K "bring_round" acj aRw aTi)(atY:Df K "cards_on_wrong_side" acm aRx aTj)(atZ:Df K "way_to" acn aRy aTk)(at3:Df K "is_way" acp aRz aTl)(at4:Df K "walked" acr aRA aTm)(at5:Df K "kind_of" acs aRB aTn)(at6:Df K "end_of_piece" acu aRC aTo)(at7:Df K "number_of" acv aRD aTp)(at8:Df K "is_decimal" acx aRE aTq)(at9:Df K "is_number" acA aRF aTr)(aua:Df K "word_of" acB aRG aTs)(aub:If K Ni "Piece.__init__" acD aRH aTt)(auc:Df K "piece_at" acF aRI aTu)(aud:Df K "pieces_of" acH aRJ aTv)(aue:Df K "with_sides" acK aRK aTw)(auf:Df K "sides_by_one" acM aRL aTx)(auh:Df K "settled_by_others" acO aRM aTy)(aui:Df K "numbers_of_rank" acQ aRN aTz)(auj:Df K "sides_of_rank" acR aRO aTA)(auk:Df K "row_of_rank" acS aRP aTB)(aul:Df K "is_grid" acT aRQ aTC)(aum:Df K "turned_pile" acV aRR aTD)(aun:Df K "turned_over" acX aRS aTE)(auo:Df K "laid" acZ aRT aTF)(aup:Df K "columns_of" ac1 aRU aTG)(auq:Df K "first_folded" ac2 aRV aTH)(aur:Df K "is_fold" ac3 aRW aTI)(aus:Df K "folded_once" ac4 aRX aTJ)(aut:Df K "folded" ac5 aRY aTK)(auu:Df K "alike_when_folded" ac6 aRZ aTL)(auv:Df K "move_between" ac7 aR0 aTM)(auw:Df K "claim_holds" adc aR1 aTN)(aux:Df K "lies_of" ade aR2 aTO)(auy:Df K "holds_of" adf aR3 aTP)(auz:Df K "named_cards" adi aR4 aTQ)(auA:Df K "sides_of" adk aR5 aTR)(auB:Df K "have_room" adn aR6 aTS)(auC:Df K "sides_in_reach" adr aR7 aTT)(auD:Df K "all_cases" ads aR8 aTU)(auE:Df K "failing_cases" adt aR9 aTV)(auF:Df K "first_row_of" adu aR_ aTW)(auG:Df K "cases_left" adv aSa aTX)(auH:Df K "first_failing_row" adz aSb aTY)(auI:Df K "fewest_cuts" adB aSc aTZ)(auJ:Df K "turns_and_cuts" adC aSd aT0)(auK:Df K "least_way" adE aSe aT1)(auL:Df K "written" adL aSf aT2)(Tt:Df K "refusal_of" adN aSg aT3)(auM:If K r "Reading.__init__" adO aSh aT4)(auN:Mf K r "add_move" "Reading.add_move" adP aSi aT5)(auO:Mf K r "take_times" "Reading.take_times" adQ aSj aT6)(auP:Mf K r "take_word" "Reading.take_word" adR aSk aT7)(auQ:Mf K r "take_amount" "Reading.take_amount" adS aSl aT8)(auR:Mf K r "take_bracket" "Reading.take_bracket" adT aSm aT9)(auS:Mf K r "end_bracket" "Reading.end_bracket" adU aSn aT_)(auT:Mf K r "end_handling" "Reading.end_handling" adW aSo aUa)(auU:Mf K r "may_end" "Reading.may_end" adZ aSp aUb)(auV:Mf K r "take" "Reading.take" ad0 aSq aUc)(auW:Df K "read_handling" ad1 aSr aUd)(auX:Df K "read_handlings" ad2 aSs aUe)(auY:Mf K u "depth" "Condition.depth" ad4 aSt aUf)(auZ:Mf K u "settle" "Condition.settle" ad6 aSu aUg)(au0:If K u "Condition.__init__" ad7 aSv aUh)(au1:Mf K u "take_card" "Condition.take_card" ad9 aSw aUi)(au2:Mf K u "take_claim" "Condition.take_claim" ad_ aSx aUj)(au3:Mf K u "end_bracket" "Condition.end_bracket" aeb aSy aUk)(au4:Mf K u "take_joint" "Condition.take_joint" aec aSz aUl)(au5:Mf K u "may_end" "Condition.may_end" aed aSA aUm)(au6:Mf K u "take" "Condition.take" aee aSB aUn)(au7:Df K "read_condition" aef aSC aUo)(au8:Df K "first_changed" aej aSD aUp)(au9:Mf K i "rest_of" "Group.rest_of" aem aSE aUq)(au_:Mf K i "has" "Group.has" aeo aSF aUr)(ava:Mf K i "size_of_all" "Group.size_of_all" aep aSG aUs)(avb:Mf K i "enter" "Group.enter" aer aSH aUt)(avc:Df K "brought_to" aes aSI aUu)(avd:If K i "Group.__init__" aet aSJ aUv)(ave:Df K "in_decimal" aev aSK aUw)(ahZ:Df K "tell_row" aey C aUx)(ah0:Df K "count" aez ahD aUy)(ah1:Df K "can" aeA ahE aUz)(ah2:Df K "way" aeB y aUA)(ah3:Df K "rank" aeC J aUB)(ah4:Df K "walk" aeD A aUC)(ah5:Df K "act" aeF ahI aUD)(ah6:Df K "shape" aeG I aUE)(ah7:Df K "order" aeH N aUF)(ah8:Df K "tame" aeI D aUG)(ah9:Df K "hand" aeJ ahM aUH)(ah_:Df K "nth" aeK R aUI)(aia:Df K "fate" aeL ahO aUJ)(aib:Df K "holds" aeM ahP aUK)(aic:Df K "sure" aeN E aUL)(aid:Df K "alike" aeP ahR aUM)(aie:Df K "fold" aeQ ahS aUN)(avf:If K JS "Deck.__init__" aeR aSL aUO)(aif:Df K "load" aeT U aUP)(aig:Df K "group" aeU ahU aUQ)(aih:Df K "size_of_group" aeV F aUR)(aii:Df K "member" aeW S aUS)(aij:Df K "orbit" aeX O aUT)(aik:Df K "least" aeY V aUU)(avg:Df K "answer_of" ae0 aSM aUV)(ail:Df K "answers" ae2 aSN ato)[g](G0:Glb mg)(c:@ġ)(v:@il)(aU2:qX K ke "SIGNS"=some @ac)(aU3:@and)(aU4:(Ō,"CARDS_NAMED",aN))(aU5:@ane)(aU6:(Ō,"BINDS",aB))(aU7:@anf)(aU8:(Ō,"CALLS",o))(aU9:(dq,o,ap4 (λk=>[U,C,ahI,I,ahM,N,D,ahE,y,A,ahD,J,R,V,ahO,ahP,E,ahS,ahR,ahU,F,S,O].getD k 0)))(aU_:(Ō,"OWN_NUMBERS",aO))(aVa:@ang)(aVb:(Ō,"CALLS_WITHOUT_LIST",T))(aVc:@aqn):∃fd:nY,(rZ,(@Dy:@â).length,@aqR)/\(r',@G0,(bO,10,g,@Dy,@Wx)):=by let e:=MD.symm.trans (aZJ X Gn ail.a);cases e;calc(Lz,ail.F.ex,λa7 ct vE efd G kn=>?_);calc ab ato (λs us hu=>by subst efd;show Sa (p:=λus=>Kk s _ @jz @aqR) (λ_=>.of_eq @d) us hu) (λbase _ _=>?_);.let Q:@gT:=⟨h,X,Gn⟩;let DS:@as!:={Q.at aU2,aU3};let GC:@yY:={c,{Q.at aU4,aU5,Q.at aU6,aU7}};let DA:@atd:={Q.at aU_,aVa};let GT:@aqQ:={Q.at aVb,aVc};let Gh:=cn Q atp (aEr atp.F @ă);let Tu:=cn Q atq (aEs atq.F @ă);let aVe:=cn Q atr (aEt atr.F @ă);let avh:=cn Q ats (aEu ats.F @ă);let aim:=cn Q att (aEw att.F avh);let aVf:=cn Q atu (aEy atu.F avh);let JU:=cn Q atv (aEz atv.F);let ain:=cn Q atw (aEA atw.F);let aVg:=cn Q atx (aEB atx.F);let aVh:=cn Q aty (aEC aty.F);let aVi:=cn Q atz (aEE atz.F @ă aVh aVg);let avi:=cn Q atA (aEH atA.F @ă Gh);let aVj:=cn Q atB (aEI atB.F @ă Gh JU);let Gi:=cn Q atC (aEK atC.F);let JV:=cn Q atD (aEL atD.F @ă);let aVk:=cn Q atE (aEN atE.F @ă G0 JV);let aio:=cn Q atF (aEO atF.F @ă Gi);let Tv:=cn Q atG (aEP atG.F @ă Gi);let avj:=cn Q atH (aEQ atH.F @ă Tv);let NS:=cn Q atJ (aER atJ.F @ă aio avj);let aip:=cn Q atK (aET atK.F @ă);let avk:=cn Q atL (aEU atL.F @ă aip);let aVl:=cn Q atM (aEV atM.F @ă);let aVm:=cn Q atN (aEW atN.F @ă Gi);let aVn:=cn Q atO (aEY atO.F @ă aVl aip aVm);let avl:=lE Q f.cl atP (aE2 atP.F f);let avm:=lE Q f.cl atQ (aE3 atQ.F f avl);let aiq:=lE Q f.cl atR (aE4 atR.F @ă f);let aVo:=IS Q aUW atU (aE7 atU.F @ă f);let aVp:=cn Q atV (aE9 atV.F @ă avj aVo);let aVq:=cn Q atW (aFb atW.F @ă aiq avm);let aVr:=cn Q atX (aFc atX.F @ă f aiq avm);let aVs:=cn Q atY (aFd atY.F @ă f Gi);let aVt:=cn Q atZ (aFe atZ.F @ă f aVp aVq aVs aVr avl aiq);let aVu:=cn Q at3 (aFf at3.F @ă);let aVv:=cn Q at4 (aFg at4.F @ă ain Tu aim);let Tw:=cn Q at5 (aFi at5.F v DS);let aVw:=cn Q at6 (aFj at6.F @ă Tw);let avn:=cn Q at7 (aFk at7.F v);let avo:=cn Q at8 (aFl at8.F @ă v Tw);let aVx:=cn Q at9 (aFn at9.F @ă v avo);let aVy:=cn Q aua (aFo aua.F v);let aVz:=IS Q aUX aub (aFr aub.F j);let aVA:=cn Q auc (aFs auc.F j Tw aVz aVy aVx avn);let air:=cn Q aud (aFt aud.F @ă Tw aVw aVA);let avp:=cn Q aue (aFA aue.F B);let avq:=cn Q auf (aFB auf.F B Tv);let avr:=cn Q auh (aFC auh.F B aio);let aVB:=cn Q aui (aFD aui.F B);let aVC:=cn Q auj (aFE auj.F B);let aVD:=cn Q auk (aFF auk.F B aVB aip avp avq avr aVC);let avs:=cn Q aul (aFQ aul.F);let aVE:=cn Q aum (aFR aum.F B);let aVF:=cn Q aun (aFS aun.F B aVE);let aVG:=cn Q auo (aFT auo.F B);let aVH:=cn Q aup (aFW aup.F B);let aVI:=cn Q auq (aFX auq.F B aVF);let aVJ:=cn Q aur (aFZ aur.F B c);let aVK:=cn Q aus (aF0 aus.F B c aVH aVI);let aVL:=cn Q aut (aF1 aut.F B aVJ aVK);let aVM:=cn Q auu (aF2 auu.F B Gi);let avt:=cn Q auv (aF3 auv.F B);let aVN:=cn Q auw (aF4 auw.F);let aVO:=cn Q aux (aF5 aux.F B Gi);let avu:=cn Q auy (aF9 auy.F B GC.toDicC aVN);let avv:=cn Q auz (aGd auz.F B);let aVP:=cn Q auA (aGg auA.F Gi);let avw:=cn Q auB (aGh auB.F B);let aVQ:=cn Q auC (aGi auC.F B Tv aio);let aVR:=cn Q auD (aGl auD.F B);let aVS:=cn Q auE (aGn auE.F B avv aVR aVQ avw avu);let aVT:=cn Q auF (aGp auF.F B avp avq avr);let aVU:=cn Q auG (aGt auG.F B avw);let aVV:=cn Q auH (aGy auH.F B aVS aVU aVT aVP);let aVW:=cn Q auI (aGz auI.F B Gh Tu aim JU);let aVX:=cn Q auJ (aGG auJ.F B);let aVY:=cn Q auK (aGH auK.F B Tu JU aVX);let aVZ:=cn Q auL (aGM auL.F B v j);let avx:=IS Q aUY auM (aGP auM.F a Gh);let ais:=(bK,auN,aGR auN.F a JU);let aV0:=(bK,auO,aGT auO.F a c);let aV1:=(bK,auP,aGW auP.F a c aVe ais);let aV2:=(bK,auQ,aGY auQ.F a j Tu aim aVf ais);let aV3:=(bK,auR,aG0 auR.F a j B c Gh);let aV4:=(bK,auS,aG1 auS.F a B c avi aVj ais);let aV5:=(bK,auT,aG3 auT.F a B Gh);let aV6(n:Nat)(sv:Bool)(rf:Int):=(bK,auU,aG9 auU.F a B (n:=n) (sv:=sv) (rf:=rf));let aV7(n:Nat)(sv:Bool)(rf:Int):=(bK,auV,aHa auV.F a j aV2 aV3 aV0 aV1 aV5 aV4 (n:=n) (sv:=sv) (rf:=rf));let avy(n:Nat)(sv:Bool):=(H2,aG5 r n sv 0,_M.alQ n sv,aV7 n sv 0,aV6 n sv 0);let NT:=cn Q auW (aHb auW.F a avx (x!,@Å));let aV8:=cn Q auX (aHc auX.F a avx (x!,@o));let aV9:=(cE,auY,aHd auY.F d B);let ait:=(cE,auZ,aHf auZ.F d B GC);let aV_:=IS Q aUZ au0 (aHk au0.F d);let aWa:=(cE,au1,aHm au1.F d j B GC);let aWb:=(cE,au2,aHo au2.F d B GC aV9);let aWc:=(cE,au3,aHr au3.F d ait);let aWd:=(cE,au4,aHt au4.F d ait aWc);let aWe(n:Nat)(rf:Int):=(cE,au5,aHw au5.F d (n:=n) (rf:=rf));let aWf(n:Nat)(rf:Int):=(cE,au6,aHx au6.F d j aWa aWb aWd (n:=n) (rf:=rf));let aWg(n:Nat):=(H2,aHu u n 0,_M.aAe n,aWf n 0,aWe n 0);let avz:=cn Q au7 (aHy au7.F d aV_ aWg ait);let avA:=cn Q au8 (aHC au8.F B);let avB:=(m2,au9,aHD au9.F B t JU);let aWh:=(m2,au_,aHF au_.F B avA avB);let aWi:=(m2,ava,aHG ava.F B t);let aWj:=(m2,avb,aHM avb.F B t avA avi JU avB);let aWk:=cn Q avc (aHO avc.F B);let avC:=IS Q aU0 avd (aHQ avd.F B t Gh aWj);let avD:=cn Q ave (aHV ave.F B);let aWl:=cn Q ahZ (aHX ahZ.F b);let aWm:=cn Q ah0 (aHZ ah0.F B b avD avk);let aat:=cn Q ah1 (aH1 ah1.F B c b JV NS);let aWn:=cn Q ah2 (aH4 ah2.F B c b JV NS aVt);let aWo:=cn Q ah3 (aH6 ah3.F B c b JV NS avD aVn);let aWp:=cn Q ah4 (aH8 ah4.F B c b aVu aVv);let aWq:=cn Q ah5 (aIc ah5.F B b a NT ain (CP:=g));let aWr:=cn Q ah6 (aId ah6.F B b a NT aVZ air);let aWs:=cn Q ah7 (aIe ah7.F B b a NT aVi (CP:=g));let aWt:=cn Q ah8 (aIf ah8.F B b a NT ain NS (CP:=g));let aWu:=cn Q ah9 (aIg ah9.F B b a NT (CP:=g));let aWv:=cn Q ah_ (aIn ah_.F B c b avo avn avk aVD);let aWw:=cn Q aia (aIo aia.F B b Tv);let aWx:=cn Q aib (aIp aib.F B b d avz avu aVO);let aWy:=cn Q aic (aIq aic.F B c b d avz avv aVV);let aWz:=cn Q aid (aIv aid.F B c b avs aVM);let aWA:=cn Q aie (aIw aie.F B c b avs aVG aVL);let aWB:=IS Q aU1 avf (aIz avf.F B b);let aWC:=cn Q aif (aIB aif.F B c b aVk);let aWD:=cn Q aig (aIE aig.F B c b a aV8);let aWE:=cn Q aih (aIG aih.F B c b avC aWi);let aWF:=cn Q aii (aII aii.F B c b avC aWh JV avt);let aWG:=cn Q aij (aIK aij.F B c b aWk);let aWH:=cn Q aik (aIP aik.F B c b JV NS aVW aVY avt);let GA:(Ir,JS,λk=>[U,C,ahI,I,ahM,N,D,ahE,y,A,ahD,J,R,V,ahO,ahP,E,ahS,ahR,ahU,F,S,O].getD k 0):={c,Q.at aU8,aU9,λk hk=>match k,hk with|0,_=>aWC.to8 Q aif|1,_=>aWl.to8 Q ahZ|2,_=>aWq.to8 Q ah5|3,_=>aWr.to8 Q ah6|4,_=>aWu.to8 Q ah9|5,_=>aWs.to8 Q ah7|6,_=>aWt.to8 Q ah8|7,_=>aat.to8 Q ah1|8,_=>aWn.to8 Q ah2|9,_=>aWp.to8 Q ah4|10,_=>aWm.to8 Q ah0|11,_=>aWo.to8 Q ah3|12,_=>aWv.to8 Q ah_|13,_=>aWH.to8 Q aik|14,_=>aWw.to8 Q aia|15,_=>aWx.to8 Q aib|16,_=>aWy.to8 Q aic|17,_=>aWA.to8 Q aie|18,_=>aWz.to8 Q aid|19,_=>aWD.to8 Q aig|20,_=>aWE.to8 Q aih|21,_=>aWF.to8 Q aii|22,_=>aWG.to8 Q aij|n+23,q=>absurd q @e};let aWI:=cn Q avg (aIT avg.F B b GA);show aI6 ail.F B DA GT aWB aWI
universe _T
end
open PySem PySem.W PyProof.Rows _T in set_option maxRecDepth 100000 in set_option maxHeartbeats 0 in 
theorem PySem.Challenge.cw_turnedcards_s01_answers_holds : PySem.Challenge.rw_turnedcards_s01_answers.Holds := by
 refine hd0.2 ⟨?_⟩;refine _L.aDm (r:=PySem.Challenge.rw_turnedcards_s01_answers) (k:=10) (CX:=_L.br) (ps:=["calls"]) (sp:=_T.ae3) (by decide+kernel) rfl rfl ⟨rfl,by decide,by decide⟩ (λw h Y=>PySem.W.kIn_of Y) ?F ?S (λ_ _ _ _ z=>z);case F=>intro w mg g h Y B G l;have Q:Qx PySem.Challenge.rw_turnedcards_s01_answers.1 w _ mg h:=⟨h,B,G⟩;exact _T.aI7 B G l (by as_aux_lemma=>k_is) (by as_aux_lemma=>k_is) (by as_aux_lemma=>k_is) (by as_aux_lemma=>k_is) (by as_aux_lemma=>k_is) (by as_aux_lemma=>k_is) ⟨IU,jW,jW,jW,jW⟩ ⟨IU,jW,jW,jW,jW,jW⟩ ⟨IU,jW,jW,jW,jW,jW,jW,jW,jW,jW⟩ ⟨IU,jW,jW,jW,jW,jW,jW,jW⟩ ⟨IU,jW,jW⟩ ⟨IU,jW,jW,jW⟩ cp cp cp cp cp cp cp cp cp cp cp cp cp cp cp cp cp cp cp cp cp cp cp cp cp lF lF lF IT cp cp cp cp cp cp cp cp cp cp cp cp cp IT cp cp cp cp cp cp cp cp cp cp cp cp cp cp cp cp cp cp cp cp cp cp cp cp cp cp cp cp cp cp cp cp cp cp cp cp IT lF lF lF lF lF lF lF lF lF cp cp lF lF IT lF lF lF lF lF lF cp cp lF lF lF lF cp IT cp cp cp cp cp cp cp cp cp cp cp cp cp cp cp cp cp cp IT cp cp cp cp cp cp cp cp ⟨⟨Q.non,Q.non,Q.non,Q.non,Q.non,Q.non,Q.non,Q.non,Q.non,Q.non,Q.non,Q.non⟩,Q.non,Q.non,Q.non,Q.non,Q.non⟩ ⟨Q.val⟩ ⟨Q.val,Q.val,Q.val,Q.val,Q.val,Q.val,Q.val,Q.val,Q.val,Q.val,Q.val,Q.val,Q.val,Q.val,Q.val,Q.val,Q.val,Q.val,Q.val,Q.val,Q.val,Q.val,Q.val⟩ ⟨Q.val,Q.val,Q.val,Q.val,Q.val,Q.val⟩ (by as_aux_lemma=>k_is) (LG (by decide+kernel) (by as_aux_lemma=>k_is) ⟨rfl,rfl,rfl⟩ rfl (by exact .cons ⟨⟨_,rfl⟩,rfl,⟨_,rfl⟩⟩ (.cons ⟨⟨_,rfl⟩,rfl,⟨_,rfl⟩⟩ (.cons ⟨⟨_,rfl⟩,rfl,⟨_,rfl⟩⟩ (.nil)))) (by decide+kernel)) (by as_aux_lemma=>k_is) (LG (by decide+kernel) (by as_aux_lemma=>k_is) ⟨rfl,rfl,rfl⟩ rfl (by exact .cons ⟨⟨_,rfl⟩,rfl,⟨_,rfl⟩⟩ (.cons ⟨⟨_,rfl⟩,rfl,⟨_,rfl⟩⟩ (.cons ⟨⟨_,rfl⟩,rfl,⟨_,rfl⟩⟩ (.nil)))) (by decide+kernel)) (by as_aux_lemma=>k_is) (LG (by decide+kernel) (by as_aux_lemma=>k_is) ⟨rfl,rfl,rfl⟩ rfl (by exact .cons ⟨⟨_,rfl⟩,rfl,⟨_,rfl⟩⟩ (.cons ⟨⟨_,rfl⟩,rfl,⟨_,rfl⟩⟩ (.cons ⟨⟨_,rfl⟩,rfl,⟨_,rfl⟩⟩ (.cons ⟨⟨_,rfl⟩,rfl,⟨_,rfl⟩⟩ (.nil))))) (by decide+kernel)) (by as_aux_lemma=>k_is) (LG (by decide+kernel) (by as_aux_lemma=>k_is) ⟨rfl,rfl,rfl⟩ rfl (by exact .cons ⟨⟨_,rfl⟩,rfl,rfl⟩ (.cons ⟨⟨_,rfl⟩,rfl,rfl⟩ (.cons ⟨⟨_,rfl⟩,rfl,rfl⟩ (.cons ⟨⟨_,rfl⟩,rfl,rfl⟩ (.cons ⟨⟨_,rfl⟩,rfl,rfl⟩ (.cons ⟨⟨_,rfl⟩,rfl,rfl⟩ (.cons ⟨⟨_,rfl⟩,rfl,rfl⟩ (.cons ⟨⟨_,rfl⟩,rfl,rfl⟩ (.cons ⟨⟨_,rfl⟩,rfl,rfl⟩ (.cons ⟨⟨_,rfl⟩,rfl,rfl⟩ (.cons ⟨⟨_,rfl⟩,rfl,rfl⟩ (.cons ⟨⟨_,rfl⟩,rfl,rfl⟩ (.cons ⟨⟨_,rfl⟩,rfl,rfl⟩ (.cons ⟨⟨_,rfl⟩,rfl,rfl⟩ (.cons ⟨⟨_,rfl⟩,rfl,rfl⟩ (.cons ⟨⟨_,rfl⟩,rfl,rfl⟩ (.cons ⟨⟨_,rfl⟩,rfl,rfl⟩ (.cons ⟨⟨_,rfl⟩,rfl,rfl⟩ (.cons ⟨⟨_,rfl⟩,rfl,rfl⟩ (.cons ⟨⟨_,rfl⟩,rfl,rfl⟩ (.cons ⟨⟨_,rfl⟩,rfl,rfl⟩ (.cons ⟨⟨_,rfl⟩,rfl,rfl⟩ (.cons ⟨⟨_,rfl⟩,rfl,rfl⟩ (.nil)))))))))))))))))))))))) (by decide+kernel)) (by as_aux_lemma=>k_is) (LG (by decide+kernel) (by as_aux_lemma=>k_is) ⟨rfl,rfl,rfl⟩ rfl (by exact .cons ⟨⟨_,rfl⟩,rfl,⟨_,rfl⟩⟩ (.cons ⟨⟨_,rfl⟩,rfl,⟨_,rfl⟩⟩ (.cons ⟨⟨_,rfl⟩,rfl,⟨_,rfl⟩⟩ (.nil)))) (by decide+kernel)) (by as_aux_lemma=>k_is) (aDx (by as_aux_lemma=>k_is) rfl rfl (by decide+kernel) (.cons ⟨_,rfl⟩ (.cons ⟨_,rfl⟩ (.cons ⟨_,rfl⟩ (.cons ⟨_,rfl⟩ (.cons ⟨_,rfl⟩ (.cons ⟨_,rfl⟩ (.nil))))))))
 case S=>intro K H xs a t I y hx;cases hx with|cons h1 h2=>cases h2;cases h1 with|lst hs ha=>have e:=_L.aC6 a.1 _ ha;subst e;have q:((OE.inLen 0 17000 a.1&&a.1.all (OE.inInt (-1000000000000000000) 1000000000000000000))&&true)=true:=I;rw[eZ,eZ]at q;exact⟨_,a.1,rfl,hs,(OE.inNat_iff.mp q.1.1).2,y,λH' p hp=>.lst (_L.ak.of hp) (_L.aC5 _)⟩
#print axioms PySem.Challenge.cw_turnedcards_s01_answers_holds
