import PyProof.Rows.All
import Wide.All
import OpenK.AllK
import Wide.FinOn
import Lean
import PyProof.EqAt
import PyProof.EqKinds
import PyProof.TupleCall
import PyProof.ZipIter
import PyProof.NeKinds
import PyProof.SeqI3
import PyProof.MaxThree
import PyProof.CompUse
import PyProof.EnumMake
import PyProof.Draws
import PyProof.EnumFor
import PyProof.Rows.EnumRows
import PyProof.DictFindH
import PyProof.DictRoadsH
import PyProof.TupleKey
import PyProof.DictWalks
import PyProof.AttrMissHeap
import KE.KDictOf
import KE.KDictList
import KE.KSortTup
import PyProof.ListRange
import KE.KUnpack
import PyProof.Rows.SetFrom
import KE.KEqDict
import PySem.Challenge.RW_millpath_k27_rings_cover
set_option maxHeartbeats 4000000
set_option Elab.async false
set_option linter.all false
set_option maxRecDepth 100000
set_option genSizeOf false
set_option bootstrap.genMatcherCode false
local macro_rules | `(tactic| rfl')=>`(tactic| decide +kernel)
noncomputable section
open List renaming length_map->a_,getElem?_eq_getElem->b_,map_cons->d_,getElem?_eq_some_iff->e_,perm_middle->f',length_cons->gV,size_toArray->g_,mem_map->h_,mem_cons->i_,mem_cons_of_mem->j_,length_append->n_,getElem?_map->o_,range->p_,perm_append_comm_assoc->q_,Perm.trans->r_,mem_cons_self->t_,mem_append_right->u_,take_length->v_,append_assoc->w_,mem_singleton->x_,mem_map_of_mem->y_,map_append->z_,length_range->B_,replicate->B',mem_append->C',getD_eq_getElem?_getD->D_,nodup_cons->E_,mem_of_getElem?->F_,map_map->F',mem_range->mo,pairwise_map->J_,mem_append_left->K',length_take->L_,append_nil->L',length_set->Mc,take_add_one->Md,mem_filter->Mf,not_mem_nil->Mg,filter_cons->Mh,eq_nil_of_length_eq_zero->Mi,getElem?_eq_none->Mj,all_eq_true->Mk,cons_append->Ml,getLastD_cons->Mo,find?_cons->Mq,cons.injEq->Mu,replicate_succ->Mv,getElem?_range->Mw,map->Mx,length_filter_le->Mz,getElem_mem->MG,mem_iff_getElem->MH,cons.inj->MK,length_reverse->ML,map_congr_left->MM,pairwise_iff_getElem->MN,getLastD_eq_getLast?->MO,length_drop->MP,any_eq_true->MQ,pairwise_cons->MR,getElem?_cons_succ->MS,nodup_append->MT,foldl_cons->MU,Perm.append_left->MX,nil_append->MZ,filterMap_cons_some->M_,Pairwise.imp_of_mem->M',reverse_cons->Nb,getElem?_cons_zero->Nc,Perm.swap->Nd,filter_append->Nh,take_append_drop->Ni,range_succ->Nj,getElem?_set_ne->Nk,pairwise_append->Nl,getLast?_eq_getElem?->Nn,findIdx?_eq_some_iff_getElem->Np,filterMap_cons_none->Nq,filterMap_cons->Nu,pairwise_singleton->Nv,length_pos_of_mem->NA,flatten_cons->NB,nodup_nil->NC,perm_append_comm->ND,lookup_cons->NH,mem_reverse->NI,filter_eq_self->NN,map_eq_nil_iff->NO,length_nil->NP,mem_filterMap->NU,getElem?_take_of_lt->NV,map_nil->NW,set_eq_of_length_le->NZ,length_erase_of_mem->N0,Perm.cons->N2,Pairwise.nil->N4,ext_getElem?->N6,filter_congr->N7,getElem?_set_self->N8,append_eq_nil_iff->N9,pairwise_lt_range->N_,filter->Oe,all_cons->Of,countP_cons->Oi,length_replicate->Ol,singleton_append->Om,eraseIdx_sublist->Oo,all_map->Oq,mem_of_mem_drop->Ot,mem_of_mem_take->Ou,set_set->Ox,mem_erase_of_ne->Oy,filter_nil->OA,flatMap_append->OE,set_cons_succ->OH,length_eraseIdx_of_lt->OP,foldl_append->OQ,getElem?_append_left->OT,findIdx?_eq_none_iff->OU,mem_take_iff_getElem->OV,any_map->OZ,nodup_range->O3,eraseIdx_cons_succ->O7,pairwise_filterMap->O8,of_mem_zip->O9,forIn_cons->O_,map_id->Pb,take_of_length_le->Pc,filter_eq_nil_iff->Pe,drop_eq_nil_of_le->Pg,length_singleton->Pj,forIn_nil->Pl,getElem?_zipWith->Pm,mem_iff_getElem?->Pq,getElem_toArray->Pu,any_cons->Pz,length_pos_iff->PH,length_zipWith->PJ,filterMap_map->PK,zip_cons_cons->PQ,getElem_range->P6,mapM_toArray->P9,length->Qa,getElem_inj->Qd,zipIdx_cons->Qf,ext_getElem->Qg,getElem_map->Qk,range'_succ->Ql,flatMap_def->Qm,mem_flatMap->Qn,cons_ne_nil->Qo,drop_length->Qp,foldl->Qq,zipIdx_nil->Qr,zip_append->Qu,all_append->Qv,Perm.refl->QA,take_zero->QC,Perm->QD,map_drop->QI,map_take->QJ,map_set->QQ,zipWith->QR,range'->Q0
open Nat renaming le_refl->c_,ne_of_lt->s_,lt_of_lt_of_le->A',le_trans->G',zero_le->Me,pow_succ->Mn,lt_succ_of_lt->Ms,le_of_lt->Mt,zero_add->My,two_pow_pos->MB,lt_of_le_of_lt->MC,le_of_not_lt->MF,lt_succ_self->MI,lt_irrefl->MW,ne_of_gt->MY,not_lt_zero->Na,pos_of_ne_zero->Nf,add_mul_mod_self_left->Nm,succ.inj->Nr,succ_pos->Nt,lt_of_succ_lt_succ->Nz,le_of_ble_eq_true->NG,max_eq_right->NJ,mod_lt->NL,le_antisymm->NQ,min_eq_left->NS,lt_trans->NX,lt_of_le_of_ne->NY,not_lt->N1,le_succ->Oa,mul_mod->Ob,mul_assoc->Og,le_add_right->Oh,sub_le->Ov,le_sub_one_of_lt->Ow,add_le_add_left->OB,add_lt_add_left->OC,add_sub_cancel'->OD,one_mul->OG,add_right_comm->OI,le_of_eq->OW,add_zero->OX,min_self->OY,succ_le_succ->O0,not_lt_of_le->O1,mod_eq_of_lt->O2,lt_succ_iff_lt_or_eq->O6,dvd_of_mod_eq_zero->Pd,pow_le_pow_right->Pw,eq_or_lt_of_le->PV,one_lt_two_pow->PX,mul_succ->PY,le_of_lt_succ->P7,add_sub_assoc->P8,lt_of_succ_lt->P_,mul_one->Qb,lt_of_not_le->Qi,le_add_left->Qs,div_le_self->Qw,add_assoc->QG,mul_comm->QL,sub_zero->QM,pow_zero->QN,le_total->QO,lt_or_ge->QP,zero_mul->QU,one_pos->QW,pow_mul->QX,pow_add->QY,mul_add->QZ,add_mul->Q2,sub_lt->Q3,not_le->Q4
open Int renaming toNat_natCast->Mr,add_zero->MA,eq_ofNat_of_zero_le->MD,emod_lt_of_pos->Ng,emod_nonneg->Ny,zero_add->NF,natCast_mul->NT,toNat_of_nonneg->OF,fdiv_eq_ediv_of_nonneg->OJ,fmod_eq_emod_of_nonneg->OK,mul_comm->O5,add_assoc->PD,natCast_nonneg->P4,add_sub_cancel->P5,lt_trichotomy->P',add_mul->Qc,natCast_add->Qx,mul_nonneg->QB,min_comm->QS,max_comm->QT,ne_of_lt->QV,le_refl->Q1,not_lt->Q5,not_le->Q6,toNat->Q7
open Option renaming some.inj->H_,map_eq_some_iff->MV,bind_eq_some_iff->Nw,map->NK,isSome_map->N3,some.injEq->N5,bind_some->Oj,some->Pa,isSome_some->PN,isNone_some->PR,isNone_none->PU,getD_none->Qe,getD_some->Qh
open Bool renaming false_ne_true->C_,false_eq_true->I_,and_eq_true->K_,true_and->MJ,eq_iff_iff->NR,or_eq_false_iff->Oz,false_or->OL,not_true->ON,eq_false_iff->OR,false_and->Ph,not_false->Pn,beq_eq_decide_eq->Po,and_eq_true_iff->Py,and_true->PC,bne_false->Qy,or_false->QE,bne_true->QF,true_bne->QH
open Array renaming getElem?_eq_getElem->k_,length_toList->l_,getElem?_toList->A_,getD_eq_getD_getElem?->J',getElem?_eq_none->Mm,mem_toList_iff->NM,perm_iff_toList_perm->OM,getElem?_eq_some_iff->OO,toList_push->OS,getElem?_replicate->O4,Perm.refl->O',toList_filterMap->Pf,mem_of_getElem?->Pp,forIn_toList->PZ,size_extract->P0,toList_map->Qj,size_map->Qz,toList->QK
open Or renaming inl->f_,inr->m_
open Prod renaming ext->ME,ext_iff->P1
open Eq renaming trans->Q8
open Classical renaming byContradiction->SY,propDecidable->Y4,axiomOfChoice->Y5
open Decidable renaming of_not_not->Zt
open False renaming elim->Rt
open ForInStep renaming yield->Si,done->SX
open Function renaming comp->Z'
open Ne renaming symm->Ti
open PyProof renaming noPylong_small->V0
open PyProof.Rows renaming arrOf->Rk,wpS_bind->RB,SortSt->RE,Keyed->RQ,wpS_pure->RV,pendingOf->RW,seqObj->RX,callWith_type1->SD,IntsAre->SF,SortKind->S0,wpS_forRange->S3,failedOf->S9,slot_tuple_getitem->Tz,wpS_mono->TZ,subscriptTail->T3,reverseSlice'->T7,AllBare->UA,envOfC->UI,assignInOrder_cons->U6,countRun'->U9,keyKind'->VG,entry_list_sort->VY,subscriptTail_builtinR->V2,wpS_get->Wb,minRun'->Wc,slot_list_sort->Wk,args_list_sort->Wl,Subscript_->Wt,wpS_lift->Wz,getElem?_mirror_all->WO,plain_sorted->W_,entry_sorted->W',args_sorted1->Xa,assignInOrder_nil->Xd,kind_sorted->Xq,oneType'->XF,callWith_builtin1->XQ,bubble->X2,getElem?_bubble->X3,ltAt'->X4,wpS_modify->X5,get?_update_seq->X_,slicePart_none->Yf,tuples'->Yl,listUpdate_at->YD,IsTup->YF,tail_any->YM,minRun'_succ->YT,binarySort'->Ze,seqEpoch_at->Zi,Call_->Zp
open PyProof.Rows.F renaming plain_set_update_loop->Sz,entry_set_update_loop->TB
open PyProof.Rows.IsTup renaming new->WU
open PyProof.Rows.SortSt renaming mk'->Vu
open PySem renaming wpAny_bind->Q9,Value->Q_,Addr->Ra,wpAny_pure->Rc,Shared->Rf,wpAny->Rh,Program->Rj,model->Rn,World->Ro,Heap->Rq,Expr->Rr,starEach->Ru,Around->Rw,FuncData->Rx,wpAny_holding->Ry,wpAny_newObj_type->RA,eval->RF,Stmt->RG,sysModules->RI,compareOp->RJ,wpAny_mono->RL,wpAny_call_entry->RM,wpAny_callSpecial?_slot->RS,SetTable->RT,wpAny_dictEntries->RY,codeAny_builtin->R1,intItems->R3,mainGlobals->R6,wpAny_setState_of->R7,rawInt->R8,Builtin->R9,assignEach->R',wpAny_pyIter_tuple->Sa,foldedSetIterable->Sb,wpAny_field->Sd,Scope->Se,binaryOp->Sf,wpAny_pyIter_list->Sh,wpAny_ite_split->Sj,tupleKind->Sl,wpAny_rule->Ss,wpAny_seqItems->Su,wpAny_setField->Sv,wpAny_truthy_bool->SA,mem_of_lookup->SE,codeAny_mono->SH,IsPair->SM,wpAny_attempt->SN,pyNext->SQ,wpAny_Call_Name_kw->SS,plainId_quiet->S4,wpAny_typeNameOfWhole_keyiter->S6,codeAny->S7,firstArgMember->S8,backTo->Ta,tupleKind_room_in1->Tc,DictEntry->Td,wpAny_setField_rec->Te,intKind->Tg,wpAny_passesOwn->Tj,wpAny_notOrdered_dict->Tn,sliceBounds->Tr,Paired->Ts,NameKind->Tt,wpAny_isInstance->Tw,holding->TC,wpAny_standAt->TH,fits_of_scanBound->TQ,bootBuiltins->TR,IsZip->TV,numAt->TY,behindInMarks->T2,attributeBase->T4,wpAny_newList->T5,wpAny_of_eq->T9,wpAny_dictEpoch->Ua,swapsWith->Ub,assign->Uc,wpAny_typeOf->Ue,Model->Ui,storedH->Uk,wpAny_storeSet_of->Ur,ofAClassStatement->Us,pyIter->Ut,wpAny_letGo->Uw,intItems_at->Ux,comprehension->Uy,wpAny_forIn_list->Uz,builtinLookup_eq_fast->UC,entryOfKey->UE,wpAny_execs_nil->UG,letOwnedTupleGo->UH,call_meets->UJ,wpAny_specialOf->UK,wpAny_updateSeq_pair->UL,wpAny_setEntries_of->UT,getItem->UX,Keyword->UY,isSubtype_stop->U0,wpAny_fieldsOf->U1,wpAny_runValue->U3,subscripted->U5,assignInOrder->Vb,swapsWithSole->Vc,swappedStores->Vd,wpAny_handled->Vf,wpAny_onRaise->Vg,Comprehension->Vh,wpAny_pyIter_slot->Vm,wpAny_setEpoch_of->Vo,wpAny_load->Vp,wpAny_missedRemoval_other->Vr,intKind_is->Vs,valueAt->Vw,callerA->Vx,GenState->Vy,Operator->Vz,noFill_tuple_add->VA,IsPart->VB,wpAny_getItem_list_slice->VC,Params->VD,newExc->VE,relayAll->VH,setAddHashed->VI,wpAny_askSetting->VJ,CmpOp->VP,atKey->VQ,seqItems?->VS,typeLookup_type->VT,codeAny_of_tree->VX,wpAny_pyNext_list_item->VZ,keywordEach->V3,wpAny_throw->V4,codeAny_compStart_list->V5,hashByValue->V7,wpAny_pyNext_list_end->V9,BindsTo->V_,getitemInPython_of_ne->V',wpAny_isOneOf_keyiter->Wa,ItemsOf->We,isSubtype_type->Wh,weight_type_call_type->Wj,wpAny_eqIsQuiet_tuple->Wn,builtinsNs->Wo,wpAny_loadName_local->Wq,bindL->Wr,bindC->Ws,wpAny_letTemporaryGo->Wv,field->Ww,wpAny_newFunctionEnv->Wx,sliceRange->Wy,wpAny_pyIter_keyiter->WA,codeAny_call_builtin->WD,seq_tuple_add->WH,evalPart_none->WI,evalPart_some->WJ,wpAny_loadName_cell->WN,wpAny_dictFind_heap->WQ,isTrue->WT,PassesOwn->WV,lastMarks->WW,wpAny_List_spliced->WX,Result->WY,concat_meets->WZ,seqIndex_neg->W4,slicePick->W5,getattributeRaised->W6,call_meetsIn->W7,collect->Xb,wpAny_assign_Name->Xc,wpAny_pyIter_enum->Xh,searchCouldBeSeen->Xl,seqIndex_of->Xn,wpAny_eqBool_int->Xr,wpAny_execs_cons->Xs,bindName->Xt,backToKw->Xu,newTuple->Xw,raiseNew->Xx,wpAny_comp_letGo->XA,wpAny_pyIter_zip->XB,entryFor->XD,entryFor_of_tree->XE,HeapKind->XG,check_set_init_1->XJ,wpAny_Name->XN,wpAny_call->XO,typeLookup->XR,call_tuple_same->XS,typeIs_int->XT,typeOf->XU,wpAny_operating->XX,call->XY,IsTupleKey->X1,argsOk->X6,wpAny_updateSeq->X8,checkCount->X',size_of_entries->Ya,setItem->Yb,standAt->Yc,wpAny_bindName->Yd,Slot->Yg,letTemporaryGo->Yi,wpAny_newTuple->Yj,argBest->Yk,setAddHashedIn->Ym,entryFor_alias->Yn,setNext->Yo,storeName->Yr,cellsFrom->Ys,intBits_le_64->Yu,call_list_seq->Yw,wpAny_standIf->Yz,signature?_of->YA,setSearchFrom->YE,Drawn->YG,bindArgs->YL,callType_new->YO,IsEnum->YQ,storeSet->YW,setAdd->YZ,wpAny_mkInt->Y8,interactive->Y9,IsRangeIter->Y_,wpAny_Slice->Y',unsupported->Zf,idxH_unique->Zg,operate->Zk,newList->Zl,MeetsIn->Zm,table->Zq,Walks->Zs
open PySem.Around renaming under_plainId->RU,under_plain->W9
open PySem.AutoListH renaming list___mul___list_int_3->Xo
open PySem.AutoSeq1 renaming wpAny_loadPart'->Tx,list_extend_list_list_0->Xv,list_reverse_list_0->Yh
open PySem.Builtin.Dict renaming showsAll->UB,keyAndDefault->Vi,dictSlotArgs->Vv,updateFrom->VM,samePairs->V8,takeOut->WB,dictSlotNone->YI,pendingCount->YJ,addKeywords->YR,selfAndRest->YS,pairItems->Zc
open PySem.Builtin.Dict_items renaming ownsTuple->U2
open PySem.Builtin.Frozenset renaming updateFrom->U4,newClass->YB,sizeOf->YY,slot0->Y2
open PySem.Builtin.List renaming listTooLong->Tv,listLengthHint->U_,listExtendWith->U',listSameRef->VL,listFitsIndex->Yx,listUpdate->Y3
open PySem.Builtin.Range renaming rangeSize->Y0
open PySem.Builtin.Slice renaming slicePlaces->Tp,sliceAdjust->T',sliceApplied->Ve,slicePartIndex->Ye,sliceFields->YH
open PySem.Builtin.SmallTypes renaming nextOf->RP,ownedTupleIsFree->Sw,ownedTupleHandOut->Ug
open PySem.Builtin.Tuple renaming tupleExact->Tu,tupleItemsOf->Yv
open PySem.Calls renaming spliced_cons->SR,call_function_entry->Tq,callWith_builtin->Uv,Name_function_global->Va,evalArgs_plain->Wu,spliced_nil->Xe
open PySem.Code renaming quiet_builtin->W8
open PySem.Data renaming cell->VO,fields->Xm,seq->YN
open PySem.Env renaming kindOf->XZ
open PySem.F renaming called_set->R4,slot_list_append->Sn,type_list_append->So,slot_dict_keyiterator_next->Sx,slot_tuple_iterator_next->To,args_tuple_add_2->Ud,slot_list_getattribute->Uh,entry_tuple_add->Ul,plainAttrs_list->Um,plain_list_iadd->Uo,slot_tuple_add->Uu,slot_dict_pop->UD,slot_zip_next->UM,args_dict_keyiterator_next_1->UN,entry_dict_keyiterator_next->US,args_tuple_iterator_next_1->UZ,entry_tuple_iterator_next->U7,slot_dict_getitem->Vq,plain_extend_loop->Vt,args_dict_pop_3->VN,entry_dict_pop->V6,slot_dict_len->Wd,entry_proto_collect->Wf,plain_proto_collect->Wg,sub_list_frozenset->WE,slot_dict_eq->WG,args_zip_next_1->Xf,entry_list_iadd->Xi,entry_type_call->Xj,entry_zip_next->Xy,slot_dict_iter->XC,typeCall_set_1->XH,entry_set_init->XI,slot_int_rmul->XW,slot_set_iter->X7,plain_set_new->X9,sub_list_set->Yp
open PySem.Flow renaming next->ZF
open PySem.Heap renaming get?_push_of_some->Rg,get?_push_size->Ri,lt_size->Rm,size_push->RK,SameBut->RN,get?_update_self->RR,get?_update_other->SK,ExtBut->TJ,DictOfH->UO,get?_update_ne->UU,push->U8,IsTuple->VF,get?_push_ne->Xk,IsList->Xp
open PySem.Heap.DictOf renaming new->Z6
open PySem.Heap.DictOfH renaming typeIs->WR,new->ZU
open PySem.Heap.IsList renaming push->Xz,extBut->ZH
open PySem.Heap.IsListIter renaming extBut->Zb
open PySem.Heap.IsSliceOf renaming new->W0
open PySem.Heap.IsTuple renaming push->Xg,extBut->Zy
open PySem.Heap.IsTupleIter renaming extBut->Y1
open PySem.Heap.SameBut renaming update->RD,refl->ZN
open PySem.IsL renaming update->ZQ
open PySem.Manifest renaming sig_set_iterator->YK,owners->Z8
open PySem.Moved renaming trans->Zh
open PySem.NameKind renaming free->SO,cell->Z_
open PySem.Obj renaming data_mapFields->RO,mapSeq->R5,isFreed_of_fields->SU,cls_mapFields->TM,mapFields->T6,putSet->UP,data_mapDictKeys->WC
open PySem.Paired renaming length->Sg,snoc->Za
open PySem.PassesOwn renaming never->Rv
open PySem.SeqAt.EqAt renaming same->XM,int_none->Zu,str_none->Zv,none_int->Zw,none_str->Zx,int_str->ZD,str_int->ZE
open PySem.SeqAt.RcAt renaming tuples->ZO,lists->ZW
open PySem.SeqAt.RcNeAt renaming tuples->ZA,lists->ZJ
open PySem.SetTable renaming below->RC,insertAt->RZ,Probe->R_,sizeAbove->Sm,grown->Sy,bits->S5,turns->S_,advance->T1,slot->T8,runEnd->UQ,fill->Vj,layClean->Vn,laid->WK,fits->WL,toList_insertAt->YU,has->YV,sameMemory->ZC,orStandIn->ZI,freeSlot->ZM,gaveWay->ZX,relaid->Z7
open PySem.SetTable.Met renaming candidate->Zj,empty->ZK
open PySem.SetTable.below renaming go->Uq
open PySem.SetTable.layClean renaming free->TL
open PySem.SetTable.probe renaming go->TN
open PySem.SetTable.sizeAbove renaming go->Wm
open PySem.Shared renaming heap->T_,TypeIs->YC
open PySem.Str renaming ofString->SJ
open PySem.Value renaming ref->Rz,none->R0,int->Sk,type->Sr,str->Yq,isStrOf->Yt,isInt->Y6,bool->Zo
open PySem.W renaming Frag->Rb,fnOf->Tb,keepIn->Uj,nsIn->UR,codeIn->UW,mg_of->Vk,methodObj->Vl,OpenLaw->VR,kat_nil->VU,cellsFrom_some->V1,kHook->WM,WalkO->Yy
open PySem.W.Hook renaming keeps->ZL,says->ZP,obs->ZY,val->ZZ,of->Z9
open PySem.W.KatTups renaming cons->Zr,nil->Zz
open PySem.W.XL renaming keeps->Z0
open PySem.Walks renaming list->X0,tuple->Zd
open PySem.pickOrder renaming go->YX
open Std.Legacy.Range renaming forIn_eq_forIn_range'->WS,size->Zn
open Sum renaming inr->RH,inl->Tf
open Sum.inl renaming inj->Y7
open True renaming intro->TU
namespace L2
open PySem PySem.Spec PyProof.Rows
abbrev Key:=Sum Int (Option Str)
noncomputable def sf:Key->Q_->Bool
 | .inl k,v=>Y6 k v
 | .inr (some x),v=>Yt x v
 | .inr none,.none=>true
 | .inr none,_=>false
noncomputable def LL(w:Ro):Key->Int
 | .inl k=>hashInt k
 | .inr (some x)=>hashStr w x
 | .inr none=>4238894112
theorem fM:∀{k:Key}{v:Q_},sf k v=true->(∃i t,k=Tf i/\v=Sk i t)\/(∃x t,k=RH (some x)/\v=Yq x t)\/(k=RH none/\v=R0)
 | .inl i,v,h=>by obtain⟨t,e⟩:=Value.isInt_shape (k:=i) (v:=v) h;exact .inl ⟨i,t,rfl,e⟩
 | .inr (some x),v,h=>by obtain⟨t,e⟩:=Value.isStrOf_shape (x:=x) (v:=v) h;exact .inr (.inl ⟨x,t,rfl,e⟩)
 | .inr none,v,h=>by cases v <;> first|exact .inr (.inr ⟨rfl,rfl⟩)|cases h
theorem AB(i:Int)(t:Tok):sf (.inl i) (.int i t)=true:=by simp[sf,Y6]
theorem A2(x:Str)(t:Tok):sf (.inr x) (.str x t)=true:=by simp[sf,Yt]
theorem IH(a b:Int):decide ((Tf a:Key)=Tf b)=(a == b):=by
 by_cases e:a=b
 ·subst e;simp
 have h:¬(Tf a:Key)=Tf b:=λq=>e (Y7 q);rw[decide_eq_false h];exact(beq_eq_false_iff_ne.mpr e).symm
theorem Ja(a b:Str):decide ((RH (some a):Key)=RH (some b))=decide (a=b):=by
 by_cases e:a=b
 ·subst e;simp
 have h:¬(RH (some a):Key)=RH (some b):=λq=>e (H_ (Sum.inr.inj q));rw[decide_eq_false h,decide_eq_false e]
variable {A:Rw}{E:Q_->Rf->Prop}{s:Rf}{w:Ro}
theorem DK{prog:Rj}{Q:Int->Rf->Prop}(h:Q 4238894112 {s with toks:=s.toks+1}):Rh (Rn prog w) A (PySem.pyHash .none) Q E s:=
 PySem.W.pyHash_slot (T:="NoneType") rfl F.slot_NoneType_hash F.entry_NoneType_hash (F.args_NoneType_hash_1 _) (beq_builtin_none _) (.inl rfl) (Q9 (Rc (Q9 (Y8 (Rc ⟨_,_,rfl,h⟩)))))
def br(prog:Rj)(w:Ro):PySem.KeyKind prog w Key where
 is:=sf
 hash:=LL w
 inj:=λv a b ha hb=>by rcases fM ha with⟨i,t,rfl,rfl⟩|⟨x,t,rfl,rfl⟩|⟨rfl,rfl⟩ <;> rcases fM hb with⟨j,u,rfl,e⟩|⟨y,u,rfl,e⟩|⟨rfl,e⟩ <;> cases e <;> rfl
 byValue:=λk v h=>by rcases fM h with⟨i,t,rfl,rfl⟩|⟨x,t,rfl,rfl⟩|⟨rfl,rfl⟩ <;> rfl
 pyHash:=λhv h=>by
  rcases fM hv with⟨i,t,rfl,rfl⟩|⟨x,t,rfl,rfl⟩|⟨rfl,rfl⟩
  ·exact wpAny_pyHash_int h
  ·exact wpAny_pyHash_str h
  exact DK h
 eqBool:=λhu hv h=>by
  rcases fM hu with⟨i,t,rfl,rfl⟩|⟨x,t,rfl,rfl⟩|⟨rfl,rfl⟩ <;> rcases fM hv with⟨j,u,rfl,rfl⟩|⟨y,u,rfl,rfl⟩|⟨rfl,rfl⟩
  ·rw[IH]at h;exact Xr h
  ·exact ZD i t y u _ _ _ _ h
  ·exact Zu i t _ _ _ _ h
  ·exact ZE x t j u _ _ _ _ h
  ·rw[Ja]at h;exact wpAny_eqBool_str h
  ·exact Zv x t _ _ _ _ h
  ·exact Zw j u _ _ _ _ h
  ·exact Zx y u _ _ _ _ h
  exact XM _ _ _ _ _ h
 «strs»:=λk x t v h=>by
  rcases fM h with⟨i,u,rfl,e⟩|⟨y,u,rfl,e⟩|⟨rfl,e⟩
  ·exact nomatch e
  ·injection e with e1 _
   subst e1;cases v <;> rfl
  exact nomatch e
theorem vG(prog:Rj)(w:Ro)(i:Int)(t:Tok):(br prog w).is (.inl i) (.int i t)=true:=AB i t
theorem uF(prog:Rj)(w:Ro)(x:Str)(t:Tok):(br prog w).is (.inr x) (.str x t)=true:=A2 x t
inductive V where
 |non|bl (b:Bool)|int (i:Int)|str (x:Str)|byt (b:Array UInt8)|flt (b:UInt64)|ref (a:Ra)|ty (n:String)
 deriving DecidableEq
set_option genInjectivity false
noncomputable def RelV:V->Q_->Prop
 | .non,u=>u=R0
 | .bl b,u=>u=Zo b
 | .int i,u=>∃t,u=Sk i t
 | .str x,u=>∃t,u=Yq x t
 | .byt b,u=>∃t,u=Value.bytes b t
 | .flt b,u=>∃t,u=Value.float b t
 | .ref a,u=>u=Rz a
 | .ty n,u=>u=Sr n
abbrev Vals:List V->List Q_->Prop:=Ts RelV
variable {us:List Q_}{xs:List V}
theorem Vals.length (r:Vals xs us):xs.length=us.length:=Sg r
theorem Vals.get:∀{xs:List V}{us:List Q_}{i:Nat}{x:V},Vals xs us->xs[i]?=some x->∃u,us[i]?=some u/\RelV x u
 | _,_,_,_,.nil,e=>by simp at e
 | _,_,0,_,.cons r _,e=>by simp at e;subst e;exact⟨_,rfl,r⟩
 | _,_,i+1,x,.cons _ t,e=>by obtain⟨u,h1,h2⟩:=Vals.get (i:=i) (x:=x) t (by simpa using e);exact⟨u,by simpa using h1,h2⟩
variable {u:Q_}
theorem Vals.set {x:V}(r:RelV x u):∀{xs:List V}{us:List Q_} (i:Nat),Vals xs us->Vals (xs.set i x) (us.set i u)
 | _,_,_,.nil=>.nil
 | _,_,0,.cons _ t=>.cons r t
 | _,_,i+1,.cons q t=>.cons q (Vals.set r i t)
theorem Vals.append:∀{xs ys:List V}{us ws:List Q_},Vals xs us->Vals ys ws->Vals (xs++ys) (us++ws):=by
 intro xs ys us ws x s;induction x with
 |nil=>exact s
 |cons r t ih=>exact .cons r ih
theorem Vals.take:∀{xs:List V}{us:List Q_} (n:Nat),Vals xs us->Vals (xs.take n) (us.take n)
 | _,_,0,_=>.nil
 | _,_,_+1,.nil=>.nil
 | _,_,n+1,.cons r t=>.cons r (Vals.take n t)
theorem Vals.drop:∀{xs:List V}{us:List Q_} (n:Nat),Vals xs us->Vals (xs.drop n) (us.drop n)
 | _,_,0,r=>r
 | _,_,_+1,.nil=>.nil
 | _,_,n+1,.cons _ t=>Vals.drop n t
def qU:Option V->Option Q_->Prop
 |some v,some u=>RelV v u
 |none,none=>True
 | _,_=>False
def KV{κ:Type}:List (κ×V)->List (κ×Q_)->Prop:=Ts λ(p:κ×V) (q:κ×Q_)=>p.1=q.1/\RelV p.2 q.2
noncomputable def kV:Key->V
 | .inl i=>.int i
 | .inr (some x)=>.str x
 | .inr none=>.non
inductive HO where
 |lst (xs:List V)
 |tup (xs:List V)
 |dK (kvs:List (Key×V))|dT (kvs:List (List Key×V))
 |set (S:Int->Bool) (n:Nat)
 |ins (C dx:Ra) (fs:List (Str×V))
 |own (x:Ra)
 |xd (fs:List (Str×V))
 |met (f x:Ra)
 |rng (lo hi:Int)
 |frz (o:Obj) (u:HO)
 |tbl (ps:Array Q_)
 |ext (φ:Rq->Prop)
abbrev Hp:=Ra->Option HO
noncomputable def upd(H:Hp)(a:Ra)(o:HO):Hp:=λb=>if b=a then some o else H b
variable {H:Hp}{a:Ra}{o:HO}
theorem aU:upd H a o a=some o:=by unfold upd;rw[if_pos rfl]
variable {b:Ra}
theorem aH(h:b≠a):upd H a o b=H b:=by unfold upd;rw[if_neg h]
theorem FU{u:HO}:upd (upd H a o) a u=upd H a u:=by funext b;unfold upd;split <;> rfl
theorem zb{u:HO}(h:H a=some o)(h':H b=some u)(d:o≠u):a≠b:=by intro e;subst e;rw[h]at h';exact d (H_ h')
theorem d7(h:H a=some o)(h':H b=none):a≠b:=by intro e;subst e;rw[h]at h';cases h'
section
variable(P:Rj)(w:Ro)
def cz(H:Hp)(h:Rq)(a:Ra):HO->Prop
 | .lst xs=>xs.length<=sizeLine/\∃(be:List Q_) (n:Nat),Vals xs be/\h.get? a=some { cls:=.type "list",data:=.seq be.toArray n}
 | .tup xs=>xs.length<=sizeLine/\∃be:List Q_,Vals xs be/\YF h a be.toArray
 | .dK kvs=>kvs.length<=sizeLine/\(a == RI)=false/\∃vs,KV kvs vs/\h.DictOf (br P w) a vs
 | .dT kvs=>kvs.length<=sizeLine/\(a == RI)=false/\∃xs:List (List Key×Ra×Q_),
   Ts (λ(p:List Key×V) (q:List Key×Ra×Q_)=>p.1=q.1/\H q.2.1=some (.tup (p.1.map kV))/\RelV p.2 q.2.2) kvs xs/\
   ∃o es ep,h.get? a=some o/\o.ExactDict/\o.data=.dict es ep/\es.toList=xs.map (UE (Sl (br P w)))/\(xs.map (·.1)).Nodup
 | .set S n=>h.SetOf (Tg P w) a S n
 | .ins C dx fs=>H dx=some (.own a)/\fs.length<=1000/\dx≠a/\h.get? a=some (PySem.W.instObj C dx)/\
   ∃mA,h.Ns1 dx mA/\(∀f,qU (fs.lookup f) (mA f))/\PySem.Within mA (fs.map (·.1))
 | .own _=>∃o,h.get? a=some o
 | .xd fs=>∃mA,h.Ns1 a mA/\∀f,qU (fs.lookup f) (mA f)
 | .rng lo hi=>∃t u v,h.get? a=some { cls:=.type "range",data:=.fields #[.int lo t,.int hi u,.int 1 v] }
 | .frz o u=>h.get? a=some o/\cz H h a u
 | .tbl ps=>h.get? a=some { cls:=.none,data:=.fields ps}
 | .met f x=>h.get? a=some (Vl (.ref f) (.ref x))
 | .ext φ=>φ h/\(∃o,h.get? a=some o)/\∀h1 h2:Rq,φ h1->(∀o,h1.get? a=some o->h2.get? a=some o)->φ h2
def HOk(H:Hp)(h:Rq):Prop:=∀a o,H a=some o->cz P w H h a o
end
section
variable{P:Rj}{w:Ro}{H H':Hp}{h h':Rq}{a:Ra}{o:HO}
theorem cz.lt (x:cz P w H h a o):a<h.objs.size:=by
 cases o with
 |lst xs=>obtain⟨_,_,_,_,e⟩:=x;exact Rm e
 |tup xs=>obtain⟨_,_,_,p⟩:=x;exact p.lt
 |dK kvs=>obtain⟨_,_,_,_,o,_,_,e,_⟩:=x;exact Rm e
 |dT kvs=>obtain⟨_,_,_,_,o,_,_,e,_⟩:=x;exact Rm e
 |set S n=>obtain⟨o,_,_,_,e,_⟩:=x;exact Rm e
 |ins C dx fs=>obtain⟨_,_,_,e,_⟩:=x;exact Rm e
 |own y=>obtain⟨_,e⟩:=x;exact Rm e
 |xd fs=>obtain⟨_,⟨_,_,_,e,_⟩,_⟩:=x;exact Rm e
 |rng lo hi=>obtain⟨_,_,_,e⟩:=x;exact Rm e
 |frz ob u=>obtain⟨e,_⟩:=x;exact Rm e
 |tbl ps=>exact Rm (show h.get? a=some _ from x)
 |met f y=>exact Rm (show h.get? a=some _ from x)
 |ext φ=>obtain⟨_,⟨_,e⟩,_⟩:=x;exact Rm e
theorem Paired.Kj {α β:Type}{F G:α->β->Prop}:∀{l₁:List α}{l₂:List β},Ts F l₁ l₂->(∀a b,F a b->G a b)->Ts G l₁ l₂:=by
 intro l₁ l₂ x f;induction x with
 |nil=>exact .nil
 |cons r t ih=>exact .cons (f _ _ r) ih
theorem cz.pL (x:cz P w H h a o)(k:∀b u,(b=a\/H b=some (.own a))->h.get? b=some u->h'.get? b=some u)
  (ho:∀b,H b=some (.own a)->H' b=some (.own a)) (ht:∀b xs,H b=some (.tup xs)->H' b=some (.tup xs)):cz P w H' h' a o:=by
 induction o with
 |lst xs=>obtain⟨z,be,n,r,e⟩:=x;exact⟨z,be,n,r,k _ _ (.inl rfl) e⟩
 |tup xs=>obtain⟨z,be,r,ob,e,c⟩:=x;exact⟨z,be,r,ob,k _ _ (.inl rfl) e,c⟩
 |dK kvs=>obtain⟨z,y,vs,r,ob,es,ep,e,c⟩:=x;exact⟨z,y,vs,r,ob,es,ep,k _ _ (.inl rfl) e,c⟩
 |dT kvs=>
  obtain⟨z,y,xs,r,ob,es,ep,e,c⟩:=x;exact⟨z,y,xs,Paired.Kj r λp q z=>⟨z.1,ht _ _ z.2.1,z.2.2⟩,ob,es,ep,k _ _ (.inl rfl) e,c⟩
 |set S n=>obtain⟨ob,es,ep,t,e,c⟩:=x;exact⟨ob,es,ep,t,k _ _ (.inl rfl) e,c⟩
 |ins C dx fs=>
  obtain⟨d,z,ne,e,mA,⟨od,es,ep,e2,c⟩,r⟩:=x;exact⟨ho _ d,z,ne,k _ _ (.inl rfl) e,mA,⟨od,es,ep,k _ _ (.inr d) e2,c⟩,r⟩
 |own y=>obtain⟨ob,e⟩:=x;exact⟨ob,k _ _ (.inl rfl) e⟩
 |xd fs=>obtain⟨mA,⟨od,es,ep,e,c⟩,r⟩:=x;exact⟨mA,⟨od,es,ep,k _ _ (.inl rfl) e,c⟩,r⟩
 |rng lo hi=>obtain⟨t,u,v,e⟩:=x;exact⟨t,u,v,k _ _ (.inl rfl) e⟩
 |frz ob u ih=>obtain⟨e,q⟩:=x;exact⟨k _ _ (.inl rfl) e,ih q⟩
 |tbl ps=>
  have e:h.get? a=some { cls:=.none,data:=.fields ps}:=x;show h'.get? a=some { cls:=.none,data:=.fields ps};exact k a _ (.inl rfl) e
 |met f y=>
  have e:h.get? a=some (Vl (.ref f) (.ref y)):=x;show h'.get? a=some (Vl (.ref f) (.ref y));exact k a _ (.inl rfl) e
 |ext φ=>obtain⟨p,⟨o,e⟩,st⟩:=x;exact⟨st _ _ p λo q=>k _ _ (.inl rfl) q,⟨o,k _ _ (.inl rfl) e⟩,st⟩
theorem HOk.lt (x:HOk P w H h)(e:H a=some o):a<h.objs.size:=(x a o e).lt
theorem HOk.fresh (x:HOk P w H h)(e:h.objs.size<=a):H a=none:=by
 cases q:H a with
 |none=>rfl
 |some u=>exact absurd (A' (x.lt q) e) (MW _)
theorem HOk.kept (x:HOk P w H h)(k:∀b u,h.get? b=some u->h'.get? b=some u):HOk P w H h':=λa o e=>
 (x a o e).pL (λb u _ q=>k b u q) (λ_ q=>q) λ_ _ q=>q
theorem HOk.laid (x:HOk P w H h)(k:∀b u,h.get? b=some u->h'.get? b=some u)(hp:h.objs.size<=a)(new:cz P w (upd H a o) h' a o):HOk P w (upd H a o) h':=λb u e=>by
 have hn:=x.fresh hp;by_cases hb:b=a
 ·subst hb;rw[aU]at e;cases e;exact new
 rw[aH hb]at e;exact(x b u e).pL (λc v _ q=>k c v q) (λc q=>by rw[aH (d7 q hn)];exact q) λc xs q=>by rw[aH (d7 q hn)];exact q
end
noncomputable def Rd(H:Hp)(a:Ra)(u:HO):Prop:=H a=some u\/∃o,H a=some (.frz o u)
variable {P:Rj}{h:Rq}
theorem Rd.ok {u:HO}(r:Rd H a u)(x:HOk P w H h):cz P w H h a u:=by
 rcases r with r|⟨o,r⟩
 ·exact x a u r
 obtain⟨_,q⟩:=x a _ r;exact q
noncomputable def Mut:Option HO->Prop
 |some (.lst _)=>True
 |some (.dK _)=>True
 |some (.dT _)=>True
 |some (.set _ _)=>True
 |some (.ins _ _ _)=>True
 |some (.ext _)=>True
 | _=>False
section
variable{P:Rj}{w:Ro}{H:Hp}{h h':Rq}{x e:Ra}{o':HO}
theorem HOk.write (ok:HOk P w H h)(mu:Mut (H x))(he:e=x\/H e=some (.own x))(k:∀b u,b≠e->h.get? b=some u->h'.get? b=some u)(heo:∃u,h'.get? e=some u)
  (new:cz P w (upd H x o') h' x o'):HOk P w (upd H x o') h':=λb u q=>by
 have nown:∀c y,H c=some (.own y)->c≠x:=λc y r z=>by subst z;rw[r]at mu;exact mu
 have ntup:∀c xs,H c=some (.tup xs)->c≠x:=λc xs r z=>by subst z;rw[r]at mu;exact mu
 by_cases hb:b=x
 ·subst hb;rw[aU]at q;cases q;exact new
 rw[aH hb]at q;by_cases hbe:b=e
 ·have q':H b=some (.own x):=by
   rcases he with z|z
   ·exact absurd (hbe.trans z) hb
   rw[hbe];exact z
  rw[q]at q';cases q';obtain⟨v,hv⟩:=heo;exact⟨v,by rw[hbe];exact hv⟩
 refine(ok b u q).pL (λc v hc r=>k c v ?_ r) (λc r=>by rw[aH (nown c b r)];exact r) λc xs r=>by rw[aH (ntup c xs r)];exact r
 rcases hc with rfl|hc
 ·exact hbe
 rintro rfl;rcases he with z|z
 ·exact nown c b hc z
 rw[hc]at z;cases z;exact hb rfl
end
structure Un (fs ex:List Ra) (H H':Hp) (h h':Rq):Prop where
 keep:∀b o,h.get? b=some o->H b=none->b ∉ fs->b ∉ ex->h'.get? b=some o
 slot:∀b o,h.get? b=some o->H b=none->b∈fs->b ∉ ex->∃sl,h'.get? b=some {o with slots:=sl}
 free:∀b o,h.get? b=some o->H b=none->b ∉ ex->H' b=none
 there:∀b o,h.get? b=some o->b ∉ ex->∃o',h'.get? b=some o'
 tups:∀b xs,H b=some (.tup xs)->H' b=some (.tup xs)
 frzs:∀b o u,H b=some (.frz o u)->H' b=some (.frz o u)
 tbls:∀b ps,H b=some (.tbl ps)->∃more,H' b=some (.tbl (ps++more))
section
variable{fs fs' ex ex':List Ra}{H H1 H2:Hp}{h h1 h2 h':Rq}{a x e:Ra}{o:HO}
theorem Un.any (u:Un fs ex H H1 h h1){ob:Obj}(q:h.get? b=some ob)(n:H b=none)(hx:b ∉ ex):∃sl,h1.get? b=some {ob with slots:=sl}:=by
 by_cases hb:b∈fs
 ·exact u.slot b ob q n hb hx
 exact⟨ob.slots,u.keep b ob q n hb hx⟩
theorem Un.kept (k:∀b u,h.get? b=some u->h'.get? b=some u):Un fs ex H H h h':=
 ⟨λb ob q _ _ _=>k b ob q,λb ob q _ _ _=>⟨ob.slots,k b ob q⟩,λ_ _ _ n _=>n,λb ob q _=>⟨ob,k b ob q⟩,λ_ _ q=>q,λ_ _ _ q=>q,λ_ ps q=>⟨#[],by rw[q];simp⟩⟩
theorem Un.refl:Un fs ex H H h h:=Un.kept λ_ _ q=>q
theorem Un.laid (k:∀b u,h.get? b=some u->h'.get? b=some u)(hp:h.objs.size<=a)(hn:H a=none):Un fs ex H (upd H a o) h h' where
 keep:=λb u q _ _ _=>k b u q
 slot:=λb u q _ _ _=>⟨u.slots,k b u q⟩
 free:=λb u q n _=>by rw[aH (s_ (A' (Rm q) hp))];exact n
 there:=λb u q _=>⟨u,k b u q⟩
 tups:=λb xs q=>by rw[aH (d7 q hn)];exact q
 frzs:=λb u xs q=>by rw[aH (d7 q hn)];exact q
 tbls:=λb ps q=>⟨#[],by rw[aH (d7 q hn),q];simp⟩
theorem Un.write (mu:Mut (H x))(he:e=x\/H e=some (.own x))(k:∀b u,b≠e->h.get? b=some u->h'.get? b=some u)(heo:∃u,h'.get? e=some u):Un fs ex H (upd H x o) h h':=by
 have hx:∀b,H b=none->b≠x:=λb n z=>by subst z;rw[n]at mu;exact mu
 have hb:∀b,H b=none->b≠e:=λb n z=>by
  subst z;rcases he with r|r
  ·exact hx b n r
  rw[n]at r;cases r
 have hm:∀b u,H b=some u->¬Mut (some u)->b≠x:=λb u q nm z=>by subst z;rw[q]at mu;exact nm mu
 refine⟨λb u q n _ _=>k b u (hb b n) q,λb u q n _ _=>⟨u.slots,k b u (hb b n) q⟩,λb u q n _=>by rw[aH (hx b n)];exact n,λb u q _=>?_,
  λb xs q=>by rw[aH (hm b _ q λz=>z)];exact q,λb u xs q=>by rw[aH (hm b _ q λz=>z)];exact q,λb ps q=>⟨#[],by rw[aH (hm b _ q λz=>z),q];simp⟩⟩
 by_cases hbe:b=e
 ·subst hbe;exact heo
 exact⟨u,k b u hbe q⟩
end
noncomputable def trk(h:Rq)(H:Hp):List Ra:=(p_ h.objs.size).filter λa=>(H a).isSome
def sP(h:Rq)(H:Hp):Rq:=PySem.W.hideAll h (trk h H)
theorem A3(h:Rq)(H:Hp):(sP h H).objs.size=h.objs.size:=PySem.W.hideAll_size _ _
theorem Dh{o:Obj}(e:h.get? b=some o)(n:H b=none):(sP h H).get? b=some o:=
 PySem.W.hideAll_get _ e λhm=>by have q:(H b).isSome=true:=(Mf.mp hm).2;rw[n]at q;simp at q
theorem ED{o:Obj}(e:(sP h H).get? b=some o):h.get? b=some o/\H b=none:=by
 have e':h.get? b=some o:=PySem.W.of_hideAll (trk h H) e;refine⟨e',?_⟩;cases q:H b with
 |none=>rfl
 |some x=>
  have hm:b∈trk h H:=Mf.mpr ⟨mo.mpr (Rm e'),by simp[q]⟩;have z:(sP h H).get? b=none:=PySem.W.hideAll_none (trk h H) hm;rw[z]at e;cases e
noncomputable def FG(g h:Rq)(L:Ra):List (Ra×Obj):=(p_ h.objs.size).filterMap λa=>if a=L\/(g.get? a).isSome=true then none else(h.get? a).map λo=>(a,o)
def rest(g h:Rq)(L d:Ra):List (Ra×Obj):=(FG g h L).filter λp=>decide (p.1≠d)
structure Mod (K:Rb) (mg:Str->Option Q_) (base:Rq):Prop where
 kin:K.In base
 glob:base.Ns R6 mg
 blt:∃mb,base.Ns Wo mb/\∀x:Str,x≠"__name__"->mb x=TR x
 nolimit:base.NoLimit
structure Cx where
 prog:Rj
 w:Ro
 K:Rb
 mg:Str->Option Q_
 base:Rq
 A:Rw
 N:List Str
 s₀:Rf
 H₀:Hp
 env:Env
 outer:List Env
 stack:List Env
 ex:List Ra
 fn:Str->Bool
 calm:Bool
 pn:List (Ra×Obj)
 xe:Q_->Rf->Prop
noncomputable def frs(l:List Env):List Ra:=l.filterMap (·.frame)
abbrev Cx.fs (X:Cx):List Ra:=frs X.outer
noncomputable def Vis(sc:Se)(x:Str):Prop:=sc.names.lookup x=some .local\/sc.names.lookup x=some .cell\/sc.names.lookup x=some .free
noncomputable def Loc(sc:Se)(x:Str):Prop:=sc.names.lookup x=some .local\/sc.names.lookup x=some .cell
noncomputable def Look(env:Env)(h:Rq)(m:Str->Option Q_)(x:Str)(u:Q_):Prop:=
 (env.kindOf x=some .local/\m x=some u)\/((env.kindOf x=some .cell\/env.kindOf x=some .free)/\∃c,env.cells.lookup x=some c/\h.IsCell c (some u))
structure Cx.Ok (X:Cx):Prop where
 mod:Mod X.K X.mg X.base
 kind:X.env.scope.kind=.function
 glob:X.env.globals=R6
 blt:X.env.builtins=Wo
 above:X.s₀.heap.objs.size<=X.env.locals
 inj:∀x y c,X.env.cells.lookup x=some c->X.env.cells.lookup y=some c->x=y
 has:∀x,(X.env.kindOf x=some .cell\/X.env.kindOf x=some .free)->∃c,X.env.cells.lookup x=some c
 cab:∀x c,X.fn x=true->X.env.cells.lookup x=some c->X.s₀.heap.objs.size<=c
 hd:X.calm=true->X.A.handled=none
 frames:X.A.frames=some X.stack
 stk:X.stack=X.outer\/(X.stack=X.env::X.outer/\X.env.frame=some X.env.locals)
 exf:∀b∈X.ex,b≠X.env.locals/\∀x c,X.env.cells.lookup x=some c->c≠b
 bs:∀b o,X.base.get? b=some o->X.s₀.heap.get? b=some o/\X.H₀ b=none
 bsz:X.base.objs.size<=X.s₀.heap.objs.size
 noex:∀b o,X.base.get? b=some o->b ∉ X.ex
 exfs:∀b∈X.ex,b ∉ X.fs
 pT:X.s₀.heap.FunFrames X.base X.outer
 frf:∀b∈X.fs,X.H₀ b=none
structure Inv (X:Cx) (ac:List (Ra×Obj)) (σ:List (Option V)) (H:Hp) (s:Rf):Prop where
 ok:X.Ok
 os:s.os=X.s₀.os
 bare:UA s.gens
 base:Un X.fs X.ex X.H₀ H X.s₀.heap s.heap
 loc:∃m,s.heap.Ns X.env.locals m/\∀(i:Nat) (x:Str) (v:V),X.N[i]?=some x->σ[i]?=some (some v)->Vis X.env.scope x->∃u,RelV v u/\Look X.env s.heap m x u
 cell:∀x c,X.env.cells.lookup x=some c->∃v,s.heap.IsCell c v
 free:H X.env.locals=none
 freeC:∀x c,X.env.cells.lookup x=some c->H c=none
 pin:∀p∈X.pn++ac,s.heap.get? p.1=some p.2/\H p.1=none/\p.1≠X.env.locals/\p.1 ∉ X.fs/\∀v,p.2.data≠.cell v
 hok:HOk X.prog X.w H s.heap
 len:σ.length=X.N.length
variable {M:Ui}{N:List Str}{Q:Unit->Rf->Prop}{ch:List Ra}{g':Array Vy}{i j t':Nat}{v:V}{x:Str}
section
variable{X:Cx}{ac:List (Ra×Obj)}{σ:List (Option V)}{H H':Hp}{s:Rf}{h':Rq}
theorem Cx.Ok.LX (ok:X.Ok){o:Obj}(e:X.base.get? b=some o):b ∉ X.fs:=λhb=>by have:=(ok.pT.mem hb).1;rw[e]at this;cases this
theorem Inv.bs (I:Inv X ac σ H s):∀b o,X.base.get? b=some o->s.heap.get? b=some o/\H b=none:=λb o e=>
 ⟨I.base.keep b o (I.ok.bs b o e).1 (I.ok.bs b o e).2 (I.ok.LX e) (I.ok.noex b o e),I.base.free b o (I.ok.bs b o e).1 (I.ok.bs b o e).2 (I.ok.noex b o e)⟩
theorem Inv.bk (I:Inv X ac σ H s):∀b o,X.base.get? b=some o->s.heap.get? b=some o:=λb o e=>(I.bs b o e).1
theorem Inv.mod (I:Inv X ac σ H s):Mod X.K X.mg X.base:=I.ok.mod
theorem Inv.kIn (I:Inv X ac σ H s):X.K.In s.heap:=I.ok.mod.kin.keeps I.bk
theorem Inv.lt (I:Inv X ac σ H s):X.env.locals<s.heap.objs.size:=let ⟨_,hn,_⟩:=I.loc;hn.lt
theorem Inv.sz (I:Inv X ac σ H s):X.s₀.heap.objs.size<=s.heap.objs.size:=G' I.ok.above (Mt I.lt)
theorem Inv.M5 (I:Inv X ac σ H s)(h:s.heap.objs.size<=a):a ∉ X.fs:=λhb=>by obtain⟨_,o,ho,_⟩:=I.ok.pT.mem hb;exact absurd (A' (Rm ho) (G' I.sz h)) (MW _)
theorem Inv.cne (I:Inv X ac σ H s):∀x c,X.env.cells.lookup x=some c->c≠X.env.locals:=λx c e z=>by obtain⟨v,o,ho,hd⟩:=I.cell x c e;obtain⟨m,⟨o',es,ep,ho',hd',_⟩,_⟩:=I.loc;rw[z,ho']at ho;cases ho;rw[hd']at hd;cases hd
theorem Inv.pT (I:Inv X ac σ H s):s.heap.FunFrames X.base X.outer:=by
 have all:∀(l:List Env),(∀b∈frs l,b∈X.fs)->X.s₀.heap.FunFrames X.base l->s.heap.FunFrames X.base l:=by
  intro l;induction l with
  |nil=>intro _ _;trivial
  |cons env r ih=>
   intro hs hl;obtain⟨hk,⟨L,o,hf,hn,ho,hd⟩,hr⟩:=hl;have hL:L∈X.fs:=hs L (by unfold frs;rw[Nu,hf];exact t_);obtain⟨sl,e⟩:=I.base.slot L o ho (I.ok.frf L hL) hL λz=>I.ok.exfs L z hL;exact⟨hk,⟨L,_,hf,hn,e,hd⟩,ih (λb hb=>hs b (by unfold frs;rw[Nu,hf];exact j_ _ hb)) hr⟩
 exact all X.outer (λ_ hb=>hb) I.ok.pT
theorem Inv.stack (I:Inv X ac σ H s):s.heap.FunFrames X.base X.stack:=by
 rcases I.ok.stk with e|⟨e,hf⟩
 ·rw[e];exact I.pT
 rw[e];obtain⟨m,hn,_⟩:=I.loc;refine .cons (by rw[I.ok.kind];decide) hf hn ?_ I.pT;exact Heap.get?_none_of_le (G' I.ok.bsz I.ok.above)
theorem Inv.wW (I:Inv X ac σ H s):∀b∈frs X.stack,b∈X.env.locals::X.fs:=λb hb=>by
 rcases I.ok.stk with e|⟨e,hf⟩
 ·rw[e]at hb;exact j_ _ hb
 rw[e]at hb;unfold frs at hb;rw[Nu,hf]at hb;exact hb
theorem Inv.yX (I:Inv X ac σ H s):∀b∈frs X.stack,H b=none:=λb hb=>by
 rcases i_.mp (I.wW b hb)with e|hb
 ·rw[e];exact I.free
 obtain⟨_,o,ho,_⟩:=I.ok.pT.mem hb;exact I.base.free b o ho (I.ok.frf b hb) λz=>I.ok.exfs b z hb
theorem Inv.step {d':YG}(I:Inv X ac σ H s)
  (hch:∀b∈ch,(b∈X.ex\/X.s₀.heap.objs.size<=b)/\b≠X.env.locals/\(∀x c,X.env.cells.lookup x=some c->c≠b)/\∀p∈X.pn++ac,p.1≠b)
  (keep:∀b o,b≠X.env.locals->b ∉ X.fs->b ∉ ch->s.heap.get? b=some o->H b=none->h'.get? b=some o)
  (slot:∀b o,b≠X.env.locals->b∈X.fs->b ∉ ch->s.heap.get? b=some o->H b=none->∃sl,h'.get? b=some {o with slots:=sl}) (free:∀b o,b ∉ ch->s.heap.get? b=some o->H b=none->H' b=none)
  (there:∀b o,b ∉ ch->s.heap.get? b=some o->∃o',h'.get? b=some o')
  (tups:∀b xs,H b=some (.tup xs)->H' b=some (.tup xs)) (frzs:∀b o u,H b=some (.frz o u)->H' b=some (.frz o u)) (tbls:∀b ps,H b=some (.tbl ps)->∃more,H' b=some (.tbl (ps++more)))
  (ns:∀m,s.heap.Ns X.env.locals m->h'.Ns X.env.locals m) (hok:HOk X.prog X.w H' h') (hg:UA g') :
  Inv X ac σ H' {s with heap:=h',gens:=g',drawn:=d',toks:=t'}:=by
 have neL:∀b o,X.s₀.heap.get? b=some o->b≠X.env.locals:=λb o e=>s_ (A' (Rm e) I.ok.above);have neC:∀b o,X.s₀.heap.get? b=some o->b ∉ X.ex->b ∉ ch:=λb o e hx hb=>by
  rcases(hch b hb).1 with z|z
  ·exact hx z
  exact absurd (A' (Rm e) z) (MW _)
 have cellK:∀x c,X.env.cells.lookup x=some c->∀v,s.heap.IsCell c v->h'.IsCell c v:=λx c e v ⟨o,ho,hd⟩=>by
  have nch:c ∉ ch:=λz=>(hch c z).2.2.1 x c e rfl;by_cases hc:c∈X.fs
  ·obtain⟨sl,q⟩:=slot c o (I.cne x c e) hc nch ho (I.freeC x c e);exact⟨_,q,hd⟩
  exact⟨o,keep c o (I.cne x c e) hc nch ho (I.freeC x c e),hd⟩
 refine⟨I.ok,I.os,hg,⟨λb o e n hb hx=>?_,λb o e n hb hx=>?_,λb o e n hx=>?_,λb o e hx=>?_,λb xs e=>tups b xs (I.base.tups b xs e),λb o xs e=>frzs b o xs (I.base.frzs b o xs e),λb ps e=>?_⟩,?_,λx c e=>?_,?_,λx c e=>?_,λp hp=>?_,hok,I.len⟩
 ·exact keep b o (neL b o e) hb (neC b o e hx) (I.base.keep b o e n hb hx) (I.base.free b o e n hx)
 ·obtain⟨sl,e1⟩:=I.base.slot b o e n hb hx;obtain⟨sl',e2⟩:=slot b _ (neL b o e) hb (neC b o e hx) e1 (I.base.free b o e n hx);exact⟨sl',e2⟩
 ·obtain⟨o',e1⟩:=I.base.there b o e hx;exact free b o' (neC b o e hx) e1 (I.base.free b o e n hx)
 ·obtain⟨o',e1⟩:=I.base.there b o e hx;exact there b o' (neC b o e hx) e1
 ·obtain⟨m1,e1⟩:=I.base.tbls b ps e;obtain⟨m2,e2⟩:=tbls b _ e1;exact⟨m1++m2,by rw[e2,Array.append_assoc]⟩
 ·obtain⟨m,hn,hl⟩:=I.loc;refine⟨m,ns m hn,λi x v e1 e2 e3=>?_⟩;obtain⟨u,r,l⟩:=hl i x v e1 e2 e3;refine⟨u,r,?_⟩;rcases l with l|⟨k,c,e,z⟩
  ·exact .inl l
  exact .inr ⟨k,c,e,cellK x c e _ z⟩
 ·obtain⟨v,z⟩:=I.cell x c e;exact⟨v,cellK x c e v z⟩
 ·obtain⟨m,⟨o,_,_,ho,_⟩,_⟩:=I.loc;exact free _ o (λz=>(hch _ z).2.1 rfl) ho I.free
 ·obtain⟨v,o,ho,hd⟩:=I.cell x c e;exact free c o (λz=>(hch c z).2.2.1 x c e rfl) ho (I.freeC x c e)
 obtain⟨e,n,ne,nf,d⟩:=I.pin p hp;have nch:p.1 ∉ ch:=λz=>(hch p.1 z).2.2.2 p hp rfl;exact⟨keep p.1 p.2 ne nf nch e n,free p.1 p.2 nch e n,ne,nf,d⟩
theorem Inv.un (I:Inv X ac σ H s)(u:Un X.fs [] H H' s.heap h')(hok:HOk X.prog X.w H' h'):Inv X ac σ H' {s with heap:=h',toks:=t'}:=by
 obtain⟨m,⟨o,es,ep,ho,r⟩,_⟩:=id I.loc;obtain⟨sl,hL⟩:=u.any ho I.free (by simp);exact I.step (g':=s.gens) (d':=s.drawn) (ch:=[]) (λ_ z=>nomatch z) (λb o _ hb _ e n=>u.keep b o e n hb (by simp)) (λb o _ hb _ e n=>u.slot b o e n hb (by simp)) (λb o _ e n=>u.free b o e n (by simp)) (λb o _ e=>u.there b o e (by simp)) u.tups u.frzs u.tbls (λm' hm=>by obtain⟨o',es',ep',ho',r'⟩:=hm;rw[ho]at ho';cases ho';exact⟨_,es',ep',hL,r'⟩) hok I.bare
theorem Inv.call {d':YG}(I:Inv X ac σ H s)(u:Un (frs X.stack) ch H H' s.heap h')(hok:HOk X.prog X.w H' h')(hg:UA g')
  (hch:∀b∈ch,(b∈X.ex\/X.s₀.heap.objs.size<=b)/\b≠X.env.locals/\(∀x c,X.env.cells.lookup x=some c->c≠b)/\∀p∈X.pn++ac,p.1≠b) :
  Inv X ac σ H' {s with heap:=h',gens:=g',drawn:=d',toks:=t'}:=by
 obtain⟨m,⟨o,es,ep,ho,r⟩,_⟩:=id I.loc;obtain⟨sl,hL⟩:=u.any ho I.free λz=>(hch _ z).2.1 rfl;exact I.step (ch:=ch) hch (λb o hL hb hc e n=>u.keep b o e n (λz=>(i_.mp (I.wW b z)).elim hL hb) hc) (λb o _ _ hc e n=>u.any e n hc) (λb o hc e n=>u.free b o e n hc) (λb o hc e=>u.there b o e hc) u.tups u.frzs u.tbls (λm' hm=>by obtain⟨o',es',ep',ho',r'⟩:=hm;rw[ho]at ho';cases ho';exact⟨_,es',ep',hL,r'⟩) hok hg
theorem Inv.turned {it:Ra}(I:Inv X ac σ H s)(k:∀b o,b≠it->s.heap.get? b=some o->h'.get? b=some o)(hn:H it=none)(hL:it≠X.env.locals)
  (h1:it∈X.ex\/X.s₀.heap.objs.size<=it) (h2:∀x c,X.env.cells.lookup x=some c->c≠it) (h3:∀p∈X.pn++ac,p.1≠it):Inv X ac σ H {s with heap:=h',toks:=t'}:=by
 have nit:∀b u,H b=some u->b≠it:=λb u e z=>by rw[z,hn]at e;cases e
 refine I.step (g':=s.gens) (d':=s.drawn) (ch:=[it]) (λb hb=>?_) (λb o _ _ hc e _=>k b o (λz=>hc (by simp[z])) e) (λb o _ _ hc e _=>⟨o.slots,k b o (λz=>hc (by simp[z])) e⟩) (λ_ _ _ _ n=>n)
  (λb o hc e=>⟨o,k b o (λz=>hc (by simp[z])) e⟩) (λ_ _ e=>e) (λ_ _ _ e=>e) (λb ps e=>⟨#[],by rw[e];simp⟩) (λm hm=>?_) (λb u e=>?_) I.bare
 ·have e:b=it:=by simpa using hb
  subst e;exact⟨h1,hL,h2,h3⟩
 ·obtain⟨o,es,ep,ho,r⟩:=hm;exact⟨o,es,ep,k _ o (Ti hL) ho,r⟩
 refine(I.hok b u e).pL (λc v hc q=>k c v ?_ q) (λ_ q=>q) λ_ _ q=>q;rcases hc with z|z
 ·rw[z];exact nit b u e
 exact nit c _ z
theorem Inv.tok (I:Inv X ac σ H s)(t:Nat):Inv X ac σ H {s with toks:=t}:=I.un (h':=s.heap) (t':=t) Un.refl I.hok
theorem Inv.kept (I:Inv X ac σ H s)(k:∀b u,s.heap.get? b=some u->h'.get? b=some u):Inv X ac σ H {s with heap:=h',toks:=t'}:=I.un (Un.kept k) (I.hok.kept k)
theorem Inv.laid (I:Inv X ac σ H s)(k:∀b u,s.heap.get? b=some u->h'.get? b=some u)(hp:s.heap.objs.size<=a)(new:cz X.prog X.w (upd H a o) h' a o) :
  Inv X ac σ (upd H a o) {s with heap:=h',toks:=t'}:=I.un (Un.laid k hp (I.hok.fresh hp)) (I.hok.laid k hp new)
theorem Inv.write {x e:Ra}(I:Inv X ac σ H s)(mu:Mut (H x))(he:e=x\/H e=some (.own x))(k:∀b u,b≠e->s.heap.get? b=some u->h'.get? b=some u)(heo:∃u,h'.get? e=some u)
  (new:cz X.prog X.w (upd H x o) h' x o):Inv X ac σ (upd H x o) {s with heap:=h',toks:=t'}:=I.un (Un.write mu he k heo) (I.hok.write mu he k heo new)
theorem Inv.zH {pins':List (Ra×Obj)}(I:Inv X ac σ H s)(h:∀p∈pins',s.heap.get? p.1=some p.2/\H p.1=none/\p.1≠X.env.locals/\p.1 ∉ X.fs/\∀v,p.2.data≠.cell v):Inv X pins' σ H s:=
 ⟨I.ok,I.os,I.bare,I.base,I.loc,I.cell,I.free,I.freeC,λp hp=>(C'.mp hp).elim (λz=>I.pin p (K' _ z)) (h p),I.hok,I.len⟩
theorem vO(hN:N.Nodup)(a:N[i]?=some x)(b:N[j]?=some x):i=j:=by obtain⟨h1,e1⟩:=e_.mp a;obtain⟨h2,e2⟩:=e_.mp b;exact(Qd hN).mp (e1.trans e2.symm)
theorem rZ(I:Inv X ac σ H s)(hN:X.N.Nodup)(hi:X.N[i]?=some x)(hx:Loc X.env.scope x)(r:RelV v u)
  (h:∀s',Inv X ac (σ.set i (some v)) H s'->(∃a,RN a s.heap s'.heap/\(a=X.env.locals\/X.env.cells.lookup x=some a))->Q () s') (hf:X.fn x=true\/X.env.scope.names.lookup x=some .local:=by first|exact .inl rfl|exact .inr rfl|assumption):Rh M A (Yr X.env x u) Q E s:=by
 obtain⟨m,hn,hl⟩:=id I.loc;have hcls:(X.env.scope.kind == .class || (X.env.scope.kind == .module&&X.env.locals != X.env.globals))=false:=by rw[I.ok.kind];rfl
 have hiσ:i<σ.length:=by rw[I.len];exact(e_.mp hi).1
 have cne:=I.cne;have tracked:∀{a:Ra}{h':Rq},(∃o,s.heap.get? a=some o/\H a=none)->RN a s.heap h'->HOk X.prog X.w H h':=λ{a h'} ha hs b ob e=>by
  obtain⟨_,_,hfree⟩:=ha;refine(I.hok b ob e).pL (λc w' hc q=>(hs.2 c ?_).trans q) (λ_ q=>q) λ_ _ q=>q;rintro rfl;rcases hc with rfl|hc
  ·rw[hfree]at e;cases e
  rw[hfree]at hc;cases hc
 rcases hx with hk|hk
 ·refine wpAny_storeName_local hk hn (λh' hn' hs=>?_) hcls;obtain⟨oL,_,_,hoL,_⟩:=id hn;refine h _ ⟨I.ok,I.os,I.bare,⟨λb o e n hb hx=>?_,λb o e n hb hx=>?_,I.base.free,λb o e hx=>?_,I.base.tups,I.base.frzs,I.base.tbls⟩,⟨_,hn',λj y v' e1 e2 e3=>?_⟩,λy c e=>?_,I.free,I.freeC,λp hp=>?_,tracked ⟨oL,hoL,I.free⟩ hs,by simpa using I.len⟩ ⟨_,hs,.inl rfl⟩
  ·exact(hs.2 b (s_ (A' (Rm e) I.ok.above))).trans (I.base.keep b o e n hb hx)
  ·obtain⟨sl,e1⟩:=I.base.slot b o e n hb hx;exact⟨sl,(hs.2 b (s_ (A' (Rm e) I.ok.above))).trans e1⟩
  ·obtain⟨o',e1⟩:=I.base.there b o e hx;exact⟨o',(hs.2 b (s_ (A' (Rm e) I.ok.above))).trans e1⟩
  ·by_cases hj:j=i
   ·subst hj;rw[hi]at e1;cases e1;rw[N8 hiσ]at e2;cases e2;exact⟨u,r,.inl ⟨hk,by simp⟩⟩
   rw[Nk (Ti hj)]at e2;obtain⟨u',r',q⟩:=hl j y v' e1 e2 e3;refine⟨u',r',?_⟩;rcases q with⟨k,e⟩|⟨k,c,e,z⟩
   ·refine .inl ⟨k,?_⟩;have:y≠x:=λe=>hj (vO hN e1 (e▸hi));simp[this,e]
   exact .inr ⟨k,c,e,z.sameBut hs (cne y c e)⟩
  ·obtain⟨w',z⟩:=I.cell y c e;exact⟨w',z.sameBut hs (cne y c e)⟩
  obtain⟨e,n,ne,nf,d⟩:=I.pin p hp;exact⟨(hs.2 p.1 ne).trans e,n,ne,nf,d⟩
 have hfn:X.fn x=true:=by
  rcases hf with z|z
  ·exact z
  rw[z]at hk;cases hk
 obtain⟨c,hc⟩:=I.ok.has x (.inl hk);obtain⟨w',z⟩:=I.cell x c hc;refine wpAny_storeName_cell I.ok.kind hk hc z (λh' hc' hs=>?_);obtain⟨oc,hoc,hocd⟩:=id z;refine h {s with heap:=h'} ⟨I.ok,I.os,I.bare,⟨λb o e n hb hx=>?_,λb o e n hb hx=>?_,I.base.free,λb o e hx=>?_,I.base.tups,I.base.frzs,I.base.tbls⟩,⟨m,hn.sameBut hs (Ti (cne x c hc)),λj y v' e1 e2 e3=>?_⟩,λy c' e=>?_,I.free,I.freeC,λp hp=>?_,tracked ⟨oc,hoc,I.freeC x c hc⟩ hs,by simpa using I.len⟩ ⟨c,hs,.inr hc⟩
 ·exact(hs.2 b (s_ (A' (Rm e) (I.ok.cab x c hfn hc)))).trans (I.base.keep b o e n hb hx)
 ·obtain⟨sl,e1⟩:=I.base.slot b o e n hb hx;exact⟨sl,(hs.2 b (s_ (A' (Rm e) (I.ok.cab x c hfn hc)))).trans e1⟩
 ·obtain⟨o',e1⟩:=I.base.there b o e hx;exact⟨o',(hs.2 b (s_ (A' (Rm e) (I.ok.cab x c hfn hc)))).trans e1⟩
 ·by_cases hj:j=i
  ·subst hj;rw[hi]at e1;cases e1;rw[N8 hiσ]at e2;cases e2;exact⟨u,r,.inr ⟨.inl hk,c,hc,hc'⟩⟩
  rw[Nk (Ti hj)]at e2;obtain⟨u',r',q⟩:=hl j y v' e1 e2 e3;refine⟨u',r',?_⟩;rcases q with q|⟨k,c',e,z'⟩
  ·exact .inl q
  refine .inr ⟨k,c',e,z'.sameBut hs ?_⟩;rintro rfl;exact hj (vO hN e1 (I.ok.inj _ _ _ e hc▸hi))
 ·by_cases hcc:c'=c
  ·subst hcc;exact⟨_,hc'⟩
  obtain⟨w2,z2⟩:=I.cell y c' e;exact⟨w2,z2.sameBut hs hcc⟩
 obtain⟨e,n,ne,nf,d⟩:=I.pin p hp;refine⟨(hs.2 p.1 ?_).trans e,n,ne,nf,d⟩;intro q;rw[q,hoc]at e;have q':oc=p.2:=H_ e;exact d w' (by rw[<-q'];exact hocd)
theorem kS(I:Inv X ac σ H s)(hN:X.N.Nodup)(hi:X.N[i]?=some x)(hx:Loc X.env.scope x)(r:RelV v u)
  (h:∀s',Inv X ac (σ.set i (some v)) H s'->Q () s') (hf:X.fn x=true\/X.env.scope.names.lookup x=some .local:=by first|exact .inl rfl|exact .inr rfl|assumption):Rh M A (Yr X.env x u) Q E s:=
 rZ I hN hi hx r (λs' I' _=>h s' I') hf
theorem Inv.GL {s':Rf}(I:Inv X ac σ H s)(ho:s'.os=s.os)(u:Un (frs X.stack) ch H H' s.heap s'.heap)(hok:HOk X.prog X.w H' s'.heap)(hg:UA s'.gens)
  (hch:∀b∈ch,(b∈X.ex\/X.s₀.heap.objs.size<=b)/\b≠X.env.locals/\(∀x c,X.env.cells.lookup x=some c->c≠b)/\∀p∈X.pn++ac,p.1≠b):Inv X ac σ H' s':=by
 obtain⟨h',g',d',t',o'⟩:=s';have e:o'=s.os:=ho;subst e;exact I.call (g':=g') (t':=t') (d':=d') u hok hg hch
end
abbrev XK:=Q_->Option Ra->Hp->Prop
abbrev St:=List (Option V)
abbrev VK:=V->Hp->Prop
abbrev TE:=St->Hp->VK->Prop
abbrev TT:=St->Hp->(Bool->Hp->Prop)->Prop
abbrev TA:=St->Hp->(List V->Hp->Prop)->Prop
structure Ends where
 nx:St->Hp->Prop
 rt:VK
 bk:St->Hp->Prop:=λ_ _=>False
 ct:St->Hp->Prop:=λ_ _=>False
abbrev TS:=Ends->St->Hp->Prop
def EP(X:Cx)(ac:List (Ra×Obj))(σ:St)(Q:VK)(u:Q_)(s':Rf):Prop:=∃v H',Inv X ac σ H' s'/\RelV v u/\Q v H'
noncomputable def TP(X:Cx)(ac:List (Ra×Obj))(σ:St)(Q:Bool->Hp->Prop)(b:Bool)(s':Rf):Prop:=∃H',Inv X ac σ H' s'/\Q b H'
def AP(X:Cx)(ac:List (Ra×Obj))(σ:St)(Q:List V->Hp->Prop)(us:List Q_)(s':Rf):Prop:=∃vs H',Inv X ac σ H' s'/\Vals vs us/\Q vs H'
def SP(X:Cx)(ac:List (Ra×Obj))(D:Ends)(f:Flow)(s':Rf):Prop:=
 match f with
 | .next=>∃ f8 H',Inv X ac f8 H' s'/\D.nx f8 H'
 | .brk=>∃ f8 H',Inv X ac f8 H' s'/\D.bk f8 H'
 | .cont=>∃ f8 H',Inv X ac f8 H' s'/\D.ct f8 H'
 | .ret u=>∃v f8 H',Inv X ac f8 H' s'/\RelV v u/\D.rt v H'
def PE(X:Cx)(e:Rr)(t:TE):Prop:=
 ∀(ac:List (Ra×Obj)) (s:Rf) (σ:St) (H:Hp) (Q:VK),Inv X ac σ H s->t σ H Q->Rh (Rn X.prog X.w) X.A (RF e X.env) (EP X ac σ Q) X.xe s
def PT(X:Cx)(e:Rr)(t:TT):Prop:=
 ∀(ac:List (Ra×Obj)) (s:Rf) (σ:St) (H:Hp) (Q:Bool->Hp->Prop),Inv X ac σ H s->t σ H Q->Rh (Rn X.prog X.w) X.A (WT e X.env (RF e X.env)) (TP X ac σ Q) X.xe s
def PW(X:Cx)(e:Rr)(t:TT):Prop:=
 ∀(whole:Sem Q_) (ac:List (Ra×Obj)) (s:Rf) (σ:St) (H:Hp) (Q:Bool->Hp->Prop),Inv X ac σ H s->t σ H Q->Rh (Rn X.prog X.w) X.A (WT e X.env whole) (TP X ac σ Q) X.xe s
variable {X:Cx}{e:Rr}
theorem PW.pt {t:TT}(h:PW X e t):PT X e t:=h _
def PA(X:Cx)(es:List Rr)(t:TA):Prop:=
 ∀(pos:Pos) (ac:List (Ra×Obj)) (s:Rf) (σ:St) (H:Hp) (Q:List V->Hp->Prop),Inv X ac σ H s->t σ H Q->Rh (Rn X.prog X.w) X.A (spliced (Ta pos (Ru es X.env))) (AP X ac σ Q) X.xe s
def PS(X:Cx)(st:RG)(t:TS):Prop:=
 ∀(ac:List (Ra×Obj)) (s:Rf) (σ:St) (H:Hp) (D:Ends),Inv X ac σ H s->t D σ H->Rh (Rn X.prog X.w) X.A (exec st X.env) (SP X ac D) X.xe s
def PSs(X:Cx)(st:List RG)(t:TS):Prop:=
 ∀(ac:List (Ra×Obj)) (s:Rf) (σ:St) (H:Hp) (D:Ends),Inv X ac σ H s->t D σ H->Rh (Rn X.prog X.w) X.A (execs st X.env) (SP X ac D) X.xe s
theorem thn{α:Type}{t:Sem α}{Q Q':α->Rf->Prop}(h:Rh M A t Q E s)(hQ:∀a s,Q a s->Q' a s):Rh M A t Q' E s:=RL h hQ λ_ _ x=>x
variable {ac:List (Ra×Obj)}{pos:Pos}{σ:St}
section
variable{X:Cx}
noncomputable def CU(i:Nat):TE:=λσ H Q=>∃v,σ[i]?=some (some v)/\Q v H
noncomputable def tC(v:V):TE:=λ_ H Q=>Q v H
theorem jq(hN:X.N[i]?=some x)(hv:Vis X.env.scope x)(hd:(x ==("__debug__":Str))=false:=by decide)(hcd:(x ==("__classdict__":Str))=false:=by decide):PE X (.Name x pos) (CU i):=by
 intro ac s σ H Q I h;obtain⟨v,e,h⟩:=h;obtain⟨m,hn,hl⟩:=I.loc;obtain⟨u,r,l⟩:=hl i x v hN e hv;have fin:EP X ac σ Q u s:=⟨v,H,I,r,h⟩;rcases l with⟨hk,hm⟩|⟨hk,c,hc,hcell⟩
 ·exact XN (Wq I.ok.kind hk hn hm fin) hd
 rcases hk with hk|hk
 ·exact XN (WN I.ok.kind hk hc hcell fin) hd
 exact XN (wpAny_loadName_free I.ok.kind hk hc hcell fin hcd) hd
theorem fO{i j pos}:PE X (.Constant (.int i) j pos) (tC (.int i)):=λ_ _ _ H _ I h=>wpAny_Constant_int ⟨.int i,H,I.tok _,⟨_,rfl⟩,h⟩
theorem JS{b j pos}:PE X (.Constant (.bool b) j pos) (tC (.bl b)):=λ_ _ _ H _ I h=>Constant_bool ⟨.bl b,H,I,rfl,h⟩
theorem HA{j pos}:PE X (.Constant .none j pos) (tC .non):=λ_ _ _ H _ I h=>Constant_none ⟨.non,H,I,rfl,h⟩
theorem lZ{x j pos}:PE X (.Constant (.str x) j pos) (tC (.str x)):=λ_ _ _ H _ I h=>Calls.Constant_str ⟨.str x,H,I.tok _,⟨_,rfl⟩,h⟩
noncomputable def Gl(X:Cx)(x:Str):Prop:=X.env.kindOf x=some .globalImplicit
theorem yg{Q:Q_->Rf->Prop}(I:Inv X ac σ H s)(hg:Gl X x)(hm:X.mg x=some u)(h:Q u s)
  (hd:(x ==("__debug__":Str))=false:=by decide):Rh (Rn X.prog X.w) X.A (RF (.Name x pos) X.env) Q E s:=
 Va I.ok.kind hg (Calls.loadGlobal_global (by rw[I.ok.glob];exact I.mod.glob.keeps I.bk) hm h) hd
theorem jH{Q:Q_->Rf->Prop}(I:Inv X ac σ H s)(hg:Gl X x)(hm:X.mg x=none)(hv:TR x=some u)(h:Q u s)
  (hn:x≠"__name__":=by decide) (hd:(x ==("__debug__":Str))=false:=by decide):Rh (Rn X.prog X.w) X.A (RF (.Name x pos) X.env) Q E s:=by
 obtain⟨mb,h1,h2⟩:=I.mod.blt;exact Va I.ok.kind hg (Calls.loadGlobal_builtin (by rw[I.ok.glob];exact I.mod.glob.keeps I.bk) hm (by rw[I.ok.blt];exact h1.keeps I.bk) ((h2 x hn).trans hv) h) hd
theorem FH(hg:Gl X x)(hm:X.mg x=some u)(r:RelV v u)(hd:(x ==("__debug__":Str))=false:=by decide):PE X (.Name x pos) (tC v):=
 λ_ _ _ H _ I h=>yg I hg hm ⟨v,H,I,r,h⟩ hd
variable{a b:Rr}{ta tb:TE}{pos:Pos}
variable{tA tB':TT}{rest:List Rr}
noncomputable def tOr(t u:TT):TT:=λσ H Q=>t σ H λc H1=>if c=true then Q true H1 else u σ H1 Q
noncomputable def LI(t:TT):TT:=λσ H Q=>t σ H λc H1=>Q (!c) H1
theorem Ju(ha:PT X a tA):PW X (.BoolOp .Or [a] pos) tA:=by
 intro wh ac s σ H Q I h;refine isTrue_or (thn (ha ac s σ H Q I h) λc s1 e=>?_);cases c with
 |false=>exact isTrue_or_nil e
 |true=>exact e
theorem K2(ha:PT X a tA)(hb:PW X (.BoolOp .Or (b::rest) pos) tB'):PW X (.BoolOp .Or (a::b::rest) pos) (tOr tA tB'):=by
 intro wh ac s σ H Q I h;refine isTrue_or (thn (ha ac s σ H _ I h) ?_);rintro c s1 ⟨H1,I1,q1⟩;cases c with
 |true=>exact⟨H1,I1,q1⟩
 |false=>exact hb wh ac s1 σ H1 Q I1 q1
theorem Iu(ha:PT X a tA):PT X (.UnaryOp .Not a pos) (LI tA):=by intro ac s σ H Q I h;exact isTrue_not (ha ac s σ H (λc H1=>Q (!c) H1) I h)
noncomputable def Kr(ta tb:TE):TE:=λσ H Q=>ta σ H λx H1=>∃c,x=.bl c/\if c=true then tb σ H1 Q else Q (.bl false) H1
noncomputable def LJ(ta tb:TE):TE:=λσ H Q=>ta σ H λx H1=>∃c,x=.bl c/\if c=true then Q (.bl true) H1 else tb σ H1 Q
theorem Jd{op}{t:TE}(h:PE X a t):PE X (.BoolOp op [a] pos) t:=λac s σ H Q I hw=>BoolOp_one (h ac s σ H Q I hw)
theorem J7(ha:PE X a ta)(hb:PE X (.BoolOp .And (b::rest) pos) tb):PE X (.BoolOp .And (a::b::rest) pos) (Kr ta tb):=by
 intro ac s σ H Q I h;refine BoolOp_and (thn (ha ac s σ H _ I h) ?_);rintro v s1 ⟨x,H1,I1,r1,q1⟩;obtain⟨c,rfl,q1⟩:=q1;cases r1;refine SA ?_;cases c with
 |true=>exact hb ac s1 σ H1 Q I1 q1
 |false=>exact⟨.bl false,H1,I1,rfl,q1⟩
theorem JR(ha:PE X a ta)(hb:PE X (.BoolOp .Or (b::rest) pos) tb):PE X (.BoolOp .Or (a::b::rest) pos) (LJ ta tb):=by
 intro ac s σ H Q I h;refine BoolOp_or (thn (ha ac s σ H _ I h) ?_);rintro v s1 ⟨x,H1,I1,r1,q1⟩;obtain⟨c,rfl,q1⟩:=q1;cases r1;refine SA ?_;cases c with
 |false=>exact hb ac s1 σ H1 Q I1 q1
 |true=>exact⟨.bl true,H1,I1,rfl,q1⟩
end
def SqL(K:Rb)(H:Hp)(a:Ra)(xs:List V):Prop:=
 Rd H a (.lst xs)\/
  ∃(o:Obj) (be:Array Q_) (n:Nat),K.lookup a=some o/\o.cls=.type "list"/\o.dict=none/\o.data=.seq be n/\be.size<=sizeLine/\Vals xs be.toList
def SqT(K:Rb)(H:Hp)(a:Ra)(xs:List V):Prop:=
 Rd H a (.tup xs)\/
  ∃(o:Obj) (be:Array Q_) (n:Nat),K.lookup a=some o/\o.cls=.type "tuple"/\o.data=.seq be n/\be.size<=sizeLine/\Vals xs be.toList
noncomputable def M4:Q_->Option V
 | .none=>some .non
 | .bool b=>some (.bl b)
 | .int i _=>some (.int i)
 | .str x _=>some (.str x)
 | .bytes b _=>some (.byt b)
 | .float b _=>some (.flt b)
 | .ref a=>some (.ref a)
 | .type n=>some (.ty n)
 | _=>none
theorem RelV.abs {x:V}(r:RelV x u):M4 u=some x:=by
 cases x with
 |non=>cases r;rfl
 |bl _=>cases r;rfl
 |int _=>obtain⟨t,rfl⟩:=r;rfl
 |str _=>obtain⟨t,rfl⟩:=r;rfl
 |byt _=>obtain⟨t,rfl⟩:=r;rfl
 |flt _=>obtain⟨t,rfl⟩:=r;rfl
 |ref _=>cases r;rfl
 |ty _=>cases r;rfl
theorem RelV.inj {x y:V}(r:RelV x u)(q:RelV y u):x=y:=H_ (r.abs.symm.trans q.abs)
theorem Vals.inj:∀{xs ys:List V}{us:List Q_},Vals xs us->Vals ys us->xs=ys:=by
 intro xs ys us x;induction x generalizing ys with
 |nil=>intro y;cases y;rfl
 |cons r t ih=>
  intro y;cases y with
  |cons r' t'=>rw[r.inj r',ih t']
variable {K:Rb}
section
variable{X:Cx}{ac:List (Ra×Obj)}{σ:St}{H:Hp}{s:Rf}{a:Ra}{xs ys:List V}
theorem SqL.of (h:H a=some (.lst xs)):SqL K H a xs:=.inl (.inl h)
theorem SqT.of (h:H a=some (.tup xs)):SqT K H a xs:=.inl (.inl h)
theorem Inv.list (I:Inv X ac σ H s)(h:SqL X.K H a xs):∃be:List Q_,Vals xs be/\PlainL s.heap a be.toArray/\xs.length<=sizeLine:=by
 rcases h with h|⟨o,be,n,hk,hc,hd,hs,hz,r⟩
 ·obtain⟨z,be,n,r,e⟩:=h.ok I.hok;exact⟨be,r,⟨_,n,e,rfl,rfl,rfl⟩,z⟩
 refine⟨be.toList,r,⟨o,n,I.kIn a o hk,hc,hd,by simpa using hs⟩,?_⟩;have e:=r.length;simp only[l_]at e;lia
theorem Inv.tuple (I:Inv X ac σ H s)(h:SqT X.K H a xs):∃be:List Q_,Vals xs be/\YF s.heap a be.toArray/\xs.length<=sizeLine:=by
 rcases h with h|⟨o,be,n,hk,hc,hs,hz,r⟩
 ·obtain⟨z,be,r,p⟩:=h.ok I.hok;exact⟨be,r,p,z⟩
 refine⟨be.toList,r,⟨o,I.kIn a o hk,hc,n,by simpa using hs⟩,?_⟩;have e:=r.length;simp only[l_]at e;lia
theorem Inv.wa (I:Inv X ac σ H s)(h:SqL X.K H a xs)(h':SqL X.K H a ys):xs=ys:=by
 obtain⟨be,r,⟨o,n,e,_,_,d⟩,_⟩:=I.list h;obtain⟨its',r',⟨o',n',e',_,_,d'⟩,_⟩:=I.list h';rw[e]at e';cases e';rw[d]at d';injection d' with d1 _
 have:be=its':=by simpa using congrArg QK d1
 subst this;exact r.inj r'
theorem Inv.nP (I:Inv X ac σ H s)(h:SqT X.K H a xs)(h':SqT X.K H a ys):xs=ys:=by
 obtain⟨be,r,⟨o,e,_,n,d⟩,_⟩:=I.tuple h;obtain⟨its',r',⟨o',e',_,n',d'⟩,_⟩:=I.tuple h';rw[e]at e';cases e';rw[d]at d';injection d' with d1 _
 have:be=its':=by simpa using congrArg QK d1
 subst this;exact r.inj r'
end
abbrev Cx.qY (X:Cx)(E:Q_->Rf->Prop):Cx:={ X with xe:=E}
abbrev Cx.nox (X:Cx):Cx:=X.qY λ_ _=>False
theorem Cx.Ok.qY (ok:X.Ok)(E:Q_->Rf->Prop):(X.qY E).Ok:=
 ⟨ok.mod,ok.kind,ok.glob,ok.blt,ok.above,ok.inj,ok.has,ok.cab,ok.hd,ok.frames,ok.stk,ok.exf,ok.bs,ok.bsz,ok.noex,ok.exfs,ok.pT,ok.frf⟩
theorem Cx.Ok.lh (ok:(X.qY E).Ok):X.Ok:=
 ⟨ok.mod,ok.kind,ok.glob,ok.blt,ok.above,ok.inj,ok.has,ok.cab,ok.hd,ok.frames,ok.stk,ok.exf,ok.bs,ok.bsz,ok.noex,ok.exfs,ok.pT,ok.frf⟩
section
variable{X:Cx}{ac:List (Ra×Obj)}{σ:St}{H:Hp}{s:Rf}{E:Q_->Rf->Prop}
theorem Inv.qY (I:Inv X ac σ H s)(E:Q_->Rf->Prop):Inv (X.qY E) ac σ H s:=⟨I.ok.qY E,I.os,I.bare,I.base,I.loc,I.cell,I.free,I.freeC,I.pin,I.hok,I.len⟩
theorem Inv.lh (I:Inv (X.qY E) ac σ H s):Inv X ac σ H s:=⟨I.ok.lh,I.os,I.bare,I.base,I.loc,I.cell,I.free,I.freeC,I.pin,I.hok,I.len⟩
theorem SP.lh {D:Ends}{f:Flow}{s':Rf}(h:SP (X.qY E) ac D f s'):SP X ac D f s':=by
 cases f with
 |next=>obtain⟨f8,H',I,q⟩:=h;exact⟨f8,H',I.lh,q⟩
 |brk=>obtain⟨f8,H',I,q⟩:=h;exact⟨f8,H',I.lh,q⟩
 |cont=>obtain⟨f8,H',I,q⟩:=h;exact⟨f8,H',I.lh,q⟩
 |ret u=>obtain⟨v,f8,H',I,r,q⟩:=h;exact⟨v,f8,H',I.lh,r,q⟩
theorem PSs.nox {st:List RG}{t:TS}(h:PSs X.nox st t):PSs X st t:=λac s σ H D I hw=>
 RL (h ac s σ H D (I.qY _) hw) (λ_ _ q=>q.lh) λ_ _ z=>Rt z
end
section
variable{X:Cx}{st:RG}{rest:List RG}{t u:TS}{e:Rr}{te:TE}{pos:Pos}
noncomputable def Lp:TS:=λD σ H=>D.nx σ H
noncomputable def LO(t u:TS):TS:=λD σ H=>t { D with nx:=u D} σ H
theorem ux:PSs X [] Lp:=λ_ _ σ H _ I h=>UG ⟨σ,H,I,h⟩
theorem fF(h1:PS X st t)(h2:PSs X rest u):PSs X (st::rest) (LO t u):=by
 intro ac s σ H D I h;refine Xs (thn (h1 ac s σ H { D with nx:=u D} I h) λf s1 q=>?_);cases f with
 |next=>
  obtain⟨f8,H',I',q⟩:=q;exact h2 ac s1 f8 H' D I' q
 |ret v=>exact q
 |brk=>exact q
 |cont=>exact q
theorem mU(h1:PS X st t):PSs X [st] t:=by
 intro ac s σ H D I h;refine Xs (thn (h1 ac s σ H D I h) λf s1 q=>?_);cases f with
 |next=>exact UG q
 |ret v=>exact q
 |brk=>exact q
 |cont=>exact q
theorem Inv.quiet (I:Inv X ac σ H s):Y9 X.env=false:=by simp[Y9,I.ok.kind]
noncomputable def Ky(te:TE):TS:=λD σ H=>te σ H λ_ H1=>D.nx σ H1
theorem EN(he:PE X e te)(hs:Ub e none pos.line X.env=pure false:=by rfl):PS X (.Expr e pos) (Ky te):=by intro ac s σ H D I h;exact wpAny_Expr_any (thn (he ac s σ H _ I h) λv s1 ⟨x,H1,I1,r1,q1⟩=>⟨σ,H1,I1,q1⟩) I.quiet hs
noncomputable def LB(te:TE):TS:=λD σ H=>te σ H D.rt
theorem tF(he:PE X e te):PS X (.Return (some e) pos) (LB te):=by intro ac s σ H D I h;exact wpAny_Return_some (thn (he ac s σ H _ I h) λv s1 ⟨x,H1,I1,r1,q1⟩=>⟨x,σ,H1,I1,r1,q1⟩)
noncomputable def Ly(c:TT)(t u:TS):TS:=λD σ H=>c σ H λb H1=>if b=true then t D σ H1 else u D σ H1
theorem By{c:Rr}{a b:List RG}{tc:TT}(hc:PT X c tc)(ha:PSs X a t)(hb:PSs X b u):PS X (.If c a b pos) (Ly tc t u):=by
 intro ac s σ H D I h;refine wpAny_If (thn (hc ac s σ H _ I h) ?_);rintro d s1 ⟨H1,I1,q1⟩;cases d with
 |true=>exact ha ac s1 σ H1 D I1 q1
 |false=>exact hb ac s1 σ H1 D I1 q1
end
abbrev TG:=V->St->Hp->(St->Hp->Prop)->Prop
abbrev TGs:=List V->St->Hp->(St->Hp->Prop)->Prop
def PG(X:Cx)(target:Rr)(t:TG):Prop:=
 ∀(ac:List (Ra×Obj)) (s:Rf) (σ:St) (H:Hp) (v:V) (u:Q_) (Q:St->Hp->Prop),Inv X ac σ H s->RelV v u->t v σ H Q->
  Rh (Rn X.prog X.w) X.A (Uc target X.env u) (λ_ s'=>∃ f8 H',Inv X ac f8 H' s'/\Q f8 H') X.xe s
def PGs(X:Cx)(ts:List Rr)(t:TGs):Prop:=
 ∀(ac:List (Ra×Obj)) (s:Rf) (σ:St) (H:Hp) (vs:List V) (us:List Q_) (Q:St->Hp->Prop),Inv X ac σ H s->Vals vs us->t vs σ H Q->
  Rh (Rn X.prog X.w) X.A (Vb ((R' ts X.env).map (·.2)) us) (λ_ s'=>∃ f8 H',Inv X ac f8 H' s'/\Q f8 H') X.xe s
abbrev Ek:=V->V->V->Hp->(Hp->Prop)->Prop
def xh(X:Cx)(t:Ek):Prop:=
 ∀(ac:List (Ra×Obj)) (s:Rf) (σ:St) (H:Hp) (o i v:V) (ov iv u:Q_) (Q:Hp->Prop),Inv X ac σ H s->RelV o ov->RelV i iv->RelV v u->t o i v H Q->
  Rh (Rn X.prog X.w) X.A (Yb ov iv u) (λ_ s'=>∃H',Inv X ac σ H' s'/\Q H') X.xe s
abbrev TIp:=V->V->Hp->VK->Prop
def PIp(X:Cx)(op:Vz)(t:TIp):Prop:=
 ∀(ac:List (Ra×Obj)) (s:Rf) (σ:St) (H:Hp) (x y:V) (v u:Q_) (Q:VK),Inv X ac σ H s->RelV x v->RelV y u->t x y H Q->
  Rh (Rn X.prog X.w) X.A (inplaceOp op v u) (EP X ac σ Q) X.xe s
variable {body:List RG}{es:List Rr}{ta:TA}{te:TE}{tg:Rr}
section
variable{X:Cx}{pos:Pos}
noncomputable def zf(i:Nat):TG:=λv σ H Q=>Q (σ.set i (some v)) H
theorem zk(hN:X.N.Nodup)(hi:X.N[i]?=some x)(hx:Loc X.env.scope x)(hf:X.fn x=true\/X.env.scope.names.lookup x=some .local:=by first|exact .inl rfl|exact .inr rfl|assumption):PG X (.Name x pos) (zf i):=by intro ac s σ H v u Q I r h;exact Xc (kS I hN hi hx r (λs' I'=>⟨_,H,I',h⟩) hf)
noncomputable def LA:TGs:=λvs σ H Q=>vs=[]/\Q σ H
noncomputable def Lf(t:TG)(u:TGs):TGs:=λvs σ H Q=>∃v r,vs=v::r/\t v σ H λf8 H'=>u r f8 H' Q
theorem yZ:PGs X [] LA:=by intro ac s σ H vs us Q I r h;obtain⟨e,h⟩:=h;subst e;cases r;exact Xd ⟨σ,H,I,h⟩
theorem qG{t:TG}{u:TGs}(h1:PG X e t)(h2:PGs X es u)
  (hs:(R' (e::es) X.env).map (·.2)=Uc e X.env::(R' es X.env).map (·.2):=by rfl):PGs X (e::es) (Lf t u):=by
 intro ac s σ H vs us Q I r h;obtain⟨v,vr,e1,h⟩:=h;subst e1;cases r with
 |cons r rr=>
  rw[hs];refine U6 (thn (h1 ac s σ H _ _ _ I r h) ?_);rintro _ s1 ⟨σ1,H1,I1,q1⟩;exact h2 ac s1 σ1 H1 _ _ Q I1 rr q1
def M1(K:Rb)(n:Nat)(t:TGs):TG:=λv σ H Q=>∃a xs,v=.ref a/\SqT K H a xs/\xs.length=n/\t xs σ H Q
theorem DW{k:Nat}{t:TGs}{n:Nat}(hc:X.calm=true)(h:PGs X es t)
  (hn:(R' es X.env).length=n:=by rfl) (hst:(R' es X.env).findIdx? (·.1)=none:=by rfl):PG X (.Tuple es k pos) (M1 X.K n t):=by
 intro ac s σ H v u Q I r hw;obtain⟨a,xs,e1,hq,hl,hw⟩:=hw;subst e1;cases r;obtain⟨be,rv,ht,hz⟩:=I.tuple hq;refine assign_Tuple_tuple (I.ok.hd hc) ht (by simp[hn,<-hl,rv.length]) hst λh' hx=>?_
 have I1:Inv X ac σ H {s with heap:=h'}:=I.kept (t':=s.toks) λb o e=>hx b o (s_ (Rm e)) e;exact h ac _ σ H xs _ Q I1 (by simpa using rv) hw
noncomputable def M8(to ti:TE)(t:Ek):TG:=λv σ H Q=>to σ H λo H1=>ti σ H1 λi H2=>t o i v H2 λH3=>Q σ H3
theorem Cm{o i:Rr}{to ti:TE}{t:Ek}(ho:PE X o to)(hi:PE X i ti)(hs:xh X t)
  (ha:∀v,Uc (.Subscript o i pos) X.env v=(do
   let ov <-TC [v] (RF o X.env)
   let iv <-TC [v,ov] (RF i X.env)
   Yc pos
   TC [v,ov,iv] (Yb ov iv v)
   release [v,ov,iv] []):=by intro _;rfl):PG X (.Subscript o i pos) (M8 to ti t):=by
 intro ac s σ H v u Q I r h;rw[ha];refine Q9 (Ry (thn (ho ac s σ H _ I h) ?_));rintro ov s1 ⟨x,H1,I1,r1,q1⟩;refine Q9 (Ry (thn (hi ac s1 σ H1 _ I1 q1) ?_));rintro iv s2 ⟨y,H2,I2,r2,q2⟩;refine Q9 (TH (Q9 (Ry (thn (hs ac s2 σ H2 x y v ov iv u _ I2 r1 r2 r q2) ?_))));rintro _ s3 ⟨H3,I3,q3⟩;exact wpAny_release ⟨σ,H3,I3,q3⟩
noncomputable def Eo(te:TE)(g:TG):TS:=λD σ H=>te σ H λx H1=>g x σ H1 D.nx
theorem CB{g:TG}(he:PE X e te)(hg:PG X tg g)(hs:Vc [tg] e pos.line X.env=pure false:=by rfl)(hw:Vd [tg] e X.env=pure none:=by rfl)
  (h1:(R' [tg] X.env).map (·.2)=[Uc tg X.env]:=by rfl):PS X (.Assign [tg] e pos) (Eo te g):=by
 intro ac s σ H D I h;refine wpAny_Assign_stores (thn (he ac s σ H _ I h) λv s1 ⟨x,H1,I1,r1,q1⟩=>?_) hs hw;rw[h1];exact thn (hg ac s1 σ H1 x v _ I1 r1 q1) λ_ s2 q=>q
theorem kK{pos':Pos}(hN:X.N.Nodup)(hi:X.N[i]?=some x)(hx:Loc X.env.scope x)(he:PE X e te)(hs:Ub e (some (.Name x pos')) pos.line X.env=pure false:=by rfl)(hf:X.fn x=true\/X.env.scope.names.lookup x=some .local:=by first|exact .inl rfl|exact .inr rfl|assumption) :
  PS X (.Assign [.Name x pos'] e pos) (Eo te (zf i)):=by
 intro ac s σ H D I h;refine wpAny_Assign_Name (thn (he ac s σ H _ I h) λv s1 ⟨y,H1,I1,r1,q1⟩=>?_) hs;exact kS I1 hN hi hx r1 (λs2 I2=>⟨_,H1,I2,q1⟩) hf
noncomputable def LD(i j:Nat)(ta:TA):TS:=λD σ H=>ta σ H λvs H1=>∃v w,vs=[v,w]/\D.nx ((σ.set i (some v)).set j (some w)) H1
theorem HI{y:Str}{a b:Rr}{px py pt:Pos}{kt k2 pt2}(hc:X.calm=true)(hN:X.N.Nodup)(hi:X.N[i]?=some x)(hj:X.N[j]?=some y)(lf:i≠j)
  (hx:X.env.scope.names.lookup x=some .local) (hy:X.env.scope.names.lookup y=some .local) (ha:PA X [a,b] ta)
  (hw:Vd [.Tuple [.Name x px,.Name y py] kt pt] (.Tuple [a,b] k2 pt2) X.env=pure (some [x,y]))
  (hs:Vc [.Tuple [.Name x px,.Name y py] kt pt] (.Tuple [a,b] k2 pt2) pos.line X.env=pure false:=by rfl) :
  PS X (.Assign [.Tuple [.Name x px,.Name y py] kt pt] (.Tuple [a,b] k2 pt2) pos) (LD i j ta):=by
 intro ac s σ H D I h;rw[exec_Assign_arm];refine Q9 (TH ?_);rw[hs];refine Q9 (Rc ?_);rw[if_neg (by decide)];refine Q9 (Tuple_ (thn (ha _ ac s σ H _ I h) ?_));rintro us s1 ⟨vs,H1,I1,r1,q1⟩;obtain⟨v,w,e1,q1⟩:=q1;subst e1;obtain⟨u1,u2,rfl,rv,rw'⟩:∃u1 u2,us=[u1,u2]/\RelV v u1/\RelV w u2:=by
  cases r1 with
  |cons p q=>
   cases q with
   |cons p' q'=>
    cases q';exact⟨_,_,rfl,p,p'⟩
 refine RA ?_ (by show 2<=sizeLine;decide);have I2:Inv X ac σ H1 {s1 with heap:=s1.heap.push { cls:=.type "tuple",data:=.seq [u1,u2].toArray} }:=I1.kept (t':=s1.toks) λb o e=>Rg _ e;rw[hw];refine Q9 (Rc ?_);show Rh (Rn X.prog X.w) X.A (do rule "assign.swapped-stores";let items <-unpackItems (.ref s1.heap.objs.size) 2 none;Vb [λv=>Xt X.env y v,λv=>Xt X.env x v] items.reverse;pure ZF) _ _ _;refine Q9 (Ss (Q9 (unpackItems_tuple (items:=#[u1,u2]) (I.ok.hd hc) (WU s1.heap _) λh' hx'=>?_)));have I3:=I2.kept (h':=h') (t':=s1.toks) λb o e=>hx' b o (s_ (Rm e)) e;show Rh _ _ (Vb [λv=>Xt X.env y v,λv=>Xt X.env x v] [u2,u1] >>= λ_=>pure ZF) _ _ _;refine Q9 (U6 (Yd (kS I3 hN hj (.inl hy) rw' (λs2 I4=>?_) (.inr hy))));refine U6 (Yd (kS I4 hN hi (.inl hx) rv (λs3 I5=>Xd (Rc ?_)) (.inr hx)));rw[List.set_comm _ _ (Ti lf)]at I5;exact⟨_,H1,I5,q1⟩
noncomputable def LR(i:Nat)(te:TE)(ti:TIp):TS:=λD σ H=>∃x,σ[i]?=some (some x)/\te σ H λy H1=>ti x y H1 λz H2=>D.nx (σ.set i (some z)) H2
theorem Jl{op:Vz}{ti:TIp}{pos':Pos}(hN:X.N.Nodup)(hi:X.N[i]?=some x)(hx:Loc X.env.scope x)(he:PE X e te)(ho:PIp X op ti)(hf:X.fn x=true\/X.env.scope.names.lookup x=some .local:=by first|exact .inl rfl|exact .inr rfl|assumption) :
  PS X (.AugAssign (.Name x pos') op e pos) (LR i te ti):=by
 intro ac s σ H D I h;obtain⟨v,e1,h⟩:=h;obtain⟨m,hn,hl⟩:=I.loc;have vis:Vis X.env.scope x:=by rcases hx with k|k;exact .inl k;exact .inr (.inl k)
 obtain⟨u,r,l⟩:=hl i x v hi e1 vis;refine wpAny_AugAssign_Name ?_;have go:Rh (Rn X.prog X.w) X.A (RF e X.env) (λw s₂=>Rh (Rn X.prog X.w) X.A (inplaceOp op u w) (λr s₃=>Rh (Rn X.prog X.w) X.A (Yr X.env x r) (λ_=>SP X ac D .next) X.xe s₃) X.xe s₂) X.xe s:=by refine thn (he ac s σ H _ I h) ?_;rintro w s1 ⟨y,H1,I1,r1,q1⟩;refine thn (ho ac s1 σ H1 v y u w _ I1 r r1 q1) ?_;rintro z s2 ⟨zv,H2,I2,r2,q2⟩;exact kS I2 hN hi hx r2 (λs3 I3=>⟨_,H2,I3,q2⟩) hf
 rcases l with⟨hk,hm⟩|⟨hk,c,hc,hcell⟩
 ·exact Wq I.ok.kind hk hn hm go
 rcases hk with hk|hk
 ·exact WN I.ok.kind hk hc hcell go
 rcases hx with k|k
 ·have:X.env.scope.names.lookup x=some .free:=hk;rw[k]at this;cases this
 have:X.env.scope.names.lookup x=some .free:=hk;rw[k]at this;cases this
noncomputable def ipI(f:Int->Int->Int):TIp:=λx y H Q=>∃i j,x=.int i/\y=.int j/\Q (.int (f i j)) H
theorem Jq:PIp X .Add (ipI λi j=>i+j):=by intro ac s σ H x y v u Q I r1 r2 h;obtain⟨i,j,e1,e2,q⟩:=h;subst e1;subst e2;obtain⟨t,rfl⟩:=r1;obtain⟨t',rfl⟩:=r2;exact iadd_int ⟨.int _,H,I.tok _,⟨_,rfl⟩,q⟩
noncomputable def HV(c:TT)(tb:TS):TS:=λD σ H=>∃W:Nat->St->Hp->Prop,(∃m,W m σ H)/\∀m σ H,W m σ H->
 c σ H λb H1=>if b=true then ∃N:St->Hp->Prop,(∀ f8 H',N f8 H'->∃m',m'<m/\W m' f8 H')/\tb { D with nx:=N,ct:=N,bk:=D.nx} σ H1 else D.nx σ H1
theorem BS{c:Rr}{tc:TT}{tb:TS}(hp:WV (Rn X.prog X.w) X.A X.env X.xe)(hc:PT X c tc)(hb:PSs X body tb):PS X (.While c body [] pos) (HV tc tb):=by
 intro ac s σ H D I h;obtain⟨W,⟨m0,w0⟩,turn⟩:=h;refine wpAny_While (codeAny_whileLoop (λn s'=>∃ f8 H',Inv X ac f8 H' s'/\W n f8 H') ?_ m0 ⟨σ,H,I,w0⟩);rintro n s1 ⟨σ1,H1,I1,w1⟩;refine Tj hp (thn (hc ac s1 σ1 H1 _ I1 (turn n σ1 H1 w1)) ?_);rintro b s2 ⟨H2,I2,q2⟩;cases b with
 |true=>
  obtain⟨N,hN,q2⟩:=q2;rw[if_pos rfl];refine Tj hp (thn (hb ac s2 σ1 H2 _ I2 q2) λf s3 q3=>?_);cases f with
  |next=>
   obtain⟨σ3,H3,I3,n3⟩:=q3;obtain⟨m',hm,w3⟩:=hN σ3 H3 n3;exact⟨m',hm,σ3,H3,I3,w3⟩
  |cont=>
   obtain⟨σ3,H3,I3,n3⟩:=q3;obtain⟨m',hm,w3⟩:=hN σ3 H3 n3;exact⟨m',hm,σ3,H3,I3,w3⟩
  |brk=>exact q3
  |ret v=>exact q3
 |false=>
  rw[if_neg C_];exact UG ⟨σ1,H2,I2,q2⟩
end
structure It where
 go:Nat->Hp->Prop
 yld:Nat->Hp->V->Hp->Prop
 stop:Nat->Hp->Prop
noncomputable def mN(X:Cx)(ac:List (Ra×Obj))(H:Hp)(b:Ra):Prop:=
 H b=none/\b≠X.env.locals/\b ∉ X.fs/\(b∈X.ex\/X.s₀.heap.objs.size<=b)/\(∀x c,X.env.cells.lookup x=some c->c≠b)/\∀p∈X.pn++ac,p.1≠b
theorem Inv.ve {H':Hp}(I:Inv X ac σ H s)(hb:s.heap.objs.size<=b)(hn:H' b=none):mN X ac H' b:=by
 refine⟨hn,MY (A' I.lt hb),I.M5 hb,.inr (G' I.sz hb),λx c e z=>?_,λp hp z=>?_⟩
 ·obtain⟨v,q⟩:=I.cell x c e;exact absurd (A' q.lt (by rw[z];exact hb)) (MW _)
 exact absurd (A' (Rm (I.pin p hp).1) (by rw[z];exact hb)) (MW _)
structure Turn (P:Rj) (w:Ro) (K:Rb) (tg:Rr) (J:It) (fp:List Ra) (it:Ra) (tn:Nat->Rq->Prop):Prop where
 mem:it∈fp
 obj:∀i h,tn i h->∀b∈fp,∃o,h.get? b=some o/\∀v,o.data≠.cell v
 keep:∀i h h',tn i h->(∀b∈fp,∀o,h.get? b=some o->h'.get? b=some o)->tn i h'
 item:∀(X:Cx),X.prog=P->X.w=w->X.K=K->X.calm=true->∀(i:Nat) (ac:List (Ra×Obj)) (s:Rf) (σ:St) (H:Hp) (E:Q_->Rf->Prop),Inv X ac σ H s->(∀b∈fp,mN X ac H b)->tn i s.heap->J.go i H->
  Rh (Rn P w) X.A (SQ (.ref it)) (λr s1=>∃u,r=some u/\
   Rh (Rn P w) X.A (UH tg (.ref it) u) (λ_ s2=>∃x H',Inv X ac σ H' s2/\RelV x u/\J.yld i H x H'/\tn (i+1) s2.heap/\∀b∈fp,H' b=none) E s1) E s
 done:∀(X:Cx),X.prog=P->X.w=w->X.K=K->X.calm=true->∀(i:Nat) (ac:List (Ra×Obj)) (s:Rf) (σ:St) (H:Hp) (E:Q_->Rf->Prop),Inv X ac σ H s->(∀b∈fp,mN X ac H b)->tn i s.heap->J.stop i H->
  Rh (Rn P w) X.A (SQ (.ref it)) (λr s1=>r=none/\Inv X ac σ H s1) E s
 self:∀(A:Rw) (i:Nat) (s:Rf) (Q:Q_->Rf->Prop) (E:Q_->Rf->Prop),tn i s.heap->Q (.ref it) s->Rh (Rn P w) A (Ut (.ref it)) Q E s
abbrev TI:=St->Hp->(It->Hp->Prop)->Prop
def PIE(X:Cx)(ac:List (Ra×Obj))(σ:St)(tg:Rr)(R:It->Hp->Prop)(itv:Q_)(s2:Rf):Prop:=
 ∃(it:Ra) (fp:List Ra) (tn:Nat->Rq->Prop) (J:It) (H':Hp),itv=.ref it/\Inv X ac σ H' s2/\Turn X.prog X.w X.K tg J fp it tn/\tn 0 s2.heap/\(∀b∈fp,mN X ac H' b)/\R J H'
def PI(X:Cx)(tg iter:Rr)(wi:TI):Prop:=
 ∀(ac:List (Ra×Obj)) (s:Rf) (σ:St) (H:Hp) (R:It->Hp->Prop),Inv X ac σ H s->wi σ H R->
  Rh (Rn X.prog X.w) X.A (RF iter X.env) (λv s1=>Rh (Rn X.prog X.w) X.A (Ut v) (PIE X ac σ tg R) X.xe s1) X.xe s
theorem ya{it:Ra}{o:Obj}{n:String}{vs:Array Q_}(ho:s.heap.get? it=some o)(hc:o.cls=.type n)(hd:o.data=.fields vs)
    (hn:["enumerate","zip","dict_itemiterator","dict_reverseitemiterator","odict_iterator","itertools.zip_longest","itertools.pairwise"].contains n=false) (hQ:Q () s):Rh M A (UH tg (.ref it) u) Q E s:=by
  unfold UH;cases tg <;> first
    |exact Rc hQ
    | (cases u <;> first
        |exact Rc hQ
        | (refine Q9 (Vp ho ?_)
           rw[hc,hd];show Rh M A (if(["enumerate","zip","dict_itemiterator","dict_reverseitemiterator","odict_iterator","itertools.zip_longest","itertools.pairwise"].contains n&&vs[0]? == some (R8 _))=true then _ else _) Q E s;rw[if_neg (by intro h;rw[hn,Ph]at h;cases h)];exact Rc hQ))
def Itl(K:Rb)(a:Ra):It:=
 ⟨λi H=>∃xs x,SqL K H a xs/\xs[i]?=some x,λi H x H'=>H'=H/\∀xs,SqL K H a xs->xs[i]?=some x,λi H=>∃xs,SqL K H a xs/\xs.length<=i⟩
def Itt(K:Rb)(a:Ra):It:=
 ⟨λi H=>∃xs x,SqT K H a xs/\xs[i]?=some x,λi H x H'=>H'=H/\∀xs,SqT K H a xs->xs[i]?=some x,λi H=>∃xs,SqT K H a xs/\xs.length<=i⟩
noncomputable def Itr(lo:Int)(n:Nat):It:=⟨λi _=>i<n,λi H x H'=>H'=H/\x=.int (lo+i),λi _=>n<=i⟩
theorem Ap(a it:Ra):Turn P w K tg (Itl K a) [it] it (λi h=>h.IsListIter it a i) where
 mem:=by simp
 obj:=λi h st b hb=>by
  have e:b=it:=by simpa using hb
  subst e;obtain⟨o,e,c,d⟩:=st;exact⟨o,e,λv z=>by rw[d]at z;cases z⟩
 keep:=λi h h' st k=>st.at λo e=>k it (by simp) o e
 item:=by
  intro X hP hw hK hc i ac s σ H E I hf st hg;subst hP hw hK;obtain⟨xs,x,hq,hx⟩:=hg;obtain⟨be,rv,p,hz⟩:=I.list hq;obtain⟨u,hu,ru⟩:=rv.get hx;obtain⟨f0,f1,f2,f3,f4,f5⟩:=hf it (by simp);refine VZ st p.isList (x:=u) (by simpa using hu) λh' am sb=>?_
  have I1:Inv X ac σ H {s with heap:=h'}:=I.turned (t':=s.toks) (λb o hb e=>(sb.2 b hb).trans e) f0 f1 f3 f4 f5;obtain⟨o,e,c,d⟩:=id am;exact⟨u,rfl,ya (s:={s with heap:=h'}) e c d (by decide) ⟨x,H,I1,ru,⟨rfl,λys hy=>by rw[I.wa hy hq];exact hx⟩,am,λb hb=>(hf b hb).1⟩⟩
 done:=by intro X hP hw hK hc i ac s σ H E I hf st hg;subst hP hw hK;obtain⟨xs,hq,hx⟩:=hg;obtain⟨be,rv,p,hz⟩:=I.list hq;obtain⟨f0,f1,f2,f3,f4,f5⟩:=hf it (by simp);have hl:=rv.length;exact V9 (I.ok.hd hc) st p.isList (by simp;lia) λh' eb=>⟨rfl,I.turned (t':=s.toks) (λb o hb e=>eb b o hb e) f0 f1 f3 f4 f5⟩
 self:=λ_ _ _ _ _ st h=>wpAny_pyIter_listiter st h
theorem xI(a it:Ra):Turn P w K tg (Itt K a) [it] it (λi h=>h.IsTupleIter it a i) where
 mem:=by simp
 obj:=λi h st b hb=>by
  have e:b=it:=by simpa using hb
  subst e;obtain⟨o,e,c,d⟩:=st;exact⟨o,e,λv z=>by rw[d]at z;cases z⟩
 keep:=λi h h' st k=>st.at λo e=>k it (by simp) o e
 item:=by
  intro X hP hw hK hc i ac s σ H E I hf st hg;subst hP hw hK;obtain⟨xs,x,hq,hx⟩:=hg;obtain⟨be,rv,p,hz⟩:=I.tuple hq;obtain⟨u,hu,ru⟩:=rv.get hx;obtain⟨f0,f1,f2,f3,f4,f5⟩:=hf it (by simp);refine wpAny_pyNext_tuple_item st (show s.heap.IsTuple a be.toArray from p) (x:=u) (by simpa using hu) λh' am sb=>?_
  have I1:Inv X ac σ H {s with heap:=h'}:=I.turned (t':=s.toks) (λb o hb e=>(sb.2 b hb).trans e) f0 f1 f3 f4 f5;obtain⟨o,e,c,d⟩:=id am;exact⟨u,rfl,ya (s:={s with heap:=h'}) e c d (by decide) ⟨x,H,I1,ru,⟨rfl,λys hy=>by rw[I.nP hy hq];exact hx⟩,am,λb hb=>(hf b hb).1⟩⟩
 done:=by intro X hP hw hK hc i ac s σ H E I hf st hg;subst hP hw hK;obtain⟨xs,hq,hx⟩:=hg;obtain⟨be,rv,p,hz⟩:=I.tuple hq;obtain⟨f0,f1,f2,f3,f4,f5⟩:=hf it (by simp);have hl:=rv.length;exact wpAny_pyNext_tuple_end (I.ok.hd hc) st (show s.heap.IsTuple a be.toArray from p) (by simp;lia) λh' eb=>⟨rfl,I.turned (t':=s.toks) (λb o hb e=>eb b o hb e) f0 f1 f3 f4 f5⟩
 self:=λ_ _ _ _ _ st h=>wpAny_pyIter_tupleiter st h
theorem wH(it:Ra)(lo:Int)(n:Nat):Turn P w K tg (Itr lo n) [it] it (λi h=>Y_ h it (lo+(i:Nat)*1) ((n:Int)-(i:Nat)) 1) where
 mem:=by simp
 obj:=λi h st b hb=>by
  have e:b=it:=by simpa using hb
  subst e;exact⟨_,st,λv z=>by have z':Xm _=VO v:=z;cases z'⟩
 keep:=λi h h' st k=>k it (by simp) _ st
 item:=by intro X hP hw hK hc i ac s σ H E I hf st hg;subst hP hw hK;obtain⟨f0,f1,f2,f3,f4,f5⟩:=hf it (by simp);have W:=Walks.range (prog:=X.prog) (w:=X.w) (I.ok.hd hc) it lo 1 n;refine W.item i s _ _ hg st λv h' tk hv am kk=>?_;obtain⟨t,rfl⟩:=hv;have I1:Inv X ac σ H {s with heap:=h',toks:=tk}:=I.turned (λb o hb e=>kk b o (by simpa using hb) e) f0 f1 f3 f4 f5;refine⟨_,rfl,ya (s:={s with heap:=h',toks:=tk}) (n:="range_iterator") am rfl rfl (by decide) ⟨.int (lo+i),H,I1,⟨t,?_⟩,⟨rfl,rfl⟩,am,λb hb=>(hf b hb).1⟩⟩;rw[Int.mul_one]
 done:=by intro X hP hw hK hc i ac s σ H E I hf st hg;subst hP hw hK;obtain⟨f0,f1,f2,f3,f4,f5⟩:=hf it (by simp);exact wpAny_pyNext_range_end (I.ok.hd hc) st (by have:n<=i:=hg;lia) λh' eb=>⟨rfl,I.turned (t':=s.toks) (λb o hb e=>eb b o hb e) f0 f1 f3 f4 f5⟩
 self:=λ_ _ _ _ _ st h=>wpAny_pyIter_rangeiter st h
variable {fp:List Ra}
section
variable{X:Cx}{tg:Rr}
theorem vF{R:It->Hp->Prop}{lo hi:Int}{t u v:Tok}{tk:Nat}(I:Inv X ac σ H s)(h1:-(2 ^ 62)<=lo)(h2:lo<2 ^ 62)(h3:-(2 ^ 62)<=hi)(h4:hi<2 ^ 62)
  (q:R (Itr lo (hi-lo).toNat) H):Rh (Rn X.prog X.w) X.A (Ut (.ref s.heap.objs.size)) (PIE X ac σ tg R) E {s with heap:=s.heap.push { cls:=.type "range",data:=.fields #[.int lo t,.int hi u,.int 1 v] },toks:=tk}:=by
 refine wpAny_pyIter_range (IsRange.new ..) (small_one h1 h2 h3 h4) ?_;have I1:Inv X ac σ H {s with heap:=s.heap.push { cls:=.type "range",data:=.fields #[.int lo t,.int hi u,.int 1 v] },toks:=tk}:=I.kept λb o e=>Rg _ e;refine⟨(s.heap.push { cls:=.type "range",data:=.fields #[.int lo t,.int hi u,.int 1 v] }).objs.size,[(s.heap.push { cls:=.type "range",data:=.fields #[.int lo t,.int hi u,.int 1 v] }).objs.size],_,_,H,rfl,
  I1.kept (t':=tk) λb o e=>Rg _ e,wH _ lo (hi-lo).toNat,?_,λb hb=>?_,q⟩
 ·have e1:lo+((0:Nat):Int)*1=lo:=by simp
  have e2:(((hi-lo).toNat:Nat):Int)-((0:Nat):Int)=Y0 lo hi 1:=by rw[rangeSize_one];split <;> lia
  show Y_ _ _ (lo+((0:Nat):Int)*1) ((((hi-lo).toNat:Nat):Int)-((0:Nat):Int)) 1;rw[e1,e2];exact Ri _ rfl
 have e:b=(s.heap.push { cls:=.type "range",data:=.fields #[.int lo t,.int hi u,.int 1 v] }).objs.size:=by simpa using hb
 subst e;exact I1.ve (c_ _) (I1.hok.fresh (c_ _))
def Kl(ta:TA):TI:=λσ H R=>ta σ H λvs H1=>∃j:Int,vs=[.int j]/\-(2 ^ 62)<=j/\j<2 ^ 62/\R (Itr 0 j.toNat) H1
def JY(ta:TA):TI:=λσ H R=>ta σ H λvs H1=>∃i j:Int,vs=[.int i,.int j]/\(-(2 ^ 62)<=i/\i<2 ^ 62/\-(2 ^ 62)<=j/\j<2 ^ 62)/\R (Itr i (j-i).toNat) H1
theorem AI{a:Rr}{p:Pos}(hg:Gl X "range")(hm:X.mg "range"=none)(ha:PA X [a] ta)(hs:Ru [a] X.env=[(false,RF a X.env)]:=by rfl):PI X tg (.Call (.Name "range" p) [a] [] pos) (Kl ta):=by
 intro ac s σ H R I h;refine Zp (jH I hg hm boot_range (SD (thn (ha pos ac s σ H _ I h) λus s1 ⟨vs,H1,I1,r1,q1⟩=>?_) hs rfl));obtain⟨j,e,q1,q2,q⟩:=q1;subst e;cases r1 with
 |cons r rr=>
  cases rr;obtain⟨t,rfl⟩:=r;exact call_range_1 (vF I1 (by lia) (by lia) q1 q2 (by simpa using q))
theorem Az{a b:Rr}{p:Pos}(hg:Gl X "range")(hm:X.mg "range"=none)(ha:PA X [a,b] ta)(hs:Ru [a,b] X.env=[(false,RF a X.env),(false,RF b X.env)]:=by rfl)(hs2:Ru [b] X.env=[(false,RF b X.env)]:=by rfl) :
  PI X tg (.Call (.Name "range" p) [a,b] [] pos) (JY ta):=by
 intro ac s σ H R I h;refine Zp (jH I hg hm boot_range (SD (thn (ha pos ac s σ H _ I h) λus s1 ⟨vs,H1,I1,r1,q1⟩=>?_) (by rw[hs,hs2]) (by rw[hs2];rfl)));obtain⟨i,j,e,⟨q1,q2,q3,q4⟩,q⟩:=q1;subst e;cases r1 with
 |cons r rr=>
  cases rr with
  |cons r' rr=>
   cases rr;obtain⟨t,rfl⟩:=r;obtain⟨t',rfl⟩:=r';exact call_range_2 (vF I1 q1 q2 q3 q4 q)
noncomputable def LW(wi:TI)(g:TG)(tb:TS):TS:=λD σ H=>wi σ H λJ H1=>∃W:Nat->Nat->St->Hp->Prop,(∃m,W 0 m σ H1)/\∀i m σ H,W i m σ H->
 (J.stop i H/\D.nx σ H)\/(J.go i H/\∃N:St->Hp->Prop,(∀ f8 H',N f8 H'->∃m',m'<m/\W (i+1) m' f8 H')/\∀x H',J.yld i H x H'->g x σ H' λσ2 H2=>tb { D with nx:=N,ct:=N,bk:=D.nx} σ2 H2)
noncomputable def nK(fp:List Ra)(h:Rq):List (Ra×Obj):=fp.filterMap λb=>(h.get? b).map λo=>(b,o)
theorem iy{o:Obj}(hb:b∈fp)(e:h.get? b=some o):(b,o)∈nK fp h:=NU.mpr ⟨b,hb,by rw[e];rfl⟩
theorem AE{p:Ra×Obj}(hp:p∈nK fp h):p.1∈fp/\h.get? p.1=some p.2:=by
 obtain⟨b,hb,e⟩:=NU.mp hp;cases q:h.get? b with
 |none=>rw[q]at e;cases e
 |some o=>
  rw[q]at e;have e':(b,o)=p:=H_ e;subst e';exact⟨hb,q⟩
theorem Inv.pinned (I:Inv X ac σ H s)(hf:∀b∈fp,mN X ac H b)(ho:∀b∈fp,∃o,s.heap.get? b=some o/\∀v,o.data≠.cell v):Inv X (ac++nK fp s.heap) σ H s:=
 I.zH λp hp=>(C'.mp hp).elim (λz=>I.pin p (u_ _ z)) λz=>by obtain⟨hb,e⟩:=AE z;obtain⟨f0,f1,f2,_⟩:=hf p.1 hb;obtain⟨o,e',d⟩:=ho p.1 hb;rw[e]at e';cases e';exact⟨e,f0,f1,f2,d⟩
theorem Inv.lq {pl:List (Ra×Obj)}(I:Inv X (ac++pl) σ H s):Inv X ac σ H s:=I.zH λp hp=>I.pin p (u_ _ (K' _ hp))
theorem JA{iter:Rr}{wi:TI}{g:TG}{tb:TS}(hp:WV (Rn X.prog X.w) X.A X.env X.xe)(hc:X.calm=true)(hi:PI X tg iter wi)(hg:PG X tg g)(hb:PSs X body tb)
  (hs:∀x,Sb iter X.env x=pure x:=by intro _;rfl):PS X (.For tg iter body [] pos) (LW wi g tb):=by
 intro ac s σ H D I h;refine wpAny_For (thn (hi ac s σ H _ I h) λv s1 h1=>thn h1 λitv s2 h2=>?_) hs;obtain⟨it,fp,tn,J,H2,e,I2,T,jp,f2,W,⟨m0,w0⟩,turn⟩:=h2;subst e;have stat:∀{H':Hp},(∀b∈fp,H' b=none)->∀b∈fp,mN X ac H' b:=λhn b hb=>⟨hn b hb,(f2 b hb).2⟩;refine codeAny_forLoop_any (λn s'=>∃i f8 H',Inv X ac f8 H' s'/\tn i s'.heap/\(∀b∈fp,H' b=none)/\W i n f8 H') ?_ m0 ⟨0,σ,H2,I2,jp,λb hb=>(f2 b hb).1,w0⟩;rintro n s3 ⟨i,σ3,H3,I3,kw,fr3,w3⟩;rcases turn i n σ3 H3 w3 with⟨stop,qn⟩|⟨go,N,hN,step⟩
 ·refine Tj hp (thn (T.done X rfl rfl rfl hc i ac s3 σ3 H3 X.xe I3 (stat fr3) kw stop) ?_);rintro r s4 ⟨hr,I4⟩;subst hr;exact UG ⟨σ3,H3,I4,qn⟩
 refine Tj hp (thn (T.item X rfl rfl rfl hc i ac s3 σ3 H3 X.xe I3 (stat fr3) kw go) ?_);rintro r s4 ⟨u,hr,h4⟩;subst hr;refine Tj hp (thn h4 ?_);rintro _ s5 ⟨x,H5,I5,r5,y5,st5,fr5⟩;have I5':=I5.pinned (stat fr5) (T.obj _ _ st5);refine Tj hp (thn (hg _ s5 σ3 H5 x u _ I5' r5 (step x H5 y5)) ?_);rintro _ s6 ⟨σ6,H6,I6,q6⟩;refine Tj hp (thn (hb _ s6 σ6 H6 _ I6 q6) λf s7 q7=>?_);have again:∀{σ7:St}{H7:Hp},Inv X (ac++nK fp s5.heap) σ7 H7 s7->N σ7 H7->∃m,m<n/\∃i f8 H',Inv X ac f8 H' s7/\tn i s7.heap/\(∀b∈fp,H' b=none)/\W i m f8 H':=λ{σ7 H7} I7 n7=>by obtain⟨m',hm,w7⟩:=hN σ7 H7 n7;refine⟨m',hm,i+1,σ7,H7,I7.lq,T.keep _ _ _ st5 λb hb o e=>(I7.pin (b,o) (u_ _ (u_ _ (iy hb e)))).1,λb hb=>?_,w7⟩;obtain⟨o,e,d⟩:=T.obj _ _ st5 b hb;exact(I7.pin (b,o) (u_ _ (u_ _ (iy hb e)))).2.1
 cases f with
 |next=>obtain⟨σ7,H7,I7,n7⟩:=q7;exact again I7 n7
 |cont=>obtain⟨σ7,H7,I7,n7⟩:=q7;exact again I7 n7
 |brk=>obtain⟨σ7,H7,I7,q7⟩:=q7;exact⟨σ7,H7,I7.lq,q7⟩
 |ret v=>obtain⟨x7,σ7,H7,I7,r7,q7⟩:=q7;exact⟨x7,σ7,H7,I7.lq,r7,q7⟩
end
abbrev R2:=V->V->Hp->VK->Prop
def OpR(X:Cx)(f:Q_->Q_->Sem Q_)(r:R2):Prop:=
 ∀(ac:List (Ra×Obj)) (s:Rf) (σ:St) (H:Hp) (x y:V) (v u:Q_) (Q:VK),Inv X ac σ H s->RelV x v->RelV y u->r x y H Q->
  Rh (Rn X.prog X.w) X.A (f v u) (EP X ac σ Q) X.xe s
def UnR(X:Cx)(f:Q_->Sem Q_)(r:V->Hp->VK->Prop):Prop:=
 ∀(ac:List (Ra×Obj)) (s:Rf) (σ:St) (H:Hp) (x:V) (v:Q_) (Q:VK),Inv X ac σ H s->RelV x v->r x H Q->
  Rh (Rn X.prog X.w) X.A (f v) (EP X ac σ Q) X.xe s
def de(X:Cx)(f:Q_)(r:List V->Hp->VK->Prop):Prop:=
 ∀(ac:List (Ra×Obj)) (s:Rf) (σ:St) (H:Hp) (xs:List V) (us:List Q_) (Q:VK),Inv X ac σ H s->Vals xs us->r xs H Q->
  Rh (Rn X.prog X.w) X.A (call f us) (EP X ac σ Q) X.xe s
def M3(X:Cx)(r:V->Hp->(Bool->Hp->Prop)->Prop):Prop:=
 ∀(ac:List (Ra×Obj)) (s:Rf) (σ:St) (H:Hp) (x:V) (v:Q_) (Q:Bool->Hp->Prop),Inv X ac σ H s->RelV x v->r x H Q->
  Rh (Rn X.prog X.w) X.A (truthy v) (TP X ac σ Q) X.xe s
noncomputable def tOp(r:R2)(ta tb:TE):TE:=λσ H Q=>ta σ H λx H1=>tb σ H1 λy H2=>r x y H2 Q
noncomputable def tUn(r:V->Hp->VK->Prop)(ta:TE):TE:=λσ H Q=>ta σ H λx H1=>r x H1 Q
noncomputable def rI(C:Int->Int->Prop)(g:Int->Int->V):R2:=λx y H Q=>∃i j,x=.int i/\y=.int j/\C i j/\Q (g i j) H
noncomputable def rI0(g:Int->Int->V):R2:=λx y H Q=>∃i j,x=.int i/\y=.int j/\Q (g i j) H
noncomputable def rU(g:Int->V):V->Hp->VK->Prop:=λx H Q=>∃i,x=.int i/\Q (g i) H
variable {f:Q_->Q_->Sem Q_}{g:Int->Int->Int}{op:VP}
section
variable{X:Cx}{a b c:Rr}{ta tb tc:TE}{pos:Pos}
theorem Im(ha:PE X a ta)(hb:PE X b tb){R:V->V->Hp->Prop}(I:Inv X ac σ H s)
  (h:ta σ H λx H1=>tb σ H1 λy H2=>R x y H2) {Q:Q_->Rf->Prop} {f:Q_->Q_->Sem Q_}
  (hf:∀v u s2 x y H2,Inv X ac σ H2 s2->RelV x v->RelV y u->R x y H2->Rh (Rn X.prog X.w) X.A (f v u) Q X.xe s2) :
  Rh (Rn X.prog X.w) X.A (RF a X.env) (λv s₁=>Rh (Rn X.prog X.w) X.A (RF b X.env) (λu s₂=>Rh (Rn X.prog X.w) X.A (f v u) Q X.xe s₂) X.xe s₁) X.xe s:=by
 refine thn (ha ac s σ H _ I h) ?_;rintro v s1 ⟨x,H1,I1,r1,q1⟩;refine thn (hb ac s1 σ H1 _ I1 q1) ?_;rintro u s2 ⟨y,H2,I2,r2,q2⟩;exact hf v u s2 x y H2 I2 r1 r2 q2
theorem il{op:Vz}{r:R2}(ho:OpR X (Sf op) r)(ha:PE X a ta)(hb:PE X b tb):PE X (.BinOp a op b pos) (tOp r ta tb):=by intro ac s σ H Q I h;exact wpAny_BinOp (Im ha hb I h λv u s2 x y H2 I2 rx ry q=>ho ac s2 σ H2 x y v u Q I2 rx ry q)
theorem Ll{op:UnaryOp}{r:V->Hp->VK->Prop}(ho:UnR X (unaryOp op) r)(ha:PE X a ta):PE X (.UnaryOp op a pos) (tUn r ta):=by intro ac s σ H Q I h;exact UnaryOp_ (thn (ha ac s σ H _ I h) λv s1 ⟨x,H1,I1,r1,q1⟩=>ho ac s1 σ H1 x v Q I1 r1 q1)
theorem opI{C:Int->Int->Prop}
  (rule:∀(i j:Int) (t u:Tok) (s:Rf) (Q:Q_->Rf->Prop) (E:Q_->Rf->Prop),C i j->Q (.int (g i j) s.toks) {s with toks:=s.toks+1}->Rh (Rn X.prog X.w) X.A (f (.int i t) (.int j u)) Q E s) :
  OpR X f (rI C λi j=>.int (g i j)):=by
 intro ac s σ H x y v u Q I rx ry h;obtain⟨i,j,rfl,rfl,hc,q⟩:=h;obtain⟨t,rfl⟩:=rx;obtain⟨t',rfl⟩:=ry;exact rule i j t t' s _ _ hc ⟨.int (g i j),H,I.tok _,⟨_,rfl⟩,q⟩
theorem KJ
  (rule:∀(i j:Int) (t u:Tok) (s:Rf) (Q:Q_->Rf->Prop) (E:Q_->Rf->Prop),Q (.int (g i j) s.toks) {s with toks:=s.toks+1}->Rh (Rn X.prog X.w) X.A (f (.int i t) (.int j u)) Q E s) :
  OpR X f (rI0 λi j=>.int (g i j)):=by
 intro ac s σ H x y v u Q I rx ry h;obtain⟨i,j,rfl,rfl,q⟩:=h;obtain⟨t,rfl⟩:=rx;obtain⟨t',rfl⟩:=ry;exact rule i j t t' s _ _ ⟨.int (g i j),H,I.tok _,⟨_,rfl⟩,q⟩
theorem Ga{g:Int->Int->Bool}
  (rule:∀(i j:Int) (t u:Tok) (s:Rf) (Q:Q_->Rf->Prop) (E:Q_->Rf->Prop),Q (.bool (g i j)) s->Rh (Rn X.prog X.w) X.A (f (.int i t) (.int j u)) Q E s) :
  OpR X f (rI0 λi j=>.bl (g i j)):=by
 intro ac s σ H x y v u Q I rx ry h;obtain⟨i,j,rfl,rfl,q⟩:=h;obtain⟨t,rfl⟩:=rx;obtain⟨t',rfl⟩:=ry;exact rule i j t t' s _ _ ⟨.bl (g i j),H,I,rfl,q⟩
noncomputable def Ff(i j:Int):Prop:=0<j/\j<1073741824
noncomputable def LV(i j:Int):Prop:=0<=j/\j<=1000000/\i.natAbs<2 ^ 64
noncomputable def xS(i j:Int):Prop:=(-(2 ^ 64)<i/\i<2 ^ 64)\/(-(2 ^ 64)<j/\j<2 ^ 64)
theorem xS.ok {i j:Int}(h:xS i j):IntMulOk i j:=by
 rcases h with⟨h1,h2⟩|⟨h1,h2⟩
 ·exact .of_left (Yu h1 h2)
 exact .of_right (Yu h1 h2)
theorem qt:OpR X (Sf .Add) (rI0 λi j=>.int (i+j)):=KJ λ_ _ _ _ _ _ _ q=>add_int q
theorem J0:OpR X (Sf .Sub) (rI0 λi j=>.int (i-j)):=KJ λ_ _ _ _ _ _ _ q=>sub_int q
theorem mn:OpR X (Sf .Mult) (rI xS λi j=>.int (i*j)):=opI λ_ _ _ _ _ _ _ hc q=>mul_int q hc.ok
theorem yi:OpR X (Sf .FloorDiv) (rI Ff λi j=>.int (i/j)):=opI λi j _ _ _ _ _ hc q=>by have h1:(0:Int)<j:=hc.1;have h2:j<1073741824:=hc.2;exact floordiv_int (by lia) (by rw[OJ i (by lia)];exact q) (.inl (V0 (by lia)))
theorem lY:OpR X (Sf .Mod) (rI (λ_ j=>0<j) λi j=>.int (i%j)):=opI λi j _ _ _ _ _ hc q=>by have h1:(0:Int)<j:=hc;exact mod_int' (by lia) (by rw[OK i (by lia)];exact q)
theorem Ib:OpR X (Sf .Pow) (rI LV λi j=>.int (i ^ j.toNat)):=opI λ_ _ _ _ _ _ _ hc q=>pow_int_small hc.1 hc.2.1 hc.2.2 q
theorem unI{f:Q_->Sem Q_}{g:Int->Int}
  (rule:∀(i:Int) (t:Tok) (s:Rf) (Q:Q_->Rf->Prop) (E:Q_->Rf->Prop),Q (.int (g i) s.toks) {s with toks:=s.toks+1}->Rh (Rn X.prog X.w) X.A (f (.int i t)) Q E s) :
  UnR X f (rU λi=>.int (g i)):=by
 intro ac s σ H x v Q I rx h;obtain⟨i,rfl,q⟩:=h;obtain⟨t,rfl⟩:=rx;exact rule i t s _ _ ⟨.int (g i),H,I.tok _,⟨_,rfl⟩,q⟩
theorem Jr:UnR X (unaryOp .USub) (rU λi=>.int (-i)):=unI λ_ _ _ _ _ q=>neg_int q
theorem J3{Q:VK}{k k':Bool}(I:Inv X ac σ H s)(q:Q (.bl k) H)(e:k=k'):EP X ac σ Q (.bool k') s:=by subst e;exact⟨.bl k,H,I,rfl,q⟩
theorem JL:OpR X (RJ .Lt) (rI0 λi j=>.bl (decide (i<j))):=Ga λ_ _ _ _ _ _ _ q=>lt_int q
theorem KS:OpR X (RJ .LtE) (rI0 λi j=>.bl (decide (i<=j))):=Ga λ_ _ _ _ _ _ _ q=>le_int q
theorem KH:OpR X (RJ .Gt) (rI0 λi j=>.bl (decide (j<i))):=Ga λ_ _ _ _ _ _ _ q=>gt_int q
theorem JK:OpR X (RJ .GtE) (rI0 λi j=>.bl (decide (j<=i))):=Ga λ_ _ _ _ _ _ _ q=>ge_int q
theorem cp(b:Rr)(h:op≠.In:=by decide)(h2:op≠.NotIn:=by decide):T2 op b=false:=by
 have e1:(op == CmpOp.In)=false:=by cases op <;> first|rfl|exact absurd rfl h
 have e2:(op == CmpOp.NotIn)=false:=by cases op <;> first|rfl|exact absurd rfl h2
 cases b <;> simp[T2,e1,e2]
theorem Er{r:R2}(ho:OpR X (RJ op) r)(ha:PE X a ta)(hb:PE X b tb)(hm:T2 op b=false):PE X (.Compare a [op] [b] pos) (tOp r ta tb):=by intro ac s σ H Q I h;exact wpAny_Compare1 (Im ha hb I h λv u s2 x y H2 I2 rx ry q=>ho ac s2 σ H2 x y v u Q I2 rx ry q) hm
noncomputable def Ck(t:TE):TT:=λσ H Q=>t σ H λx H'=>∃k,x=.bl k/\Q k H'
theorem uw{r:R2}(ho:OpR X (RJ op) r)(ha:PE X a ta)(hb:PE X b tb)(hm:T2 op b=false):PT X (.Compare a [op] [b] pos) (Ck (tOp r ta tb)):=by
 intro ac s σ H Q I h;refine wpAny_isTrue_Compare1 (thn (ha ac s σ H _ I h) λv s1 ⟨x,H1,I1,r1,q1⟩=>thn (hb ac s1 σ H1 _ I1 q1) λu s2 ⟨y,H2,I2,r2,q2⟩=>
  thn (ho ac s2 σ H2 x y v u _ I2 r1 r2 q2) λc s3 ⟨z,H3,I3,r3,k,e,q3⟩=>?_) hm
 subst e;cases r3;exact SA ⟨H3,I3,q3⟩
noncomputable def wV(r r':R2)(ta tb tc:TE):TE:=λσ H Q=>ta σ H λx H1=>tb σ H1 λy H2=>r x y H2 λz H3=>∃k,z=.bl k/\
 (if k=true then tc σ H3 λw' H4=>r' y w' H4 Q else Q (.bl false) H3)
theorem DG{op':VP}{r r':R2}(ho:OpR X (RJ op) r)(ho':OpR X (RJ op') r')(ha:PE X a ta)(hb:PE X b tb)(hc:PE X c tc)
  (hm:WW [op,op'] [b,c]=false:=by with_unfolding_all rfl):PE X (.Compare a [op,op'] [b,c] pos) (wV r r' ta tb tc):=by
 intro ac s σ H Q I h;refine Compare_chain (thn (ha ac s σ H _ I h) λv s1 ⟨x,H1,I1,r1,q1⟩=>chain_link (thn (hb ac s1 σ H1 _ I1 q1) λu s2 ⟨y,H2,I2,r2,q2⟩=>
  thn (ho ac s2 σ H2 x y v u _ I2 r1 r2 q2) λd s3 ⟨z,H3,I3,r3,k,e,q3⟩=>?_)) hm
 subst e;cases r3;refine SA ?_;cases k with
 |false=>exact ite_ff ⟨.bl false,H3,I3,rfl,q3⟩
 |true=>exact ite_tt (chain_last (thn (hc ac s3 σ H3 _ I3 q3) λw' s4 ⟨z',H4,I4,r4,q4⟩=>ho' ac s4 σ H4 y z' u w' Q I4 r2 r4 q4))
theorem E5{op':VP}{r r':R2}(ho:OpR X (RJ op) r)(ho':OpR X (RJ op') r')(ha:PE X a ta)(hb:PE X b tb)(hc:PE X c tc)
  (hm:WW [op,op'] [b,c]=false:=by with_unfolding_all rfl):PT X (.Compare a [op,op'] [b,c] pos) (Ck (wV r r' ta tb tc)):=by
 intro ac s σ H Q I h;refine isTrue_chain (thn (ha ac s σ H _ I h) ?_) hm;rintro v s1 ⟨x,H1,I1,r1,q1⟩;refine test_link (thn (hb ac s1 σ H1 _ I1 q1) ?_);rintro u s2 ⟨y,H2,I2,r2,q2⟩;refine thn (ho ac s2 σ H2 x y v u _ I2 r1 r2 q2) ?_;rintro d s3 ⟨z,H3,I3,r3,k,e,q3⟩;subst e;cases r3;refine SA ?_;cases k with
 |false=>
  obtain⟨k',e',q'⟩:=q3;cases e';exact ite_ff ⟨H3,I3,q'⟩
 |true=>
  refine ite_tt (test_last (thn (hc ac s3 σ H3 _ I3 q3) ?_));rintro w' s4 ⟨z',H4,I4,r4,q4⟩;refine thn (ho' ac s4 σ H4 y z' u w' _ I4 r2 r4 q4) ?_;rintro d' s5 ⟨z2,H5,I5,r5,k2,e2,q5⟩;subst e2;cases r5;exact SA ⟨H5,I5,q5⟩
def JB(K:Rb)(x:V)(H:Hp)(k:Bool):Prop:=
 match x with
 | .non=>k=false
 | .bl b=>k=b
 | .int i=>k=(i != 0)
 | .str y=>y.length<=sizeLine/\k=((y.length:Int) != 0)
 | .byt y=>y.size<=sizeLine/\k=((y.size:Int) != 0)
 | .ref p=>(∃xs,SqL K H p xs/\k=!xs.isEmpty)\/(∃xs,SqT K H p xs/\k=!xs.isEmpty)\/∃kvs,H p=some (.dK kvs)/\k=!kvs.isEmpty
 | _=>False
theorem x5{κ:Type}{kvs:List (κ×V)}{vs:List (κ×Q_)}(r:KV kvs vs):(!vs.isEmpty)=!kvs.isEmpty:=by cases r <;> rfl
theorem pX{be:List Q_}(r:Vals xs be):(!be.toArray.isEmpty)=!xs.isEmpty:=by cases r <;> simp
theorem mw:(sizeLine:Nat)<2 ^ 63:=by rw[sizeLine_eq];decide
theorem IT:M3 X (λx H Q=>∃k,JB X.K x H k/\Q k H):=by
 intro ac s σ H x v Q I rx h;obtain⟨k,e,q⟩:=h;have hl:=mw;have hs:sizeLine=16777216:=sizeLine_eq;cases x with
 |non=>
  cases rx;have e':k=false:=e;subst e';exact truthy_none ⟨H,I,q⟩
 |bl b=>
  cases rx;have e':k=b:=e;subst e';exact SA ⟨H,I,q⟩
 |int i=>
  obtain⟨t,rfl⟩:=rx;have e':k=(i != 0):=e;subst e';exact PySem.P.truthy_int ⟨H,I,q⟩
 |str y=>
  obtain⟨t,rfl⟩:=rx;obtain⟨hy,e'⟩:y.length<=sizeLine/\k=((y.length:Int) != 0):=e;subst e';exact PySem.P.truthy_str (by lia) ⟨H,I.tok _,q⟩
 |byt y=>
  obtain⟨t,rfl⟩:=rx;obtain⟨hy,e'⟩:y.size<=sizeLine/\k=((y.size:Int) != 0):=e;subst e';exact PySem.W.truthy_bytes (by lia) ⟨H,I.tok _,q⟩
 |ref p=>
  cases rx;have e':(∃xs,SqL X.K H p xs/\k=!xs.isEmpty)\/(∃xs,SqT X.K H p xs/\k=!xs.isEmpty)\/∃kvs,H p=some (.dK kvs)/\k=!kvs.isEmpty:=e;rcases e' with⟨xs,hx,e'⟩|⟨xs,hx,e'⟩|⟨kvs,hx,e'⟩
  ·subst e';obtain⟨be,r,pl,hz⟩:=I.list hx;have hlen:=r.length;exact wpAny_truthy_list pl.isList (by simp only[g_];lia) ⟨H,I.tok _,by rw[pX r];exact q⟩
  ·subst e';obtain⟨be,r,pl,hz⟩:=I.tuple hx;have hlen:=r.length;exact truthy_tuple pl (by simp only[g_];lia) ⟨H,I.tok _,by rw[pX r];exact q⟩
  ·subst e';obtain⟨hz,hS,vs,r,m⟩:kvs.length<=sizeLine/\(p == RI)=false/\∃vs,KV kvs vs/\s.heap.DictOf (br X.prog X.w) p vs:=I.hok p _ hx;have hlen:kvs.length=vs.length:=Sg r;exact wpAny_truthy_dict hS m (by lia) ⟨H,I.tok _,by rw[x5 r];exact q⟩
 | _=>exact(show False from e).elim
theorem BP(ha:PE X a ta)(he:∀whole,WT a X.env whole=(do let v <-whole;Yc a.pos;TC [v] (truthy v))) :
  PT X a (λσ H Q=>ta σ H λx H'=>∃k,JB X.K x H' k/\Q k H'):=by
 intro ac s σ H Q I h;exact isTrue_plain (thn (ha ac s σ H _ I h) λv s1 ⟨x,H1,I1,r1,q1⟩=>IT ac s1 σ H1 x v Q I1 r1 q1) (he _)
theorem wN:OpR X (Sf .Add) (λx y H Q=>∃i j,x=.str i/\y=.str j/\i.length+j.length<=sizeLine/\Q (.str (i++j)) H):=by intro ac s σ H x y v u Q I rx ry h;obtain⟨i,j,rfl,rfl,hz,q⟩:=h;obtain⟨t,rfl⟩:=rx;obtain⟨t',rfl⟩:=ry;exact add_str (λt' tk=>⟨.str (i++j),H,I.tok _,⟨_,rfl⟩,q⟩) hz
theorem vals1{x:V}(r:Vals [x] us):∃u,us=[u]/\RelV x u:=by
 cases r with
 |cons r1 r2=>cases r2;exact⟨_,rfl,r1⟩
theorem vals2{x y:V}(r:Vals [x,y] us):∃u w',us=[u,w']/\RelV x u/\RelV y w':=by
 cases r with
 |cons r1 r2=>
  cases r2 with
  |cons r3 r4=>cases r4;exact⟨_,_,rfl,r1,r3⟩
theorem Cq:de X (.builtin "abs") (λxs H Q=>∃i,xs=[.int i]/\Q (.int (if i<0 then -i else i)) H):=by intro ac s σ H xs us Q I r h;obtain⟨i,rfl,q⟩:=h;obtain⟨u,rfl,t,rfl⟩:=vals1 r;exact call_abs_int λu tk=>⟨.int (if i<0 then -i else i),H,I.tok _,⟨_,rfl⟩,q⟩
theorem AN(hc:X.calm=true):de X (.builtin "max") (λxs H Q=>∃i j,xs=[.int i,.int j]/\Q (.int (if j > i then j else i)) H):=by
 intro ac s σ H xs us Q I r h;obtain⟨i,j,rfl,q⟩:=h;obtain⟨u,w',rfl,⟨t,rfl⟩,⟨t',rfl⟩⟩:=vals2 r;refine max_two_ints (I.ok.hd hc) λh' tk k=>⟨_,H,I.kept k,?_,q⟩;by_cases hj:j > i
 ·rw[if_pos hj,if_pos hj];exact⟨_,rfl⟩
 rw[if_neg hj,if_neg hj];exact⟨_,rfl⟩
theorem AO(hc:X.calm=true):de X (.builtin "min") (λxs H Q=>∃i j,xs=[.int i,.int j]/\Q (.int (if j<i then j else i)) H):=by
 intro ac s σ H xs us Q I r h;obtain⟨i,j,rfl,q⟩:=h;obtain⟨u,w',rfl,⟨t,rfl⟩,⟨t',rfl⟩⟩:=vals2 r;refine min_two_ints (I.ok.hd hc) λh' tk k=>⟨_,H,I.kept k,?_,q⟩;by_cases hj:j<i
 ·rw[if_pos hj,if_pos hj];exact⟨_,rfl⟩
 rw[if_neg hj,if_neg hj];exact⟨_,rfl⟩
theorem si:de X (.type "int") (λxs H Q=>(∃i,xs=[.int i]/\Q (.int i) H)\/∃k,xs=[.bl k]/\Q (.int (if k then 1 else 0)) H):=by
 intro ac s σ H xs us Q I r h;rcases h with⟨i,rfl,q⟩|⟨k,rfl,q⟩
 ·obtain⟨u,rfl,t,rfl⟩:=vals1 r;exact call_int_int ⟨.int i,H,I,⟨_,rfl⟩,q⟩
 obtain⟨u,rfl,r1⟩:=vals1 r;cases r1;exact call_int_bool ⟨.int (if k then 1 else 0),H,I.tok _,⟨_,rfl⟩,q⟩
theorem wk:de X (.builtin "divmod") (λxs H Q=>∃i j,xs=[.int i,.int j]/\Ff i j/\∀p,H p=none->Q (.ref p) (upd H p (.tup [.int (i/j),.int (i%j)]))):=by intro ac s σ H xs us Q I r h;obtain⟨i,j,rfl,⟨h1,h2⟩,q⟩:=h;obtain⟨u,w',rfl,⟨t,rfl⟩,⟨t',rfl⟩⟩:=vals2 r;refine divmod_int (by lia) ?_ (.inl (V0 (by lia)));rw[OJ i (by lia),OK i (by lia)];have hn:H s.heap.objs.size=none:=I.hok.fresh (c_ _);refine⟨.ref s.heap.objs.size,_,?_,rfl,q _ hn⟩;refine I.laid (λb o e=>Rg _ e) (c_ _) ⟨by simp only[gV,NP];rw[sizeLine_eq];decide,[.int (i/j) s.toks,.int (i%j) (s.toks+1)],.cons ⟨_,rfl⟩ (.cons ⟨_,rfl⟩ .nil),?_⟩;exact⟨_,Ri s.heap rfl,rfl,0,rfl⟩
end
theorem qU.some_of {o:Option Q_}(r:qU (some v) o):∃u,o=some u/\RelV v u:=by
 cases o with
 |none=>exact(show False from r).elim
 |some u=>exact⟨u,rfl,r⟩
structure Room (k:Nat) (A:Rw):Prop where
 hd:A.handled=none
 dp:A.depth+3*k+5<recursionLimit
 un:A.units+16*k+200<cLine
 gs:A.guards=some []
theorem Room.mono {k:Nat}(r:Room k A)(h:j<=k):Room j A:=⟨r.hd,by have:=r.dp;lia,by have:=r.un;lia,r.gs⟩
theorem Room.deeper {k:Nat}(r:Room (k+1) A)(env:Env):Room k (A.deeper env):=
 ⟨r.hd,by have:=r.dp;show A.depth+1+3*k+5<_;lia,by have:=r.un;show A.units+3+16*k+200<_;lia,r.gs⟩
theorem Room.depth {k:Nat}(r:Room k A):A.depth<recursionLimit:=by have:=r.dp;lia
theorem Room.units {k:Nat}(r:Room k A):A.units+64<cLine:=by have:=r.un;lia
noncomputable def LQ:TA:=λ_ H Q=>Q [] H
noncomputable def JC(ta:TE)(tr:TA):TA:=λσ H Q=>ta σ H λx H1=>tr σ H1 λxs H2=>Q (x::xs) H2
section
variable{X:Cx}{e:Rr}{es:List Rr}{te:TE}{t:TA}{pos:Pos}
theorem lX:PA X [] LQ:=λ_ _ _ _ H Q I h=>Xe ⟨[],H,I,.nil,h⟩
theorem jw(ha:PE X e te)(hr:PA X es t)(hs:Ru (e::es) X.env=(false,RF e X.env)::Ru es X.env:=by rfl):PA X (e::es) (JC te t):=by intro pos ac s σ H Q I h;rw[hs];show Rh _ _ (spliced ((false,RF e X.env)::Ta pos (Ru es X.env))) _ _ s;refine SR (thn (ha ac s σ H _ I h) ?_);rintro u s1 ⟨x,H1,I1,r1,q1⟩;exact thn (hr pos ac s1 σ H1 _ I1 q1) λus s2 ⟨xs,H2,I2,r2,q2⟩=>⟨x::xs,H2,I2,.cons r1 r2,q2⟩
def Ma(t:TA):TE:=λσ H Q=>t σ H λxs H1=>xs.length<=sizeLine/\∀p,H1 p=none->Q (.ref p) (upd H1 p (.lst xs))
theorem DV(h:PA X es t):PE X (.List es pos) (Ma t):=by intro ac s σ H Q I hq;refine WX (thn (h pos ac s σ H _ I hq) λus s1 ⟨xs,H1,I1,r,z,q⟩=>⟨by rw[<-r.length];exact z,?_⟩);have hf:H1 s1.heap.objs.size=none:=I1.hok.fresh (c_ _);refine⟨.ref s1.heap.objs.size,upd H1 s1.heap.objs.size (.lst xs),I1.laid (t':=s1.toks) (λb u e=>Rg _ e) (c_ _) ?_,rfl,q _ hf⟩;exact⟨z,us,0,r,Ri _ rfl⟩
end
abbrev Sp:=List V->Hp->VK->XK->Prop
abbrev CXT:=List Env->Hp->Rf->XK->Q_->Rf->Prop
structure Env0 (P:Rj) (w:Ro) (K:Rb) (mg:Str->Option Q_) (base:Rq) (A:Rw) (outer:List Env) (s:Rf) (H:Hp):Prop where
 frames:A.frames=some outer
 mod:Mod K mg base
 bs:∀b o,base.get? b=some o->s.heap.get? b=some o/\H b=none
 bsz:base.objs.size<=s.heap.objs.size
 pT:s.heap.FunFrames base outer
 frf:∀b∈frs outer,H b=none
 hok:HOk P w H s.heap
 bare:UA s.gens
def CE(outer:List Env)(P:Rj)(w:Ro)(H:Hp)(s:Rf)(Q:VK)(u:Q_)(s':Rf):Prop:=
 ∃v H',s'.os=s.os/\UA s'.gens/\Un (frs outer) [] H H' s.heap s'.heap/\HOk P w H' s'.heap/\RelV v u/\Q v H'
def CR(CX:CXT)(outer:List Env)(P:Rj)(w:Ro)(H:Hp)(s:Rf)(Q:VK)(E:XK)(r:WY)(s':Rf):Prop:=
 match r with
 | .ok (.ret u)=>CE outer P w H s Q u s'
 | .ok _=>False
 | .error e=>CX outer H s E e s'
structure FnOk (P:Rj) (w:Ro) (K:Rb) (mg:Str->Option Q_) (base:Rq) (CX:CXT) (k:Nat) (f:Ra) (fd:Rx) (ps:List Str) (sp:Sp):Prop where
 len:∀vs H Q E,sp vs H Q E->vs.length=ps.length
 run:∀(A:Rw) (outer:List Env) (s:Rf) (H:Hp) (args:Args) (us:List Q_) (vs:List V) (Q:VK) (E:XK),Room k A->Env0 P w K mg base A outer s H->V_ s fd args (ps.zip us)->Vals vs us->sp vs H Q E->
  S7 (Rn P w) A (.call (.ref f) args) (CR CX outer P w H s Q E) s
variable {CX:CXT}{base:Rq}{mg:Str->Option Q_}{ps:List Str}
theorem FnOk.imp {k:Nat}{f:Ra}{fd:Rx}{sp sp':Sp}(F:FnOk P w K mg base CX k f fd ps sp)
  (h:∀vs H Q E,sp' vs H Q E->sp vs H Q E):FnOk P w K mg base CX k f fd ps sp':=
 ⟨λvs H Q E q=>F.len vs H Q E (h _ _ _ _ q),λA outer s H args us vs Q E hr he hb hv hs=>F.run A outer s H args us vs Q E hr he hb hv (h _ _ _ _ hs)⟩
section
variable{X:Cx}{ac:List (Ra×Obj)}{σ:St}{H:Hp}{s s':Rf}
theorem Inv.LN (I:Inv X ac σ H s):Env0 X.prog X.w X.K X.mg X.base X.A X.stack s H:=
 ⟨I.ok.frames,I.ok.mod,I.bs,G' I.ok.bsz I.sz,I.stack,I.yX,I.hok,I.bare⟩
theorem Inv.after {Q:VK}(I:Inv X ac σ H s)(h:CE X.stack X.prog X.w H s Q u s'):EP X ac σ Q u s':=by obtain⟨v,H',os,bare,un,hok,r,q⟩:=h;obtain⟨hh,g,d,t,os'⟩:=s';obtain rfl:os'=s.os:=os;exact⟨v,H',I.call (h':=hh) (g':=g) (d':=d) (t':=t) (ch:=[]) un hok bare (λb z=>absurd z (by simp)),r,q⟩
end
noncomputable def DI(sp:Sp)(dvs:List V)(E:XK)(t:TA):TE:=λσ H Q=>t σ H λvs H1=>sp (vs++dvs) H1 Q E
noncomputable def Binds(K:Rb)(fd:Rx)(ps:List Str)(ds:List Q_):Prop:=
 ∀(s:Rf) (us:List Q_),K.In s.heap->(us++ds).length=ps.length->V_ s fd ⟨us,[]⟩ (ps.zip (us++ds))
theorem Binds.all {fd:Rx}(h:∀us:List Q_,us.length=ps.length->YL fd ⟨us,[]⟩=pure (ps.zip us)):Binds K fd ps []:=λs us _ hl=>by rw[L']at hl ⊢;exact .of_eq (h us hl)
noncomputable def Passes(CX:CXT)(X:Cx)(E:XK):Prop:=∀(ac:List (Ra×Obj)) (σ:St) (H:Hp) (s:Rf) (e:Q_) (s':Rf),Inv X ac σ H s->CX X.stack H s E e s'->X.xe e s'
variable {vs:List V}
section
variable{X:Cx}{CX:CXT}{k:Nat}{f C:Ra}{fd:Rx}{ps:List Str}{sp:Sp}{dvs:List V}{ds:List Q_}{E:XK}{x m:Str}{p pos apos:Pos}{e o:Rr}{es:List Rr}{ta:TE}{t:TA}
theorem HC{Q:VK}(F:FnOk X.prog X.w X.K X.mg X.base CX k f fd ps sp)(hr:Room k X.A)(hb:Binds X.K fd ps ds)(hd:Vals dvs ds)(hx:Passes CX X E)
  (I:Inv X ac σ H s) (r:Vals vs us) (h:sp (vs++dvs) H Q E):Rh (Rn X.prog X.w) X.A (call (.ref f) us) (EP X ac σ Q) X.xe s:=by
 have r2:Vals (vs++dvs) (us++ds):=r.append hd;have hl:(us++ds).length=ps.length:=by rw[<-r2.length];exact F.len _ _ _ _ h
 refine XO (SH (F.run X.A X.stack s H ⟨us,[]⟩ (us++ds) (vs++dvs) Q E hr I.LN (hb s us I.kIn hl) r2 h) λr s' hq=>?_);cases r with
 |error e=>exact hx ac σ H s e s' I hq
 |ok fl=>
  cases fl with
  |ret u=>exact I.after hq
  |next=>exact Rt hq
  |brk=>exact Rt hq
  |cont=>exact Rt hq
theorem FD(F:FnOk X.prog X.w X.K X.mg X.base CX k f fd ps sp)(hr:Room k X.A)(hg:Gl X x)(hm:X.mg x=some (.ref f))(hk:Uj X.K (.ref f)=true)(hb:Binds X.K fd ps ds)(hd:Vals dvs ds)(hx:Passes CX X E)
  (ha:PA X (e::es) t) (hdb:(x ==("__debug__":Str))=false:=by decide) (he:Ru (e::es) X.env=(false,RF e X.env)::Ru es X.env:=by rfl) (hpl:(Ta pos (Ru es X.env)).any (·.1)=false:=by rfl) :
  PE X (.Call (.Name x p) (e::es) [] pos) (DI sp dvs E t):=by
 intro ac s σ H Q I h;refine SS (yg I hg hm ?_ hdb);refine PySem.W.callWith_K (h₀:=X.base) I.ok.mod.kin hk (thn (ha pos ac s σ H _ I h) λus s1 ⟨vs,H1,I1,r,q⟩=>⟨I1.kIn,?_⟩) he hpl;exact HC F hr hb hd hx I1 r q
end
structure FnScope (N P:List Str) (sc:Se):Prop where
 kind:sc.kind=.function
 co:sc.isCoroutine=false
 gen:sc.isGenerator=false
 nd:N.Nodup
 pre:N.take P.length=P
 par:∀x∈P,sc.names.lookup x=some .local\/sc.names.lookup x=some .cell
 nofree:∀y∈sc.names,y.2≠.free
theorem rT{kindOf:Str->Option Tt}{x:Str}:∀{binds:List (Str×Q_)}{m:Str->Option Q_},(∀v,(x,v) ∉ binds)->Wr kindOf binds m x=m x
 | [],_,_=>rfl
 | (n,v)::r,m,h=>by
  unfold Wr;rw[rT λw hw=>h w (j_ _ hw)];split
  ·have:x≠n:=by rintro rfl;exact h v t_
   simp[this]
  rfl
theorem su{kindOf:Str->Option Tt}{x:Str}:∀{binds:List (Str×Q_)}{m:Str->Option Q_},(∀v,(x,v) ∉ binds)->Ws kindOf binds m x=m x
 | [],_,_=>rfl
 | (n,v)::r,m,h=>by
  unfold Ws;rw[su λw hw=>h w (j_ _ hw)];split
  ·rfl
  have:x≠n:=by rintro rfl;exact h v t_
  simp[this]
theorem rF{kindOf:Str->Option Tt}{x:Str}{v:Q_}:∀{P:List Str}{vs:List Q_}{i:Nat}{m:Str->Option Q_},P.Nodup->P[i]?=some x->vs[i]?=some v->kindOf x=some .local->
  Wr kindOf (P.zip vs) m x=some v
 | [],_,_,_,_,h,_,_=>by simp at h
 | _::_,[],_,_,_,_,h,_=>by simp at h
 |p::P,w::vs,0,m,nd,h1,h2,hk=>by simp at h1 h2;subst h1;subst h2;show Wr kindOf ((p,w)::P.zip vs) m p=_;unfold Wr;rw[rT λv hv=>(E_.mp nd).1 (O9 hv).1,if_pos hk];simp
 |p::P,w::vs,i+1,m,nd,h1,h2,hk=>by show Wr kindOf ((p,w)::P.zip vs) m x=_;unfold Wr;exact rF (i:=i) (E_.mp nd).2 (by simpa using h1) (by simpa using h2) hk
theorem rD{kindOf:Str->Option Tt}{x:Str}{v:Q_}:∀{P:List Str}{vs:List Q_}{i:Nat}{m:Str->Option Q_},P.Nodup->P[i]?=some x->vs[i]?=some v->kindOf x≠some .local->
  Ws kindOf (P.zip vs) m x=some v
 | [],_,_,_,_,h,_,_=>by simp at h
 | _::_,[],_,_,_,_,h,_=>by simp at h
 |p::P,w::vs,0,m,nd,h1,h2,hk=>by simp at h1 h2;subst h1;subst h2;show Ws kindOf ((p,w)::P.zip vs) m p=_;unfold Ws;rw[su λv hv=>(E_.mp nd).1 (O9 hv).1,if_neg hk];simp
 |p::P,w::vs,i+1,m,nd,h1,h2,hk=>by show Ws kindOf ((p,w)::P.zip vs) m x=_;unfold Ws;exact rD (i:=i) (E_.mp nd).2 (by simpa using h1) (by simpa using h2) hk
noncomputable def start(N:List Str)(vs:List V):St:=vs.map some++B' (N.length-vs.length) none
noncomputable def xK(CX:CXT)(P:Rj)(w:Ro)(K:Rb)(mg:Str->Option Q_)(base:Rq)(N:List Str)(qual:Str)(scope:Se)(f:Ra)(cd:Q_)(A:Rw)(outer:List Env)(s:Rf)(H:Hp)(E:XK):Cx where
 prog:=P
 w:=w
 K:=K
 mg:=mg
 base:=base
 A:=A.deeper (UI qual scope s.heap.objs.size f cd)
 N:=N
 s₀:=s
 H₀:=H
 env:=UI qual scope s.heap.objs.size f cd
 outer:=outer
 stack:=UI qual scope s.heap.objs.size f cd::outer
 ex:=[]
 calm:=true
 fn:=λ_=>true
 pn:=[]
 xe:=λe s'=>Rh (Rn P w) (A.deeper (UI qual scope s.heap.objs.size f cd)) (leaving (UI qual scope s.heap.objs.size f cd) e) (λ_ s''=>CX outer H s E e s'') (λe' s''=>CX outer H s E e' s'') s'
theorem uz{sc:Se}{n:Nat}(h:sc.names.lookup x=some .cell):∃c,(Ys n sc.names []).lookup x=some c:=by have q:=V1 sc.names n [] (.inl h);exact Option.isSome_iff_exists.mp q
theorem Af{qual:Str}{scope:Se}{f:Ra}{cd:Q_}{outer:List Env}{s1:Rf}{E:XK}
  (S:FnScope N ps scope) (hd:A.handled=none) (e0:Env0 P w K mg base A outer s H) (hl:vs.length=ps.length) (r:Vals vs us)
  (x:InCallC s s.heap.objs.size (Wr (UI qual scope s.heap.objs.size f cd).kindOf (ps.zip us) λ_=>none) (Ys (s.heap.objs.size+1) scope.names []) (Ws (UI qual scope s.heap.objs.size f cd).kindOf (ps.zip us) λ_=>none) s1) :
  Inv (xK CX P w K mg base N qual scope f cd A outer s H E) [] (start N vs) H s1:=by
 have hpl:ps.length<=N.length:=by have:=congrArg Qa S.pre;rw[L_]at this;lia
 obtain⟨h1,tk,rfl,hk⟩:=x.done;have noA:∀b:Ra,b ∉ (xK CX P w K mg base N qual scope f cd A outer s H E).ex:=λb z=>absurd (show b∈([]:List Ra)from z) (by simp)
 refine⟨⟨e0.mod,S.kind,rfl,rfl,c_ _,λy z c h1 h2=>?_,λy hy=>?_,λy c _ h=>?_,λ_=>hd,Around.frames_deeper e0.frames,.inr ⟨rfl,rfl⟩,λb z=>absurd z (noA b),e0.bs,e0.bsz,λb _ _=>noA b,λb z=>absurd z (noA b),e0.pT,e0.frf⟩,
  rfl,e0.bare,Un.kept hk,⟨_,x.toInCall.ns,λi y v h1 h2 h3=>?_⟩,λy c h=>⟨_,x.cell y c h⟩,e0.hok.fresh (c_ _),λy c h=>?_,λp hp=>absurd (show p∈([]:List (Ra×Obj))from hp) (by simp),e0.hok.kept hk,?_⟩
 ·exact name_of_addr x.apart (SE h1) (SE h2)
 ·have hy:scope.names.lookup y=some .cell\/scope.names.lookup y=some .free:=hy;rcases hy with hy|hy
  ·exact uz hy
  exact absurd rfl (S.nofree _ (SE hy))
 ·exact Mt (x.above y c (SE h))
 ·have hi:i<vs.length:=by
   unfold start at h2;by_cases hi:i<vs.length
   ·exact hi
   rw[List.getElem?_append_right (by simpa using hi)]at h2;rw[List.getElem?_replicate]at h2;split at h2 <;> cases h2
  have ha:vs[i]?=some v:=by
   unfold start at h2;rw[OT (by simpa using hi),o_]at h2;cases e:vs[i]? with
   |none=>rw[e]at h2;cases h2
   |some a=>rw[e]at h2;cases h2;rfl
  obtain⟨u,hu,rv⟩:=r.get ha;have hp:ps[i]?=some y:=by rw[<-S.pre,NV (by lia)];exact h1
  have ndP:ps.Nodup:=by rw[<-S.pre];exact S.nd.sublist (List.take_sublist _ _)
  refine⟨u,rv,?_⟩;rcases S.par y (F_ hp)with k|k
  ·exact .inl ⟨k,rF ndP hp hu k⟩
  obtain⟨c,e⟩:=uz (n:=s.heap.objs.size+1) k;refine .inr ⟨.inl k,c,e,?_⟩;have q:=x.cell y c e;rw[rD ndP hp hu (by show scope.names.lookup y≠_;rw[k];decide)]at q;exact q
 ·exact e0.hok.fresh (Mt (x.above y c (SE h)))
 unfold start;show _=N.length;rw[n_,a_,Ol];lia
theorem L9{k:Nat}{f:Ra}{name qual:Str}{params:Arguments}{scope:Se}{dV kV doc pm cdv ct oc:Q_}{an od:Option Ra}
  {osl:Array (Option Q_)}{N ps:List Str}{sp:Sp} (lk:K.lookup f=some ⟨oc,od,.func (Tb name qual params body scope dV kV doc pm an cdv ct),osl⟩) (hcd:UW K cdv qual=true) (S:FnScope N ps scope)
  (len:∀vs H Q E,sp vs H Q E->vs.length=ps.length)
  (hbody:∀(A:Rw) (outer:List Env) (s:Rf) (H:Hp) (vs:List V) (Q:VK) (E:XK),Room k (A.deeper (UI qual scope s.heap.objs.size f cdv))->sp vs H Q E->
   ∃t,PSs (xK CX P w K mg base N qual scope f cdv A outer s H E) body t/\t { nx:=λ_ H'=>Q .non H',rt:=Q} (start N vs) H) :
  FnOk P w K mg base CX (k+1) f (Tb name qual params body scope dV kV doc pm an cdv ct) ps sp:=by
 refine⟨len,λA outer s H args us vs Q E hr e0 hb r hsp=>?_⟩;have hl:=len _ _ _ _ hsp;have KX:K.In s.heap:=e0.mod.kin.keeps λb o e=>(e0.bs b o e).1;have lim:s.heap.NoLimit:=e0.mod.nolimit.keeps λb o e=>(e0.bs b o e).1;have hkind:∀y∈ps.zip us,scope.names.lookup y.1=some .local\/(scope.names.lookup y.1=some .cell/\((Ys (s.heap.objs.size+1) scope.names []).lookup y.1).isSome=true):=λ⟨n,v⟩ hy=>by
  rcases S.par n (O9 hy).1 with q|q
  ·exact .inl q
  exact .inr ⟨q,V1 _ _ _ (.inl q)⟩
 refine codeAny_call_function hr.depth (KX _ _ lk) rfl S.co S.gen rfl (PySem.W.codeRec_of KX hcd) (hb _ _ _ _ ?_);refine wpAny_newFunctionEnv_cells S.kind hkind λenv he s1 x=>?_;subst he;refine⟨lim.keeps x.toInCall.keep,codeAny_func ?_⟩;obtain⟨t,ht,hq⟩:=hbody A outer s H vs Q E (hr.deeper _) hsp;have I:Inv (xK CX P w K mg base N qual scope f cdv A outer s H E) [] (start N vs) H s1:=Af S hr.hd e0 hl r x;refine RL (ht [] s1 (start N vs) H _ I hq) (λfl s' hs=>?_) λe s' hs=>hs;have fin:∀{f8:St}{H':Hp}{v:V}{u:Q_},Inv (xK CX P w K mg base N qual scope f cdv A outer s H E) [] f8 H' s'->RelV v u->Q v H'->CE outer P w H s Q u s':=
  λ{f8 H' v u} J rv q=>⟨v,H',J.os,J.bare,J.base,J.hok,rv,q⟩
 cases fl with
 |ret u=>
  obtain⟨v,f8,H',J,rv,q⟩:=hs;exact fin J rv q
 |next=>
  obtain⟨f8,H',J,q⟩:=hs;exact fin (v:=V.non) (u:=R0) J rfl q
 |brk=>
  obtain⟨_,_,_,q⟩:=hs;exact Rt q
 |cont=>
  obtain⟨_,_,_,q⟩:=hs;exact Rt q
section
variable{X:Cx}{x:Str}{p pos:Pos}{e:Rr}{es:List Rr}{t:TA}{id T:String}{r:List V->Hp->VK->Prop}
noncomputable def tCB(r:List V->Hp->VK->Prop)(t:TA):TE:=λσ H Q=>t σ H λvs H1=>r vs H1 Q
theorem qb(hc:de X (.builtin id) r)(hg:Gl X x)(hm:X.mg x=none)(hv:TR x=some (.builtin id))(ha:PA X (e::es) t)(hn:x≠"__name__":=by decide)(hdb:(x ==("__debug__":Str))=false:=by decide)
  (he:Ru (e::es) X.env=(false,RF e X.env)::Ru es X.env:=by rfl) (hpl:(Ta pos (Ru es X.env)).any (·.1)=false:=by rfl):PE X (.Call (.Name x p) (e::es) [] pos) (tCB r t):=by
 intro ac s σ H Q I h;refine SS (jH I hg hm hv ?_ hn hdb);exact XQ (thn (ha pos ac s σ H _ I h) λus s1 ⟨vs,H1,I1,r1,q1⟩=>hc ac s1 σ H1 vs us Q I1 r1 q1) he hpl
theorem rA(hc:de X (.type T) r)(hg:Gl X x)(hm:X.mg x=none)(hv:TR x=some (.type T))(ha:PA X (e::es) t)(hn:x≠"__name__":=by decide)(hdb:(x ==("__debug__":Str))=false:=by decide)
  (he:Ru (e::es) X.env=(false,RF e X.env)::Ru es X.env:=by rfl) (hpl:(Ta pos (Ru es X.env)).any (·.1)=false:=by rfl):PE X (.Call (.Name x p) (e::es) [] pos) (tCB r t):=by
 intro ac s σ H Q I h;refine SS (jH I hg hm hv ?_ hn hdb);exact SD (thn (ha pos ac s σ H _ I h) λus s1 ⟨vs,H1,I1,r1,q1⟩=>hc ac s1 σ H1 vs us Q I1 r1 q1) he hpl
end
end L2
namespace HT
open PySem PyProof.Rows
variable {Q:Q_->Rf->Prop}{hi lo:Option Int}
section
variable{prog:Rj}{w:Ro}{A:Rw}{E:Q_->Rf->Prop}{s:Rf}
theorem Fy{t b:Ra}{vs ws:List Q_}(ht:YF s.heap t vs.toArray)(hb:YF s.heap b ws.toArray)(hv:vs≠[])
  (h1:ws=[]->Q (.ref t) s) (h2:ws≠[]->Q (.ref s.heap.objs.size) {s with heap:=s.heap.push { cls:=.type "tuple",data:=.seq (vs++ws).toArray} })
  (hsz:vs.length+ws.length<=sizeLine):Rh (Rn prog w) A (Sf .Add (.ref t) (.ref b)) Q E s:=by
 obtain⟨⟨cls,dd,data,sl⟩,ho,hc,n,hd⟩:=id ht;obtain⟨⟨cls2,dd2,data2,sl2⟩,ho2,hc2,n2,hd2⟩:=id hb;simp only at hc hd hc2 hd2;subst hc hd hc2 hd2;have e:vs.toArray++ws.toArray=(vs++ws).toArray:=by simp
 by_cases hw:ws=[]
 ·exact WZ ⟨_,ho,rfl⟩ ⟨_,ho2,rfl⟩ VA WH Uu Ul (Ud _ _)
   (tuple_addW1 t b vs.toArray ws.toArray n n2 dd dd2 sl sl2 (by simpa using hv) (by simp[hw])) ⟨ho,ho2,h1 hw⟩
 refine WZ ⟨_,ho,rfl⟩ ⟨_,ho2,rfl⟩ VA WH Uu Ul (Ud _ _)
  (tuple_addW2 t b vs.toArray ws.toArray n n2 dd dd2 sl sl2 (by simpa using hv) (by simpa using hw) (by rw[g_,g_];exact hsz)) ⟨ho,ho2,?_⟩
 rw[e];exact h2 hw
noncomputable def sIx(n d:Nat):Option Int->Nat
 |none=>d
 |some v=>if v<0 then(v+(n:Int)).toNat else min v.toNat n
theorem uD(n d:Nat):sIx n d none=d:=rfl
theorem zW(n d k:Nat):sIx n d (some (k:Int))=min k n:=by show(if(k:Int)<0 then((k:Int)+(n:Int)).toNat else min (k:Int).toNat n)=min k n;rw[if_neg (by lia),Mr]
theorem IZ(n d:Nat)(hd:d<=n)(o:Option Int):sIx n d o<=n:=by
 cases o with
 |none=>exact hd
 |some v=>
  show(if v<0 then(v+(n:Int)).toNat else min v.toNat n)<=n;by_cases hv:v<0
  ·rw[if_pos hv];lia
  rw[if_neg hv];exact Nat.min_le_right _ _
theorem yF(v:Int)(n d:Nat):(if v<0 then max (v+(n:Int)) 0 else min v (n:Int))=((sIx n d (some v):Nat):Int):=by
 show(if v<0 then max (v+(n:Int)) 0 else min v (n:Int))=(((if v<0 then(v+(n:Int)).toNat else min v.toNat n):Nat):Int);by_cases hv:v<0
 ·simp only[if_pos hv];lia
 simp only[if_neg hv];lia
theorem xP(lo hi:Option Int)(n:Nat):T' lo hi 1 (n:Int)=(((sIx n 0 lo:Nat):Int),((sIx n n hi:Nat):Int)):=by
 have h1:¬((1:Int)<0):=by lia
 unfold T';simp only[h1,if_false];refine ME ?_ ?_
 ·cases lo with
  |none=>rfl
  |some v=>exact yF v n 0
 cases hi with
 |none=>rfl
 |some v=>exact yF v n n
theorem wU(i j:Nat):Tp (i:Int) (j:Int) 1=j-i:=by
 unfold Tp;have h1:(1:Int) > 0:=by lia
 simp only[h1,if_true,Int.ediv_one];split <;> lia
theorem qQ{v:Q_}{o:Option Int}{Q:Option Int->Rf->Prop}(p:VB v o)(h:Q o s):Rh (Rn prog w) A (Ye v) Q E s:=by
 cases p with
 |none=>exact Yf h
 |int i t=>exact slicePart_int h
theorem nZ{sl:Ra}{vl vu:Q_}{n:Nat}{Q:Int×Int×Nat->Rf->Prop}(hs:s.heap.IsSliceOf sl vl vu .none)(pl:VB vl lo)(pu:VB vu hi)
  (h:Q (((sIx n 0 lo:Nat):Int),1,sIx n n hi-sIx n 0 lo) s):Rh (Rn prog w) A (Ve (.ref sl) (pure (n:Int))) Q E s:=by
 obtain⟨os,hos,hcs,hds⟩:=id hs;unfold Ve YH;refine Q9 (Q9 (Sd hos hds (x:=vl) rfl (Q9 (Sd hos hds (x:=vu) rfl (Q9 (Sd hos hds (x:=.none) rfl (Rc ?_)))))));refine Q9 (Yf ?_);show Rh _ _ (if((1:Int) == 0)=true then _ else _) _ _ s;rw[if_neg (by decide)];refine Q9 (qQ pl (Q9 (qQ pu (Q9 (Rc ?_)))));show Rh _ _ (match T' lo hi 1 (n:Int)with|(lo,hi)=>pure (lo,(1:Int),Tp lo hi 1)) _ _ s;rw[xP lo hi n];show Rh _ _ (pure (((sIx n 0 lo:Nat):Int),(1:Int),Tp ((sIx n 0 lo:Nat):Int) ((sIx n n hi:Nat):Int) 1)) _ _ s;rw[wU];exact Rc h
theorem Dq(xs:Array Q_)(i k:Nat):((p_ k).filterMap λ(m:Nat)=>xs[((i:Int)+(m:Int)*1).toNat]?).toArray=((xs.toList.drop i).take k).toArray:=by
 have e:(λ(m:Nat)=>xs[((i:Int)+(m:Int)*1).toNat]?)=λm=>xs[i+m]?:=by
  funext m;have:((i:Int)+(m:Int)*1).toNat=i+m:=by lia
  rw[this]
 rw[e];have:=pick_run xs i k;rw[PK]at this;have e2:((λx=>xs[x]?) ∘ λx=>i+x)=λm=>xs[i+m]?:=rfl;rw[e2]at this;rw[this]
theorem nh{t sl:Ra}{items:Array Q_}{vl vu:Q_}(ht:YF s.heap t items)(hs:s.heap.IsSliceOf sl vl vu .none)(pl:VB vl lo)(pu:VB vu hi)
  (hw:¬(sIx items.size 0 lo=0/\sIx items.size items.size hi=items.size))
  (h:Q (.ref s.heap.objs.size) {s with heap:=s.heap.push { cls:=.type "tuple",data:=.seq ((items.toList.drop (sIx items.size 0 lo)).take (sIx items.size items.size hi-sIx items.size 0 lo)).toArray} })
  (hsz:items.size<=sizeLine):Rh (Rn prog w) A (UX (.ref t) (.ref sl)) Q E s:=by
 have htake:sizeOk (.seq ((items.toList.drop (sIx items.size 0 lo)).take (sIx items.size items.size hi-sIx items.size 0 lo)).toArray):=by show((items.toList.drop (sIx items.size 0 lo)).take (sIx items.size items.size hi-sIx items.size 0 lo)).toArray.size<=sizeLine;rw[g_,L_,MP,l_];omega
 have hj:sIx items.size items.size hi<=items.size:=IZ _ _ (c_ _) hi;obtain⟨os,hos,hcs,hds⟩:=id hs;have hTs:s.TypeIs (.ref sl) "slice":=⟨os,hos,hcs⟩;unfold UX
 try with_reducible refine Ry ?_
 first|refine Q9 (Rc ?_)|skip
 refine Q9 (wpAny_sequenceKey ht.typeIs (by decide) ?_);refine Q9 (RS (name:=SJ "__getitem__") ht.typeIs Tz
  (RM Tz ht.typeIs entry_tuple_getitem ?_ (args_tuple_getitem _ _)))
 show Rh _ _ (Yv (.ref t) >>= _) _ _ s;refine Q9 (tupleItemsOf_ ht ?_);refine Q9 (Ue hTs ?_);rw[if_pos (by decide)];refine Q9 (nZ hs pl pu ?_);have hno:¬((((sIx items.size 0 lo:Nat):Int) == 0&&(1:Int) == 1&&(sIx items.size items.size hi-sIx items.size 0 lo) == items.size)=true):=by intro q;rw[K_,K_]at q;have q1:((sIx items.size 0 lo:Nat):Int)=0:=eq_of_beq q.1.1;have q2:sIx items.size items.size hi-sIx items.size 0 lo=items.size:=eq_of_beq q.2;exact hw ⟨by lia,by lia⟩
 show Rh _ _ (if(((sIx items.size 0 lo:Nat):Int) == 0&&(1:Int) == 1&&(sIx items.size items.size hi-sIx items.size 0 lo) == items.size)=true then _ else _) _ _ s;rw[if_neg hno,Dq]
 first
  |exact Q9 (m:=Tu _) (RA (Rc ⟨_,rfl,Rc h⟩) htake)
  |exact Q9 (m:=Tu _) (RA (Q9 (Rc (Rc ⟨_,rfl,Rc h⟩))) htake)
  |exact Q9 (Q9 (m:=Tu _) (RA (Rc (Rc ⟨_,rfl,Rc h⟩)) htake))
  |exact Q9 (Q9 (m:=Tu _) (RA (Rc ⟨_,rfl,Rc h⟩) htake))
end
end HT
namespace L2
open PySem PySem.Spec PyProof.Rows
abbrev TO:=St->Hp->(Option Int->Hp->Prop)->Prop
noncomputable def PO(X:Cx)(e:Option Rr)(t:TO):Prop:=
 ∀(ac:List (Ra×Obj)) (s:Rf) (σ:St) (H:Hp) (Q:Option Int->Hp->Prop),Inv X ac σ H s->t σ H Q->
  Rh (Rn X.prog X.w) X.A (evalPart e X.env) (λu s'=>∃o H',Inv X ac σ H' s'/\VB u o/\Q o H') X.xe s
noncomputable def Ex:TO:=λ_ H Q=>Q none H
noncomputable def KN(t:TE):TO:=λσ H Q=>t σ H λx H1=>∃i,x=.int i/\Q (some i) H1
theorem intsAre_of{ns:List Int}:∀{us:List Q_},Vals (ns.map V.int) us->SF us ns:=by
 induction ns with
 |nil=>intro us r;rw[NW]at r;cases r;exact .nil
 |cons n ns ih=>
  intro us r;rw[d_]at r;cases r with
  |cons r1 r2=>
   obtain⟨t,e⟩:=r1;subst e;exact .cons n t (ih r2)
variable {us:List Q_}
section
variable{X:Cx}{e:Rr}{te:TE}{lo hi:Option Rr}{tl th:TO}{pos p2:Pos}
theorem zi:PO X none Ex:=by intro ac s σ H Q I h;rw[WI];exact Rc ⟨none,H,I,.none,h⟩
theorem zP(h:PE X e te):PO X (some e) (KN te):=by intro ac s σ H Q I hw;rw[WJ];refine thn (h ac s σ H _ I hw) ?_;rintro u s1 ⟨x,H1,I1,r1,q1⟩;obtain⟨i,rfl,q⟩:=q1;obtain⟨t,rfl⟩:=r1;exact⟨some i,H1,I1,.int i t,q⟩
def SlR(X:Cx)(r:V->Option Int->Option Int->Hp->VK->Prop):Prop:=
 ∀(ac:List (Ra×Obj)) (s:Rf) (σ:St) (H:Hp) (x:V) (v vl vu:Q_) (lo hi:Option Int) (sl:Ra) (Q:VK),Inv X ac σ H s->RelV x v->s.heap.IsSliceOf sl vl vu .none->VB vl lo->VB vu hi->r x lo hi H Q->
  ∃T id,XR (.type T) "__getitem__"=pure (some (.builtin id))/\s.TypeIs v T/\Rh (Rn X.prog X.w) X.A (UX v (.ref sl)) (EP X ac σ Q) X.xe s
noncomputable def tSl(r:V->Option Int->Option Int->Hp->VK->Prop)(te:TE)(tl th:TO):TE:=λσ H Q=>te σ H λx H1=>tl σ H1 λl H2=>th σ H2 λu H3=>r x l u H3 Q
theorem vN{r:V->Option Int->Option Int->Hp->VK->Prop}(hr:SlR X r)(he:PE X e te)(hl:PO X lo tl)(hu:PO X hi th):PE X (.Subscript e (.Slice lo hi none p2) pos) (tSl r te tl th):=by intro ac s σ H Q I h;refine Wt (thn (he ac s σ H _ I h) ?_);rintro v s1 ⟨x,H1,I1,r1,q1⟩;refine Y' (thn (hl ac s1 σ H1 _ I1 q1) λvl s2 ⟨l,H2,I2,pl,q2⟩=>thn (hu ac s2 σ H2 _ I2 q2) ?_);rintro vu s3 ⟨u,H3,I3,pu,q3⟩;rw[WI];refine Rc ?_;have I4:Inv X ac σ H3 {s3 with heap:=s3.heap.push { cls:=.type "slice",data:=.fields #[vl,vu,.none] } }:=I3.kept (t':=s3.toks) λb ob q=>Rg _ q;obtain⟨T,id,hT,ht,hg⟩:=hr ac {s3 with heap:=s3.heap.push { cls:=.type "slice",data:=.fields #[vl,vu,.none] } } σ H3 x v vl vu l u s3.heap.objs.size Q I4 r1 (W0 ..) pl pu q3;show Rh (Rn X.prog X.w) X.A (T3 e (.Slice lo hi none p2) v (.ref s3.heap.objs.size)) (EP X ac σ Q) X.xe {s3 with heap:=s3.heap.push { cls:=.type "slice",data:=.fields #[vl,vu,.none] } };exact YM (ops:=[.ref s3.heap.objs.size,v]) ht hT hg (by with_unfolding_all rfl)
def lx(xs:List V)(lo hi:Option Int):List V:=(xs.drop (HT.sIx xs.length 0 lo)).take (HT.sIx xs.length xs.length hi-HT.sIx xs.length 0 lo)
theorem oM(xs:List V)(lo hi:Option Int):(lx xs lo hi).length<=xs.length:=by unfold lx;rw[L_,MP];lia
def LH(K:Rb):V->Option Int->Option Int->Hp->VK->Prop:=λx lo hi H Q=>∃a xs,x=.ref a/\SqT K H a xs/\
 ¬(HT.sIx xs.length 0 lo=0/\HT.sIx xs.length xs.length hi=xs.length)/\∀p,H p=none->Q (.ref p) (upd H p (.tup (lx xs lo hi)))
theorem Ii:SlR X (LH X.K):=by
 intro ac s σ H x v vl vu lo hi sl Q I rx hs pl pu h;obtain⟨a,xs,rfl,hx,hw,q⟩:=h;cases rx;obtain⟨be,r,ht,hz⟩:=I.tuple hx;have hlen:be.toArray.size=xs.length:=by rw[g_];exact r.length.symm
 refine⟨"tuple",_,Tz.lookup,ht.typeIs,?_⟩;refine HT.nh ht hs pl pu (by rw[hlen];exact hw) ?_ (by rw[hlen];exact hz);rw[hlen];refine⟨.ref s.heap.objs.size,_,I.laid (t':=s.toks) (o:=.tup (lx xs lo hi)) (λb ob q=>Rg _ q) (c_ _) ?_,rfl,q _ (I.hok.fresh (c_ _))⟩;exact⟨G' (oM xs lo hi) hz,_,(r.drop (HT.sIx xs.length 0 lo)).take (HT.sIx xs.length xs.length hi-HT.sIx xs.length 0 lo),WU _ _⟩
def L5(K:Rb):R2:=λx y H Q=>∃a b xs ys,x=.ref a/\y=.ref b/\SqT K H a xs/\SqT K H b ys/\xs≠[]/\xs.length+ys.length<=sizeLine/\
 (ys=[]->Q (.ref a) H)/\(ys≠[]->∀p,H p=none->Q (.ref p) (upd H p (.tup (xs++ys))))
theorem Vals.ui {xs:List V}(r:Vals xs us):us=[]↔xs=[]:=by
 cases r with
 |nil=>simp
 |cons _ _=>simp
theorem Fu:OpR X (Sf .Add) (L5 X.K):=by intro ac s σ H x y v u Q I rx ry h;obtain⟨a,b,xs,ys,rfl,rfl,ha,hb,hx,hz,q1,q2⟩:=h;cases rx;cases ry;obtain⟨be,r1,p1,_⟩:=I.tuple ha;obtain⟨its2,r2,p2,_⟩:=I.tuple hb;refine HT.Fy p1 p2 (λz=>hx (r1.ui.mp z)) (λz=>⟨.ref a,H,I,rfl,q1 (r2.ui.mp z)⟩) (λz=>?_) (by rw[<-r1.length,<-r2.length];exact hz);refine⟨.ref s.heap.objs.size,_,I.laid (t':=s.toks) (o:=.tup (xs++ys)) (λb ob q=>Rg _ q) (c_ _) ?_,rfl,q2 (λw=>z (r2.ui.mpr w)) _ (I.hok.fresh (c_ _))⟩;exact⟨by rw[n_];exact hz,_,r1.append r2,WU _ _⟩
theorem oP:de X (.type "tuple") (λxs H Q=>∃a ys,xs=[.ref a]/\SqT X.K H a ys/\Q (.ref a) H):=by intro ac s σ H xs us Q I r h;obtain⟨a,ys,rfl,ha,q⟩:=h;obtain⟨u,rfl,ru⟩:=vals1 r;cases ru;obtain⟨be,_,p1,_⟩:=I.tuple ha;exact XS (items:=be.toArray) p1 ⟨.ref a,H,I,rfl,q⟩
end
noncomputable def ixN(n:Nat)(i:Int):Option Nat:=if 0<=i then(if i<n then some i.toNat else none)else if -(n:Int)<=i then some (i+n).toNat else none
variable {α:Type}
def atI(xs:List α)(i:Int):Option α:=(ixN xs.length i).bind λj=>xs[j]?
variable {n:Nat}
theorem tJ{i:Int}{j:Nat}(h:ixN n i=some j):seqIndex? i n=some j/\j<n/\-(n:Int)<=i/\i<n:=by
 unfold ixN at h;by_cases h0:0<=i
 ·rw[if_pos h0]at h;by_cases h1:i<n
  ·rw[if_pos h1]at h;have e:i.toNat=j:=H_ h;exact⟨by rw[Xn h0 h1,e],by lia,by lia,h1⟩
  rw[if_neg h1]at h;cases h
 rw[if_neg h0]at h;by_cases h1:-(n:Int)<=i
 ·rw[if_pos h1]at h;have e:(i+n).toNat=j:=H_ h;exact⟨by rw[W4 (by lia) h1,e],by lia,h1,by lia⟩
 rw[if_neg h1]at h;cases h
theorem tY{xs:List α}{i:Int}{v:α}(h:atI xs i=some v):∃j,seqIndex? i xs.length=some j/\xs[j]?=some v/\j<xs.length/\-(xs.length:Int)<=i/\i<xs.length:=by
 unfold atI at h;cases e:ixN xs.length i with
 |none=>rw[e]at h;cases h
 |some j=>
  rw[e]at h;obtain⟨h1,h2,h3,h4⟩:=tJ e;exact⟨j,h1,h,h2,h3,h4⟩
theorem jk{xs:List α}{j:Nat}{v:α}(h:xs[j]?=some v):atI xs (j:Int)=some v:=by
 have hj:j<xs.length:=(e_.mp h).1;have e:ixN xs.length (j:Int)=some j:=by unfold ixN;rw[if_pos (by lia),if_pos (by lia)];simp
 unfold atI;rw[e];exact h
noncomputable def tm(b:Rr):Prop:=∀o i,U5 b false o i=Zk [o,i] (UX o i)
def IxR(X:Cx)(r:R2):Prop:=
 ∀(value slice:Rr) (ac:List (Ra×Obj)) (s:Rf) (σ:St) (H:Hp) (x y:V) (v u:Q_) (Q:VK),Inv X ac σ H s->RelV x v->RelV y u->r x y H Q->
  U5 slice false v u=Zk [v,u] (UX v u)->Rh (Rn X.prog X.w) X.A (T3 value slice v u) (EP X ac σ Q) X.xe s
def MtR(X:Cx)(id:String)(r:V->List V->Hp->VK->Prop):Prop:=
 ∀(ac:List (Ra×Obj)) (s:Rf) (σ:St) (H:Hp) (x:V) (xs:List V) (v:Q_) (us:List Q_) (Q:VK),Inv X ac σ H s->RelV x v->Vals xs us->r x xs H Q->
  Rh (Rn X.prog X.w) X.A (call (.builtin id) (v::us)) (EP X ac σ Q) X.xe s
variable {H:Hp}{be its':List Q_}{ac:List (Ra×Obj)}{s:Rf}{σ:St}
section
variable{X:Cx}{a b:Rr}{ta tb:TE}{pos:Pos}
theorem IxR.or {r r':R2}(h:IxR X r)(h':IxR X r'):IxR X (λx y H Q=>r x y H Q\/r' x y H Q):=by
 intro value slice ac s σ H x y v u Q I rx ry q hs;rcases q with q|q
 ·exact h value slice ac s σ H x y v u Q I rx ry q hs
 exact h' value slice ac s σ H x y v u Q I rx ry q hs
theorem Ec{r:R2}(hr:IxR X r)(ha:PE X a ta)(hb:PE X b tb)(hs:tm b):PE X (.Subscript a b pos) (tOp r ta tb):=by intro ac s σ H Q I h;exact Wt (Im ha hb I h λv u s2 x y H2 I2 rx ry q=>hr a b ac s2 σ H2 x y v u Q I2 rx ry q (hs _ _))
def Io(K:Rb):R2:=λx y H Q=>∃p xs i v,x=.ref p/\y=.int i/\SqL K H p xs/\atI xs i=some v/\Q v H
def Lo(K:Rb):R2:=λx y H Q=>∃p xs i v,x=.ref p/\y=.int i/\SqT K H p xs/\atI xs i=some v/\Q v H
def JE:R2:=λx y H Q=>∃z i c,x=.str z/\y=.int i/\z.length<=sizeLine/\atI z.cps.toList i=some c/\Q (.str ⟨#[c]⟩) H
theorem uy:IxR X (Io X.K):=by
 intro value slice ac s σ H x y v u Q I rx ry h hs;obtain⟨p,xs,i,z,rfl,rfl,hq,he,q⟩:=h;cases rx;obtain⟨t,rfl⟩:=ry;obtain⟨be,r,pl,hz⟩:=I.list hq;obtain⟨j,h1,h2,h3,h4,h5⟩:=tY he;obtain⟨w,ew,rw'⟩:=r.get h2;have hl:=r.length;have hn:=mw;have fin:EP X ac σ Q w s:=⟨z,H,I,rw',q⟩;by_cases h0:0<=i
 ·have hj:i.toNat=j:=by rw[Xn h0 h5]at h1;exact H_ h1
  exact item_listR pl.isList h0 (by lia) (by rw[hj];simpa using ew) fin hs
 have hj:(i+(be.toArray.size:Int)).toNat=j:=by rw[W4 (by lia) h4]at h1;rw[g_,<-hl];exact H_ h1
 exact V2 (x:=w) pl.isList.typeIs slot_list_getitem.lookup
  (wpAny_getItem_list_neg (Q:=λr s'=>r=w/\EP X ac σ Q r s') pl.isList (by lia) (by rw[g_] <;> lia) (by lia) (by rw[hj];simpa using ew) ⟨rfl,fin⟩) hs
theorem IS:IxR X (Lo X.K):=by
 intro value slice ac s σ H x y v u Q I rx ry h hs;obtain⟨p,xs,i,z,rfl,rfl,hq,he,q⟩:=h;cases rx;obtain⟨t,rfl⟩:=ry;obtain⟨be,r,pl,hz⟩:=I.tuple hq;obtain⟨j,h1,h2,h3,h4,h5⟩:=tY he;obtain⟨w,ew,rw'⟩:=r.get h2;have hl:=r.length;have hn:=mw;have fin:EP X ac σ Q w s:=⟨z,H,I,rw',q⟩;exact V2 (x:=w) pl.typeIs slot_tuple_getitem.lookup
  (getItem_tuple (j:=j) (Q:=λr s'=>r=w/\EP X ac σ Q r s') pl (by lia) (by lia) (by rw[g_,<-hl];exact h1) (by simpa using ew) ⟨rfl,fin⟩) hs
theorem CY:IxR X JE:=by
 intro value slice ac s σ H x y v u Q I rx ry h hs;obtain⟨z,i,c,rfl,rfl,hz,he,q⟩:=h;obtain⟨t,rfl⟩:=rx;obtain⟨t',rfl⟩:=ry;obtain⟨j,h1,h2,h3,h4,h5⟩:=tY he;have hl:z.cps.toList.length=z.length:=by simp[Str.length]
 rw[hl]at h1 h4 h5;have hn:=mw;exact YM (typeIs_str s z t) slot_str_getitem.lookup (getItem_str (c:=c) (by have e1:decide (i < -(2 ^ 63:Int))=false:=decide_eq_false (by lia);have e2:decide (i>=2 ^ 63)=false:=decide_eq_false (by lia);rw[e1,e2,QE]) (by rw[h1];simpa using h2) ⟨.str ⟨#[c]⟩,H,I.tok _,⟨_,rfl⟩,q⟩) hs
def rIx(K:Rb):R2:=λx y H Q=>Io K x y H Q\/Lo K x y H Q\/JE x y H Q
theorem Jm:IxR X (rIx X.K):=uy.or (IS.or CY)
theorem xt(be:List Q_)(n j:Nat)(u:Q_):R5 (·.setIfInBounds j u) { cls:=.type "list",data:=.seq be.toArray n}={ cls:=.type "list",data:=.seq (be.set j u).toArray n}:=by simp[R5]
theorem Inv.lst {p:Ra}{xs:List V}(I:Inv X ac σ H s)(h:H p=some (.lst xs)) :
  ∃(be:List Q_) (n:Nat),Vals xs be/\s.heap.get? p=some { cls:=.type "list",data:=.seq be.toArray n}/\xs.length<=sizeLine:=by
 obtain⟨z,be,n,r,e⟩:=I.hok p _ h;exact⟨be,n,r,e,z⟩
theorem Inv.Jj {p:Ra}{xs ys:List V}{n':Nat}{f:Obj->Obj}(I:Inv X ac σ H s)(h:H p=some (.lst xs))
  (ho:s.heap.get? p=some { cls:=.type "list",data:=.seq be.toArray n}) (hf:f { cls:=.type "list",data:=.seq be.toArray n}={ cls:=.type "list",data:=.seq its'.toArray n'}) (r:Vals ys its') (hz:ys.length<=sizeLine) (t:Nat) :
  Inv X ac σ (upd H p (.lst ys)) {s with heap:=s.heap.update p f,toks:=t}:=by
 have e:(s.heap.update p f).get? p=some { cls:=.type "list",data:=.seq its'.toArray n'}:=by rw[RR f ho (by rw[hf] <;> rfl),hf]
 refine I.write (x:=p) (e:=p) (by rw[h];trivial) (.inl rfl) (λb u hb q=>(SK _ _ (Ti hb)).trans q) ⟨_,e⟩ ?_;exact⟨hz,its',n',r,e⟩
def L3:V->V->V->Hp->(Hp->Prop)->Prop:=λo i v H Q=>∃p xs k j,o=.ref p/\i=.int k/\H p=some (.lst xs)/\ixN xs.length k=some j/\Q (upd H p (.lst (xs.set j v)))
theorem set_list:xh X L3:=by
 intro ac s σ H o i v ov iv u Q I ro ri rv h;obtain⟨p,xs,k,j,rfl,rfl,hp,hj,q⟩:=h;cases ro;obtain⟨t,rfl⟩:=ri;obtain⟨be,n,r,ho,hz⟩:=I.lst hp;obtain⟨h1,h2,h3,h4⟩:=tJ hj;have hl:=r.length;have hn:=mw;have I':Inv X ac σ (upd H p (.lst (xs.set j v))) {s with heap:=s.heap.update p (R5 (·.setIfInBounds j u)) }:=
  I.Jj hp ho (xt be n j u) (r.set rv j) (by rw[Mc];exact hz) s.toks
 by_cases h0:0<=k
 ·have hk:k.toNat=j:=by rw[Xn h0 h4]at h1;exact H_ h1
  exact PySem.W.ki_setAt ho h0 (by lia) (by rw[g_,<-hl];exact h4) (by rw[hk];exact⟨_,I',q⟩)
 have hk:(k+(be.toArray.size:Int)).toNat=j:=by rw[W4 (by lia) h3]at h1;rw[g_,<-hl];exact H_ h1
 exact PySem.W.ki_setBack ho (by lia) (by rw[g_,<-hl];exact h3) (by lia) (by rw[hk];exact⟨_,I',q⟩)
theorem tT(lo hi:Option Int)(n:Nat):(Tr lo hi none n).1=((HT.sIx n 0 lo:Nat):Int)/\(Tr lo hi none n).2.1=((HT.sIx n n hi:Nat):Int)/\(Tr lo hi none n).2.2=1:=by
 refine⟨?_,?_,rfl⟩
 ·cases lo with
  |none=>simp[Tr,HT.sIx]
  |some i=>
   simp only[Tr,HT.sIx,Qe,show(1:Int) > 0 by decide,if_true];by_cases h:i<0
   ·simp only[h,if_true] <;> lia
   simp only[h,if_false] <;> lia
 cases hi with
 |none=>simp[Tr,HT.sIx]
 |some i=>
  simp only[Tr,HT.sIx,Qe,show(1:Int) > 0 by decide,if_true];by_cases h:i<0
  ·simp only[h,if_true] <;> lia
  simp only[h,if_false] <;> lia
theorem rj(be:List Q_)(lo hi:Option Int):W5 be.toArray lo hi none=((be.drop (HT.sIx be.length 0 lo)).take (HT.sIx be.length be.length hi-HT.sIx be.length 0 lo)).toArray:=by obtain⟨h1,h2,h3⟩:=tT lo hi be.toArray.size;unfold W5;rw[h1,h2,h3];simp only[sliceRange_one,pick_run,g_] <;> rfl
def M7(K:Rb):V->Option Int->Option Int->Hp->VK->Prop:=λx lo hi H Q=>∃a xs,x=.ref a/\SqL K H a xs/\∀p,H p=none->Q (.ref p) (upd H p (.lst (lx xs lo hi)))
theorem yT:SlR X (M7 X.K):=by intro ac s σ H x v vl vu lo hi sl Q I rx hs pl pu h;obtain⟨a,xs,rfl,hx,q⟩:=h;cases rx;obtain⟨be,r,ht,hz⟩:=I.list hx;have hlen:=r.length;refine⟨"list",_,slot_list_getitem.lookup,ht.isList.typeIs,?_⟩;refine VC ht.isList hs pl pu .none (by simp) ?_ (by rw[g_] <;> lia);rw[rj,<-hlen];refine⟨.ref s.heap.objs.size,_,I.laid (t':=s.toks) (o:=.lst (lx xs lo hi)) (λb ob q=>Rg _ q) (c_ _) ?_,rfl,q _ (I.hok.fresh (c_ _))⟩;exact⟨G' (oM xs lo hi) hz,_,0,(r.drop (HT.sIx xs.length 0 lo)).take (HT.sIx xs.length xs.length hi-HT.sIx xs.length 0 lo),Ri _ rfl⟩
theorem nu:de X (.builtin "len") (λxs H Q=>∃p ys,xs=[.ref p]/\(SqL X.K H p ys\/SqT X.K H p ys)/\Q (.int ys.length) H):=by
 intro ac s σ H xs us Q I r h;obtain⟨p,ys,rfl,hq,q⟩:=h;obtain⟨u,rfl,rx⟩:=vals1 r;cases rx;have hn:=mw;rcases hq with hq|hq
 ·obtain⟨be,r',pl,hz⟩:=I.list hq;have hlen:=r'.length;exact Calls.call_len_list pl.isList (by simp only[g_] <;> lia) ⟨.int ys.length,H,I.tok _,⟨s.toks+1,by rw[g_,hlen]⟩,q⟩
 obtain⟨be,r',pl,hz⟩:=I.tuple hq;have hlen:=r'.length;exact len_tuple pl (by simp only[g_] <;> lia) ⟨.int ys.length,H,I.tok _,⟨s.toks+1,by rw[g_,hlen]⟩,q⟩
theorem sR:de X (.builtin "len") (λxs H Q=>∃z,xs=[.str z]/\z.length<=sizeLine/\Q (.int z.length) H):=by intro ac s σ H xs us Q I r h;obtain⟨z,rfl,hz,q⟩:=h;obtain⟨u,rfl,t,rfl⟩:=vals1 r;have hn:=mw;exact len_str (by lia) ⟨.int z.length,H,I.tok _,⟨_,rfl⟩,q⟩
theorem nD:de X (.type "list") (λxs H Q=>∃p ys,xs=[.ref p]/\(SqL X.K H p ys\/SqT X.K H p ys)/\∀l,H l=none->Q (.ref l) (upd H l (.lst ys))):=by
 intro ac s σ H xs us Q I r h;obtain⟨p,ys,rfl,hq,q⟩:=h;obtain⟨u,rfl,rx⟩:=vals1 r;cases rx;have fin:∀(be:List Q_),Vals ys be->ys.length<=sizeLine->∀(h':Rq) (c':Nat),(∀b o',s.heap.get? b=some o'->h'.get? b=some o')->
   h'.get? s.heap.objs.size=some { cls:=.type "list",dict:=none,data:=.seq be.toArray c',slots:=#[] }->EP X ac σ Q (.ref s.heap.objs.size) {s with heap:=h'}:=λbe r' hz h' c' kp e=>
  ⟨.ref s.heap.objs.size,_,I.laid (t':=s.toks) kp (c_ _) (show cz X.prog X.w _ h' _ (.lst ys)from⟨hz,be,c',r',e⟩),rfl,q _ (I.hok.fresh (c_ _))⟩
 rcases hq with hq|hq
 ·obtain⟨be,r',pl,hz⟩:=I.list hq;have hlen:=r'.length;obtain⟨o,ho,hc,n,hd⟩:=pl.isList;exact Yw p (.inl rfl) ho hc hd (λh' c' kp e=>fin be r' hz h' c' kp e) (by simp only[g_] <;> lia)
 obtain⟨be,r',pl,hz⟩:=I.tuple hq;have hlen:=r'.length;obtain⟨o,ho,hc,n,hd⟩:=pl;exact Yw p (.inr rfl) ho hc hd (λh' c' kp e=>fin be r' hz h' c' kp e) (by simp only[g_] <;> lia)
theorem qZ:de X (.type "tuple") (λxs H Q=>∃p ys,xs=[.ref p]/\((SqL X.K H p ys/\∀l,H l=none->Q (.ref l) (upd H l (.tup ys)))\/(SqT X.K H p ys/\Q (.ref p) H))):=by
 intro ac s σ H xs us Q I r h;obtain⟨p,ys,rfl,h⟩:=h;obtain⟨u,rfl,rx⟩:=vals1 r;cases rx;rcases h with⟨hq,q⟩|⟨hq,q⟩
 ·obtain⟨be,r',pl,hz⟩:=I.list hq;have hlen:=r'.length;refine call_tuple_list pl.isList (λh' kp=>?_) (by simp only[g_] <;> lia);have I1:Inv X ac σ H {s with heap:=h'}:=I.kept (t':=s.toks) kp;have I2:Inv X ac σ (upd H h'.objs.size (.tup ys)) {s with heap:=h'.push { cls:=.type "tuple",data:=.seq be.toArray} }:=
   I1.laid (t':=s.toks) (λb o e=>Rg _ e) (c_ _) (show cz X.prog X.w _ _ _ (.tup ys)from⟨hz,be,r',WU _ _⟩)
  exact⟨.ref h'.objs.size,_,I2,rfl,q _ (I1.hok.fresh (c_ _))⟩
 obtain⟨be,r',pl,hz⟩:=I.tuple hq;exact XS pl ⟨.ref p,H,I,rfl,q⟩
def tyV(K:Rb)(T:String)(x:V)(H:Hp):Prop:=match x with
 | .str _=>T="str"
 | .int _=>T="int"
 | .ref p=>(T="list"/\∃xs,SqL K H p xs)\/(T="tuple"/\∃o,K.lookup p=some o/\o.cls=.type "tuple"/\o.dict=none)\/
   (T="dict"/\((∃kvs,H p=some (.dK kvs))\/∃kvs,H p=some (.dT kvs)))\/(T="set"/\∃S n,H p=some (.set S n))
 | _=>False
theorem Bn{T:String}{x:V}{v:Q_}(I:Inv X ac σ H s)(r:RelV x v)(ty:tyV X.K T x H) :
  s.TypeIs v T/\∀a,v=.ref a->∃ob,s.heap.get? a=some ob/\ob.dict=none:=by
 cases x with
 |str z=>
  obtain⟨t,rfl⟩:=r;cases (show T="str" from ty);exact⟨typeIs_str s z t,λ_ e=>nomatch e⟩
 |int i=>
  obtain⟨t,rfl⟩:=r;cases (show T="int" from ty);exact⟨XT s i t,λ_ e=>nomatch e⟩
 |ref p=>
  cases r;rcases ty with⟨rfl,xs,hq⟩|⟨rfl,o,hk,hc,hd⟩|⟨rfl,hk⟩|⟨rfl,S,n,hk⟩
  ·obtain⟨be,_,pl,_⟩:=I.list hq;refine⟨pl.isList.typeIs,λa e=>?_⟩;cases e;obtain⟨o,n,e,c,hd,_⟩:=pl;exact⟨o,e,hd⟩
  ·refine⟨⟨o,I.kIn p o hk,hc⟩,λa e=>?_⟩;cases e;exact⟨o,I.kIn _ o hk,hd⟩
  ·have z:∃o,s.heap.get? p=some o/\o.ExactDict:=by
    rcases hk with⟨kvs,hk⟩|⟨kvs,hk⟩
    ·obtain⟨_,_,_,_,o,_,_,e,ex,_⟩:=I.hok p _ hk;exact⟨o,e,ex⟩
    obtain⟨_,_,_,_,o,_,_,e,ex,_⟩:=I.hok p _ hk;exact⟨o,e,ex⟩
   obtain⟨o,e,ex⟩:=z;refine⟨⟨o,e,ex.1⟩,λa e2=>?_⟩;cases e2;exact⟨o,e,ex.2.1⟩
  ·obtain⟨o,_,_,_,e,ex,_⟩:=I.hok p _ hk;refine⟨⟨o,e,ex.1⟩,λa e2=>?_⟩;cases e2;exact⟨o,e,ex.2.1⟩
 | _=>exact Rt ty
def LY(K:Rb)(T:String)(r:V->List V->Hp->VK->Prop)(to:TE):TE:=λσ H Q=>to σ H λx H1=>tyV K T x H1/\r x [] H1 Q
def tBM(K:Rb)(T:String)(r:V->List V->Hp->VK->Prop)(to:TE)(t:TA):TE:=λσ H Q=>to σ H λx H1=>tyV K T x H1/\t σ H1 λxs H2=>r x xs H2 Q
variable{o e:Rr}{es:List Rr}{to:TE}{t:TA}{name:Str}{apos lv:Pos}{T id:String}{r:V->List V->Hp->VK->Prop}
theorem Ij(pa:PlainAttrs T)(slot:Yg T name id)(hty:XU (.builtin id)=pure (.type "method_descriptor"))(hm:MtR X id r)(ho:PE X o to)
  (hbase:T4 o name X.env (RF o X.env)=RF o X.env:=by rfl) (hline:(apos.endLine == lv.line)=true:=by rfl):PE X (.Call (.Attribute o name apos) [] [] lv) (LY X.K T r to):=by
 intro ac s σ H Q I h;refine wpAny_Call_method0_late hbase hline (thn (ho ac s σ H _ I h) ?_);rintro v s1 ⟨x,H1,I1,r1,ty,q1⟩;obtain⟨h1,h2⟩:=Bn I1 r1 ty;exact⟨T,id,pa,slot,hty,h1,h2,Uv rfl (PySem.evalArgs_none (hm ac s1 σ H1 x [] v [] Q I1 r1 .nil q1))⟩
theorem GH(pa:PlainAttrs T)(slot:Yg T name id)(hty:XU (.builtin id)=pure (.type "method_descriptor"))(hm:MtR X id r)(ho:PE X o to)(ha:PA X (e::es) t)
  (hbase:T4 o name X.env (RF o X.env)=RF o X.env:=by rfl)
  (hfew:((Ta lv (Ru (e::es) X.env)).all (λx=>!x.1)&&(Xu lv (V3 [] X.env)).all (λx=>x.1.isSome)
   && decide ((e::es).length+([]:List UY).length+(if([]:List UY).isEmpty then 0 else 1)<30))=true:=by rfl)
  (hline:(apos.endLine == lv.line)=true:=by rfl) (hs:Ru (e::es) X.env=(false,RF e X.env)::Ru es X.env:=by rfl) (hplain:(Ta lv (Ru es X.env)).any (·.1)=false:=by rfl) :
  PE X (.Call (.Attribute o name apos) (e::es) [] lv) (tBM X.K T r to t):=by
 intro ac s σ H Q I h;refine wpAny_Call_method_late hbase hfew hline rfl (thn (ho ac s σ H _ I h) ?_);rintro v s1 ⟨x,H1,I1,r1,ty,q1⟩;obtain⟨h1,h2⟩:=Bn I1 r1 ty;refine⟨T,id,pa,slot,hty,h1,h2,?_⟩;have hA:=ha lv ac s1 σ H1 _ I1 q1;rw[hs]at hA ⊢;refine Uv (by show(false || (Ta lv (Ru es X.env)).any (·.1))=false;rw[hplain] <;> rfl) (Wu ?_);exact thn hA λus s2 ⟨vs,H2,I2,r2,q2⟩=>hm ac s2 σ H2 x vs v us Q I2 r1 r2 q2
end
def MtM(X:Cx)(id:String)(r:V->List V->Hp->VK->Prop):Prop:=
 ∀(ac:List (Ra×Obj)) (s:Rf) (σ:St) (H:Hp) (x:V) (xs:List V) (v:Q_) (us:List Q_) (Q:VK),Inv X ac σ H s->RelV x v->Vals xs us->r x xs H Q->
  Rh (Rn X.prog X.w) X.A (call (.builtin id) (v::us)) (EP X ac σ Q) X.xe s
theorem Vals.one:∀{x:V}{us:List Q_},Vals [x] us->∃u,us=[u]/\RelV x u:=by
 intro x us h;cases h with
 |cons r t=>cases t;exact⟨_,rfl,r⟩
theorem Vals.two:∀{x y:V}{us:List Q_},Vals [x,y] us->∃u v,us=[u,v]/\RelV x u/\RelV y v:=by
 intro x y us h;cases h with
 |cons r h=>
  cases h with
  |cons q h=>cases h;exact⟨_,_,rfl,r,q⟩
theorem Vals.zero:∀{us:List Q_},Vals [] us->us=[]
 | _,.nil=>rfl
theorem Vals.reverse {xs:List V}(h:Vals xs us):Vals xs.reverse us.reverse:=by
 induction h with
 |nil=>exact .nil
 |cons r t ih=>rw[Nb,Nb];exact Vals.append ih (.cons r .nil)
theorem Vals.rep {xs:List V}(h:Vals xs us):∀k:Nat,Vals (B' k xs).flatten (B' k us).flatten
 |0=>.nil
 |k+1=>by rw[Mv,Mv,NB,NB];exact Vals.append h (Vals.rep h k)
theorem foldl_rep(be:List Q_):∀(k:Nat) (acc:List Q_),
  Qq (λx1 x2=>x1++x2) acc.toArray (B' k be.toArray)=(acc++(B' k be).flatten).toArray
 |0,acc=>by simp
 |k+1,acc=>by
  have e:acc.toArray++be.toArray=(acc++be).toArray:=by simp
  have e2:(acc++be)++(B' k be).flatten=acc++(B' (k+1) be).flatten:=by rw[Mv,NB,w_]
  rw[<-e2,<-foldl_rep be k (acc++be),<-e,Mv,MU]
variable {t':Nat}
section
variable{X:Cx}{ac:List (Ra×Obj)}{σ:St}{H:Hp}{s:Rf}{l b:Ra}{xs ys zs:List V}
theorem Inv.Ic {f:Array Q_->Array Q_}(I:Inv X ac σ H s)(hH:H l=some (.lst xs))
  (e:s.heap.get? l=some { cls:=.type "list",data:=.seq be.toArray n}) (hf:f be.toArray=its'.toArray) (hv:Vals ys its') (hz:ys.length<=sizeLine) :
  Inv X ac σ (upd H l (.lst ys)) {s with heap:=s.heap.update l (R5 f),toks:=t'}:=by
 have q:=ZQ e f;rw[hf]at q;refine I.write (x:=l) (e:=l) (by rw[hH];exact trivial) (.inl rfl) (λb' u hb hu=>(SK s.heap (R5 f) (Ti hb)).trans hu) ⟨_,q⟩ ?_;exact⟨hz,its',_,hv,q⟩
theorem Inv.JD (I:Inv X ac σ H s)(hv:Vals ys be)(hz:ys.length<=sizeLine) :
  Inv X ac σ (upd H s.heap.objs.size (.lst ys)) {s with heap:=s.heap.push { cls:=.type "list",data:=.seq be.toArray},toks:=t'}:=
 I.laid (λ_ _ q=>Rg _ q) (c_ _) ⟨hz,be,0,hv,Ri _ rfl⟩
theorem Inv.fresh (I:Inv X ac σ H s):H s.heap.objs.size=none:=I.hok.fresh (c_ _)
theorem Inv.Cw (I:Inv X ac σ H s)(hH:H l=some (.lst xs)):xs.length<=sizeLine/\∃(be:List Q_) (n:Nat),Vals xs be/\xs.length=be.length/\s.heap.get? l=some { cls:=.type "list",data:=.seq be.toArray n}:=by obtain⟨z,be,n,r,e⟩:=I.hok l _ hH;exact⟨z,be,n,r,r.length,e⟩
theorem wz(h:n<=sizeLine):Tv n=false:=by unfold Tv;exact decide_eq_false (by lia)
end
section
variable{X:Cx}
def EO:V->List V->Hp->VK->Prop:=λx vs H Q=>∃l xs y,x=.ref l/\vs=[y]/\H l=some (.lst xs)/\xs.length<sizeLine/\Q .non (upd H l (.lst (xs++[y])))
theorem oA:MtM X "list.append" EO:=by intro ac s σ H x vs v us Q I rx rv h;obtain⟨l,xs,y,rfl,rfl,hH,hz,q⟩:=h;cases rx;obtain⟨u,rfl,ru⟩:=rv.one;obtain⟨z,be,n,r,hl,e⟩:=I.Cw hH;refine UJ F.slot_list_append ⟨_,e,rfl⟩ F.entry_list_append (F.args_list_append_2 _ _) (PySem.list_append l be.toArray n u (by rw[g_];lia)) ⟨e,?_⟩;refine⟨.non,_,I.Ic (its':=be++[u]) hH e (by simp) (r.append (.cons ru .nil)) ?_,rfl,q⟩;rw[n_,Pj];lia
def F7:V->List V->Hp->VK->Prop:=λx vs H Q=>∃l b xs zs,x=.ref l/\vs=[.ref b]/\H l=some (.lst xs)/\H b=some (.lst zs)/\xs.length+zs.length<=sizeLine/\Q .non (upd H l (.lst (xs++zs)))
theorem zZ:MtM X "list.extend" F7:=by
 intro ac s σ H x vs v us Q I rx rv h;obtain⟨l,b,xs,zs,rfl,rfl,hH,hB,hz,q⟩:=h;cases rx;obtain⟨u,rfl,ru⟩:=rv.one;cases ru;obtain⟨z,be,n,r,hl,e⟩:=I.Cw hH;obtain⟨z2,its2,n2,r2,hl2,e2⟩:=I.Cw hB;have hsz:be.toArray.size+its2.toArray.size<=sizeLine:=by rw[g_,g_];lia
 have hlong:¬(!be.toArray.isEmpty&&Tv (be.toArray.size+its2.toArray.size))=true:=by rw[wz hsz,Bool.and_false];exact C_
 refine UJ F.slot_list_extend ⟨_,e,rfl⟩ F.entry_list_extend (F.args_list_extend_2 _ _)
  (Xv l be.toArray n b its2.toArray n2 hlong (by rw[g_];lia) (by lia)) ⟨e,e2,?_⟩
 refine⟨.non,_,I.Ic (its':=be++its2) hH e (by simp) (r.append r2) ?_,rfl,q⟩;rw[n_];omega
def CC:V->List V->Hp->VK->Prop:=λx vs H Q=>∃l xs,x=.ref l/\vs=[]/\H l=some (.lst xs)/\Q .non (upd H l (.lst xs.reverse))
theorem xX:MtM X "list.reverse" CC:=by intro ac s σ H x vs v us Q I rx rv h;obtain⟨l,xs,rfl,rfl,hH,q⟩:=h;cases rx;have hus:=rv.zero;subst hus;obtain⟨z,be,n,r,hl,e⟩:=I.Cw hH;refine UJ F.slot_list_reverse ⟨_,e,rfl⟩ F.entry_list_reverse (F.args_list_reverse_1 _) (Yh l be.toArray n (by rw[g_];lia)) ⟨e,?_⟩;refine⟨.non,_,I.Ic (its':=be.reverse) hH e (by simp) r.reverse ?_,rfl,q⟩;rw[ML];omega
def M9:R2:=λx y H Q=>∃l k xs,x=.ref l/\y=.int k/\H l=some (.lst xs)/\-(2 ^ 63)<=k/\k<2 ^ 63/\xs.length*k.toNat<=sizeLine/\
 ∀p,H p=none->Q (.ref p) (upd H p (.lst (B' k.toNat xs).flatten))
theorem len_rep(xs:List α)(k:Nat):(B' k xs).flatten.length=k*xs.length:=by
 induction k with
 |zero=>simp
 |succ k ih=>rw[Mv,NB,n_,ih,Nat.succ_mul,Nat.add_comm]
theorem J4:OpR X (Sf .Mult) M9:=by
 intro ac s σ H x y v u Q I rx ry h;obtain⟨l,k,xs,rfl,rfl,hH,h1,h2,hz,q⟩:=h;cases rx;obtain⟨t,rfl⟩:=ry;obtain⟨z,be,n,r,hl,e⟩:=I.Cw hH;have hlen:be.toArray.size*k.toNat<=sizeLine:=by rw[g_,<-hl];exact hz
 have hcap:¬be.toArray.size*k.toNat >(2 ^ 63-1)/8:=by
  have:(sizeLine:Nat)<=(2 ^ 63-1)/8:=by decide
  lia
 have hfit:¬(!Yx k)=true:=by rw[fitsIndex_both h1 h2];exact C_
 have hlong:¬Tv (be.toArray.size*k.toNat)=true:=by rw[wz hlen];exact C_
 have hnew:Qq (λx1 x2=>x1++x2) #[] (B' (if be.toArray.isEmpty=true then 0 else k.toNat) be.toArray)=(B' k.toNat be).flatten.toArray:=by
  have f0:∀m:Nat,Qq (λx1 x2=>x1++x2) #[] (B' m be.toArray)=(B' m be).flatten.toArray:=λm=>by have:=foldl_rep be m [];rw[MZ]at this;exact this
  rw[f0];cases be with
  |nil=>simp
  |cons a r'=>rw[if_neg (by simp)]
 refine wpAny_binaryOp_repeat_ref (T:="list") (U:="int") (by decide) ⟨_,e,rfl⟩ (λs'=>XT s' k t) noFill_list_mul F.fills_int_mul XW repeat_list F.slot_int_index.lookup
  (UJ XW (XT s k t) F.entry_int_rmul (F.args_int_rmul_2 _ _) (int___rmul___int_list k t l be.toArray n)
   ⟨e,rfl,⟨_,e,rfl⟩,UJ F.slot_list_mul ⟨_,e,rfl⟩ F.entry_list_mul (F.args_list_mul_2 _ _) (Xo l be.toArray n k t hfit hcap hlong) ⟨e,?_⟩⟩)
 rw[hnew];exact⟨.ref _,_,I.JD (t':=s.toks) (r.rep k.toNat) (by rw[len_rep,QL];exact hz),rfl,q _ I.fresh⟩
end
variable {o:Option V}{u:Q_}{y:V}
section
variable{κ:Type}[DecidableEq κ]
noncomputable def iP(kvs:List (κ×V))(k:κ):Option V:=(kvs.find? λkv=>decide (kv.1=k)).map (·.2)
noncomputable def putK(kvs:List (κ×V))(k:κ)(v:V):List (κ×V):=
 if(kvs.any λkv=>decide (kv.1=k))=true then kvs.map (λkv=>if kv.1=k then(kv.1,v)else kv)else kvs++[(k,v)]
theorem qw{p:κ×V}{r:List (κ×V)}{k:κ}(e:p.1=k):iP (p::r) k=some p.2:=by simp[iP,Mq,e]
theorem pK{p:κ×V}{r:List (κ×V)}{k:κ}(e:¬p.1=k):iP (p::r) k=iP r k:=by simp[iP,Mq,e]
theorem nH(k:κ):∀kvs:List (κ×V),(kvs.any λkv=>decide (kv.1=k))=(iP kvs k).isSome
 | []=>rfl
 |p::r=>by
  rw[Pz];by_cases e:p.1=k
  ·simp only[qw e,decide_eq_true e,Bool.true_or,PN]
  rw[pK e,decide_eq_false e,OL];exact nH k r
theorem js(kvs:List (κ×V))(k:κ)(v:V):(putK kvs k v).length<=kvs.length+1:=by
 unfold putK;split
 ·rw[a_];lia
 rw[n_,gV,NP];lia
theorem vZ{kvs:List (κ×V)}{k:κ}(v:V)(h:iP kvs k=none):putK kvs k v=kvs++[(k,v)]:=by unfold putK;rw[nH,h];exact if_neg (by decide)
theorem qU.nU {u:Option Q_}(r:qU o u):o.isSome=u.isSome:=by
 cases o with
 |none=>cases u with
  |none=>rfl
  |some _=>exact(show False from r).elim
 |some _=>cases u with
  |none=>exact(show False from r).elim
  |some _=>rfl
theorem KV.val {kvs:List (κ×V)}{vs:List (κ×Q_)}(r:KV kvs vs)(k:κ):qU (iP kvs k) (Vw vs k):=by
 unfold KV at r;induction r with
 |nil=>exact TU
 | @cons p q ps qs h t ih=>
  obtain⟨h1,h2⟩:=h;by_cases e:p.1=k
  ·have e':q.1=k:=h1.symm.trans e;have b:Vw (q::qs) k=some q.2:=by simp[Vw,Mq,e']
   rw[qw e,b];exact h2
  have e':¬q.1=k:=λz=>e (h1.trans z);have b:Vw (q::qs) k=Vw qs k:=by simp[Vw,Mq,e']
  rw[pK e,b];exact ih
theorem KV.any {kvs:List (κ×V)}{vs:List (κ×Q_)}(r:KV kvs vs)(k:κ):(kvs.any λkv=>decide (kv.1=k))=vs.any λkv=>decide (kv.1=k):=by
 unfold KV at r;induction r with
 |nil=>rfl
 |cons h t ih=>rw[Pz,Pz,ih,h.1]
theorem KV.Jn {kvs:List (κ×V)}{vs:List (κ×Q_)}(r:KV kvs vs)(k:κ)(ry:RelV y u) :
  KV (kvs.map λkv=>if kv.1=k then(kv.1,y)else kv) (vs.map λkv=>if kv.1=k then(kv.1,u)else kv):=by
 unfold KV at r ⊢;induction r with
 |nil=>exact .nil
 | @cons p q ps qs h t ih=>
  rw[d_,d_];refine .cons ?_ ih;obtain⟨h1,h2⟩:=h;by_cases e:p.1=k
  ·rw[if_pos e,if_pos (h1.symm.trans e)];exact⟨h1,ry⟩
  rw[if_neg e,if_neg (λz=>e (h1.trans z))];exact⟨h1,h2⟩
theorem KV.put {kvs:List (κ×V)}{vs:List (κ×Q_)}(r:KV kvs vs)(k:κ)(ry:RelV y u):KV (putK kvs k y) (stored vs k u):=by
 unfold putK stored;rw[r.any k];by_cases e:(vs.any λkv=>decide (kv.1=k))=true
 ·rw[if_pos e,if_pos e];exact r.Jn k ry
 rw[if_neg e,if_neg e];exact Za r ⟨rfl,ry⟩
theorem KV.length {kvs:List (κ×V)}{vs:List (κ×Q_)}(r:KV kvs vs):kvs.length=vs.length:=Sg r
end
variable {P:Rj}{w:Ro}
theorem v8{k:Key}(r:RelV (kV k) u):(br P w).is k u=true:=by
 rcases k with i | _|x
 ·obtain⟨t,e⟩:=(show ∃t,u=Sk i t from r);subst e;exact vG P w i t
 ·cases r;rfl
 obtain⟨t,e⟩:=(show ∃t,u=Yq x t from r);subst e;exact uF P w x t
theorem jR{P:Rj}{w:Ro}:∀{ks:List Key}{us:List Q_},Vals (ks.map kV) us->ItemsAre (br P w) ks us
 | [],_,r=>by rw[NW]at r;cases r;exact .nil
 |k::ks,_,r=>by
  rw[d_]at r;cases r with
  |cons h t=>exact .cons (v8 h) (jR t)
abbrev KT(H:Hp):List (List Key×V)->List (List Key×Ra×Q_)->Prop:=Ts λp q=>p.1=q.1/\H q.2.1=some (.tup (p.1.map kV))/\RelV p.2 q.2.2
variable {kvs:List (List Key×V)}{xs:List (List Key×Ra×Q_)}
theorem KT.val (r:KT H kvs xs)(k:List Key):qU (iP kvs k) ((VQ xs k).map (·.2)):=by
 induction r with
 |nil=>exact TU
 | @cons p q ps qs h t ih=>
  obtain⟨h1,_,h2⟩:=h;by_cases e:p.1=k
  ·have e':q.1=k:=h1.symm.trans e;have b:VQ (q::qs) k=some q.2:=by simp[VQ,Mq,e']
   rw[qw e,b];exact h2
  have e':¬q.1=k:=λz=>e (h1.trans z);have b:VQ (q::qs) k=VQ qs k:=by simp[VQ,Mq,e']
  rw[pK e,b];exact ih
theorem KT.Jn (r:KT H kvs xs)(k:List Key)(ry:RelV y u) :
  KT H (kvs.map λkv=>if kv.1=k then(kv.1,y)else kv) (xs.map (putAt k u)):=by
 induction r with
 |nil=>exact .nil
 | @cons p q ps qs h t ih=>
  rw[d_,d_];refine .cons ?_ ih;obtain⟨h1,h2,h3⟩:=h;unfold putAt;by_cases e:p.1=k
  ·rw[if_pos e,if_pos (h1.symm.trans e)];exact⟨h1,h2,ry⟩
  rw[if_neg e,if_neg (λz=>e (h1.trans z))];exact⟨h1,h2,h3⟩
theorem KT.put (r:KT H kvs xs)(k:List Key){b:Ra}(hb:H b=some (.tup (k.map kV)))(ry:RelV y u) :
  KT H (putK kvs k y) (Uk xs k b u):=by
 have e:(kvs.any λkv=>decide (kv.1=k))=(VQ xs k).isSome:=by rw[nH,(r.val k).nU,N3]
 unfold putK Uk;rw[e];by_cases q:(VQ xs k).isSome=true
 ·rw[if_pos q,if_pos q];exact r.Jn k ry
 rw[if_neg q,if_neg q];exact Za r ⟨rfl,hb,ry⟩
variable {H':Hp}
theorem KT.keeps (r:KT H kvs xs)(ht:∀b ys,H b=some (.tup ys)->H' b=some (.tup ys)):KT H' kvs xs:=
 Paired.Kj r λ_ _ z=>⟨z.1,ht _ _ z.2.1,z.2.2⟩
section
variable{P:Rj}{w:Ro}{H:Hp}{h:Rq}{a:Ra}
theorem Gv{u:HO}(ok:HOk P w H h)(e:Rd H a u):cz P w H h a u:=e.ok ok
theorem rm{kvs:List (Key×V)}(ok:HOk P w H h)(e:Rd H a (.dK kvs)):kvs.length<=sizeLine/\(a == RI)=false/\∃vs,KV kvs vs/\h.DictOf (br P w) a vs:=
 show cz P w H h a (.dK kvs)from Gv ok e
theorem GY{kvs:List (Key×V)}(ok:HOk P w H h)(e:H a=some (.dK kvs)):kvs.length<=sizeLine/\(a == RI)=false/\∃vs,KV kvs vs/\h.DictOf (br P w) a vs:=rm ok (.inl e)
theorem mD{ks:List Key}(ok:HOk P w H h)(e:H a=some (.tup (ks.map kV))):(Sl (br P w)).is h ks a:=by obtain⟨_,be,r,o,h1,h2,n,h3⟩:=(show cz P w H h a (.tup (ks.map kV))from ok a _ e);exact⟨o,be.toArray,n,h1,h2,h3,by simpa using jR r⟩
theorem oT(ok:HOk P w H h)(e:Rd H a (.dT kvs)):kvs.length<=sizeLine/\(a == RI)=false/\
  ∃xs,KT H kvs xs/\h.DictOfH (Sl (br P w)) a xs:=by
 obtain⟨z,y,xs,r,o,es,ep,h1,h2,h3,h4,h5⟩:=(show cz P w H h a (.dT kvs)from Gv ok e);refine⟨z,y,xs,r,o,es,ep,h1,h2,h3,h4,λx hx=>?_,h5⟩;have all:∀{l:List (List Key×V)}{m:List (List Key×Ra×Q_)},KT H l m->∀x∈m,(Sl (br P w)).is h x.1 x.2.1:=by
  intro l m q;induction q with
  |nil=>intro x hx;exact nomatch hx
  | @cons p q ps qs hq t ih=>
   intro x hx;rcases i_.mp hx with e|hx
   ·subst e;exact mD ok (by rw[<-hq.1];exact hq.2.1)
   exact ih x hx
 exact all r x hx
theorem D9(ok:HOk P w H h)(e:H a=some (.dT kvs)):kvs.length<=sizeLine/\(a == RI)=false/\
  ∃xs,KT H kvs xs/\h.DictOfH (Sl (br P w)) a xs:=oT ok (.inl e)
end
def o7(H:Hp)(a:Ra)(y:V)(r:Option V):Prop:=
 (∃kvs k,Rd H a (.dK kvs)/\y=kV k/\r=iP kvs k)\/∃kvs k b,Rd H a (.dT kvs)/\y=.ref b/\H b=some (.tup (k.map kV))/\r=iP kvs k
def Ag(H:Hp)(a:Ra)(y v:V)(H':Hp):Prop:=
 (∃kvs k,H a=some (.dK kvs)/\y=kV k/\kvs.length<sizeLine/\H'=upd H a (.dK (putK kvs k v)))\/
 ∃kvs k b,H a=some (.dT kvs)/\y=.ref b/\H b=some (.tup (k.map kV))/\kvs.length<sizeLine/\H'=upd H a (.dT (putK kvs k v))
theorem o7.k {H:Hp}{a:Ra}{kvs:List (Key×V)}{k:Key}(e:H a=some (.dK kvs)):o7 H a (kV k) (iP kvs k):=.inl ⟨kvs,k,.inl e,rfl,rfl⟩
theorem Ag.k {H:Hp}{a:Ra}{kvs:List (Key×V)}{k:Key}{v:V}(e:H a=some (.dK kvs))(hl:kvs.length<sizeLine):Ag H a (kV k) v (upd H a (.dK (putK kvs k v))):=.inl ⟨kvs,k,e,rfl,hl,rfl⟩
variable {Q:Q_->Rf->Prop}
section
variable{X:Cx}{ac:List (Ra×Obj)}{σ:St}{H:Hp}{s:Rf}{a:Ra}{y v:V}{u r:Q_}{o:Option V}{A:Rw}{E:Q_->Rf->Prop}
theorem Inv.big (I:Inv X ac σ H s):RI<s.heap.objs.size:=by have h:R6<s.heap.objs.size:=(I.mod.glob.keeps I.bk).lt;exact NX (by decide) h
theorem rW(hu:A.units+1<cLine)(I:Inv X ac σ H s)(g:o7 H a y (some v))(ry:RelV y u)(h:∀w' s',Inv X ac σ H s'->RelV v w'->Q w' s') :
  Rh (Rn X.prog X.w) A (UX (.ref a) u) Q E s:=by
 rcases g with⟨kvs,k,e,ey,l⟩|⟨kvs,k,b,e,ey,eb,l⟩
 ·subst ey;obtain⟨z,hd,vs,rel,dd⟩:=rm I.hok e;obtain⟨w',hw,rw'⟩:=qU.some_of (v:=v) (o:=Vw vs k) (by rw[l];exact rel.val k);exact wpAny_getItem_of (v8 ry) dd.mapOf hw (h w' _ (I.tok _) rw')
 subst ey;cases (show u=Rz b from ry);obtain⟨z,hd,xs,rel,dd⟩:=oT I.hok e;obtain⟨w',hw,rw'⟩:=qU.some_of (v:=v) (o:=(VQ xs k).map (·.2)) (by rw[l];exact rel.val k);obtain⟨p,hp,hp2⟩:=MV.mp hw;refine wpAny_getItem_heap (Tc hu) (mD I.hok eb) dd hp ?_;rw[hp2];exact h w' _ (I.tok _) rw'
theorem Gh(hu:A.units+1<cLine)(I:Inv X ac σ H s)(g:o7 H a y o)(ry:RelV y u)(h:∀s',Inv X ac σ H s'->Q (.bool (!o.isSome)) s') :
  Rh (Rn X.prog X.w) A (RJ .NotIn u (.ref a)) Q E s:=by
 rcases g with⟨kvs,k,e,ey,l⟩|⟨kvs,k,b,e,ey,eb,l⟩
 ·subst ey;obtain⟨z,hd,vs,rel,dd⟩:=rm I.hok e;refine wpAny_notIn_of (v8 ry) hd dd.mapOf ?_;rw[<-(rel.val k).nU,<-l];exact h _ (I.tok _)
 subst ey;cases (show u=Rz b from ry);obtain⟨z,hd,xs,rel,dd⟩:=oT I.hok e;refine wpAny_notIn_heap (Tc hu) (mD I.hok eb) hd dd ?_;have q:=(rel.val k).nU;rw[N3]at q;rw[<-q,<-l];exact h _ (I.tok _)
theorem mW{h':Rq}{ob:HO}(I:Inv X ac σ H s)(mu:Mut (H a))(hs:RN a s.heap h')(he:∃q,h'.get? a=some q)(new:cz X.prog X.w (upd H a ob) h' a ob) :
  Inv X ac σ (upd H a ob) {s with heap:=h',toks:=t'}:=
 I.write (x:=a) (e:=a) mu (.inl rfl) (λb q hb z=>(hs.2 b hb).trans z) he new
theorem Dd{h':Rq}{kvs:List (Key×V)}{vs:List (Key×Q_)}(z:kvs.length<=sizeLine)(hd:(a == RI)=false)(rel:KV kvs vs)(dd:h'.DictOf (br P w) a vs) :
  cz P w H' h' a (.dK kvs):=⟨z,hd,vs,rel,dd⟩
theorem oF{Q:Unit->Rf->Prop}(hu:A.units+1<cLine)(I:Inv X ac σ H s)(g:Ag H a y v H')(ry:RelV y u)(rv:RelV v r)(h:∀s',Inv X ac σ H' s'->Q () s') :
  Rh (Rn X.prog X.w) A (Yb (.ref a) u r) Q E s:=by
 rcases g with⟨kvs,k,e,ey,l,eH⟩|⟨kvs,k,b,e,ey,eb,l,eH⟩
 ·subst ey eH;obtain⟨z,hd,vs,rel,dd⟩:=GY I.hok e;have hz:vs.length<=sizeLine:=by rw[<-rel.length];exact z
  have hl:(putK kvs k v).length<=sizeLine:=by have:=js kvs k v;lia
  refine wpAny_setItem_pairs (hsz:=hz) (v8 ry) dd λh' dd' hs=>h _ ?_;have he:∃q,h'.get? a=some q:=let ⟨q,_,_,hq,_⟩:=dd';⟨q,hq⟩
  exact mW I (by rw[e];exact TU) hs he (Dd hl hd (rel.put k rv) dd')
 subst ey eH;cases (show u=Rz b from ry);obtain⟨z,hd,xs,rel,dd⟩:=D9 I.hok e;have hz:xs.length<=sizeLine:=by rw[<-Sg rel];exact z
 have hl:(putK kvs k v).length<=sizeLine:=by have:=js kvs k v;lia
 refine wpAny_setItem_heap (hsz:=hz) (Tc hu) (mD I.hok eb) dd λh' dd' hs=>h _ ?_;obtain⟨q,es,ep,hq,h2,h3,h4,_,h5⟩:=dd';refine mW I (by rw[e];exact TU) hs ⟨q,hq⟩ ⟨hl,hd,_,(rel.put k eb rv).keeps λc ys ec=>?_,q,es,ep,hq,h2,h3,h4,h5⟩;rw[aH (zb ec e (λz=>nomatch z))];exact ec
end
section
variable{X:Cx}{ac:List (Ra×Obj)}{σ:St}{H:Hp}{s:Rf}{a:Ra}{kvs:List (Key×V)}{k:Key}{u:Q_}{A:Rw}{E:Q_->Rf->Prop}
theorem Lu(I:Inv X ac σ H s)(e:Rd H a (.dK kvs))(h:∀t s',Inv X ac σ H s'->Q (.int kvs.length t) s'):Rh (Rn X.prog X.w) A (call (.builtin "len") [.ref a]) Q E s:=by obtain⟨z,hd,vs,rel,dd⟩:=rm I.hok e;refine call_len_dict hd dd (by rw[<-rel.length];rw[sizeLine_eq]at z;lia) ?_;rw[<-rel.length];exact h _ _ (I.tok _)
end
noncomputable def Lc(i:Rr):Prop:=∀ov iv,U5 i false ov iv=Zk [ov,iv] (UX ov iv)
variable {pos:Pos}
theorem G8{prog:Rj}{A:Rw}{E:Q_->Rf->Prop}{env:Env}{value slice:Rr}{T id:String}
  (hl:XR (.type T) "__getitem__"=pure (some (.builtin id))) (hs:Lc slice)
  (h:Rh (Rn prog w) A (RF value env) (λo s₁=>Rh (Rn prog w) A (RF slice env) (λi s₂=>s₂.TypeIs o T/\Rh (Rn prog w) A (UX o i) Q E s₂) E s₁) E s) :
  Rh (Rn prog w) A (RF (.Subscript value slice pos) env) Q E s:=by
 refine Wt (RL h (λo s₁ h₁=>RL h₁ (λi s₂ h₂=>?_) λ_ _ x=>x) λ_ _ x=>x);obtain⟨hT,h₂⟩:=h₂;unfold T3;refine Q9 ?_;rw[V' hT.not_modules];refine Q9 (UK hT hl ?_);have fin:Rh (Rn prog w) A (U5 slice false o i) (λr s₃=>Rh (Rn prog w) A (Yi value o r >>= λ_=>pure r) Q E s₃) E s₂:=by rw[hs o i];exact XX (RL h₂ (λr s₃ h₃=>Q9 (Wv (Rc h₃))) λ_ _ x=>x)
 first
  |exact Rc (Q9 fin)
  |exact Q9 (Rc (Q9 fin))
  |exact Q9 fin
variable {X:Cx}
theorem oO{a:Ra}(I:Inv X ac σ H s)(g:o7 H a y o):s.TypeIs (.ref a) "dict":=by
 rcases g with⟨kvs,k,e,_,_⟩|⟨kvs,k,b,e,_,_,_⟩
 ·obtain⟨_,_,vs,_,dd⟩:=rm I.hok e;exact dd.typeIs
 obtain⟨_,_,xs,_,dd⟩:=oT I.hok e;exact dd.typeIs
def Kq(td ty:TE):TE:=λσ H Q=>td σ H λx H1=>ty σ H1 λy H2=>∃a v,x=.ref a/\o7 H2 a y (some v)/\Q v H2
def JH(td ty tv:TE):TS:=λD σ H=>tv σ H λv H1=>td σ H1 λx H2=>ty σ H2 λy H3=>∃a H4,x=.ref a/\Ag H3 a y v H4/\D.nx σ H4
section
variable{X:Cx}{o i e value:Rr}{pos pos' tpos:Pos}{td ty tv:TE}
theorem ph(hu:X.A.units+1<cLine)(ho:PE X o td)(hi:PE X i ty)(hs:Lc i):PE X (.Subscript o i pos) (Kq td ty):=by intro ac s σ H Q I h;refine G8 Vq.lookup hs (thn (ho ac s σ H _ I h) λu s1 ⟨x,H1,I1,rx,q1⟩=>thn (hi ac s1 σ H1 _ I1 q1) ?_);rintro iv s2 ⟨y,H2,I2,ry,a,v,ex,g,q2⟩;subst ex;obtain rfl:u=Rz a:=rx;exact⟨oO I2 g,rW hu I2 g ry λw' s3 I3 rw'=>⟨v,H2,I3,rw',q2⟩⟩
theorem G4(hu:X.A.units+1<cLine)(ho:PE X o td)(hi:PE X i ty)(hv:PE X value tv)(hs:Ub value (some (.Subscript o i pos')) pos.line X.env=pure false) :
  PS X (.Assign [.Subscript o i pos'] value pos) (JH td ty tv):=by
 intro ac s σ H D I h;refine wpAny_Assign_Subscript (thn (hv ac s σ H _ I h) ?_) hs;rintro r s1 ⟨v,H1,I1,rv,q1⟩;refine thn (ho ac s1 σ H1 _ I1 q1) ?_;rintro u s2 ⟨x,H2,I2,rx,q2⟩;refine thn (hi ac s2 σ H2 _ I2 q2) ?_;rintro iv s3 ⟨y,H3,I3,ry,a,H4,ex,g,q3⟩;subst ex;obtain rfl:u=Rz a:=rx;exact oF hu I3 g ry rv λs4 I4=>⟨σ,H4,I4,q3⟩
end
theorem C1(h:Rq)(hb:RI<h.objs.size):cz P w H (h.push { cls:=.type "dict",data:=.dict #[] }) h.objs.size (.dK []):=
 ⟨Me _,beq_eq_false_iff_ne.mpr (Ti (s_ hb)),[],.nil,Z6 h⟩
theorem Bp(h:Rq)(hb:RI<h.objs.size):cz P w H (h.push { cls:=.type "dict",data:=.dict #[] }) h.objs.size (.dT []):=
 ⟨Me _,beq_eq_false_iff_ne.mpr (Ti (s_ hb)),[],.nil,_,#[],0,Ri _ rfl,⟨rfl,rfl,rfl⟩,rfl,rfl,NC⟩
def IK:TE:=λ_ H Q=>∀p,H p=none->Q (.ref p) (upd H p (.dT []))
section
variable{X:Cx}{pos:Pos}
theorem Ce:PE X (.Dict [] [] pos) IK:=λac s σ H Q I h=>
 wpAny_Dict_empty ⟨.ref s.heap.objs.size,_,I.laid (a:=s.heap.objs.size) (o:=.dT []) (t':=s.toks) (λ_ _ q=>Rg _ q) (c_ _) (Bp s.heap I.big),rfl,h _ (I.hok.fresh (c_ _))⟩
end
noncomputable def xn:List (TE×TE)->St->Hp->(List (V×V)->Hp->Prop)->Prop
 | [],_,H,Q=>Q [] H
 | (tk,tv)::r,σ,H,Q=>tk σ H λx H1=>tv σ H1 λy H2=>xn r σ H2 λps H3=>Q ((x,y)::ps) H3
abbrev VV:List (V×V)->List (Q_×Q_)->Prop:=Ts λp q=>RelV p.1 q.1/\RelV p.2 q.2
def PPs(X:Cx)(pos:Pos)(keys:List (Option Rr))(values:List Rr)(trs:List (TE×TE)):Prop:=
 ∀(ac:List (Ra×Obj)) (s:Rf) (σ:St) (H:Hp) (Q:List (V×V)->Hp->Prop),Inv X ac σ H s->xn trs σ H Q->
  Rh (Rn X.prog X.w) X.A (evalPairs (pairTrees keys values X.env pos)) (λvs s'=>∃ps H',Inv X ac σ H' s'/\VV ps vs/\Q ps H') X.xe s
theorem EY:PPs X pos [] [] []:=λac s σ H Q I h=>pairTrees_nil_walk ⟨[],H,I,.nil,h⟩
variable {trs:List (TE×TE)}
theorem vQ{k v:Rr}{ks:List (Option Rr)}{vs:List Rr}{tk tv:TE}(hk:PE X k tk)(hv:PE X v tv)(hr:PPs X pos ks vs trs) :
  PPs X pos (some k::ks) (v::vs) ((tk,tv)::trs):=λac s σ H Q I h=>
 pairTrees_cons_walk (thn (hk ac s σ H _ I h) λu s1 ⟨x,H1,I1,rx,q1⟩=>thn (hv ac s1 σ H1 _ I1 q1) λw2 s2 ⟨y,H2,I2,ry,q2⟩=>
  thn (hr ac s2 σ H2 _ I2 q2) λws s3 ⟨ps,H3,I3,rel,q3⟩=>⟨(x,y)::ps,H3,I3,.cons ⟨rx,ry⟩ rel,q3⟩)
def kW(kvs more:List (Key×V)):List (Key×V):=more.foldl (λacc kv=>putK acc kv.1 kv.2) kvs
theorem KV.merge:∀{more:List (Key×V)}{rs:List (Key×Q_)}{kvs:List (Key×V)}{vs:List (Key×Q_)},KV more rs->KV kvs vs->KV (kW kvs more) (merged vs rs):=by
 intro more rs kvs vs r;unfold KV at r;induction r generalizing kvs vs with
 |nil=>intro q;exact q
 | @cons p q ps qs h t ih=>
  intro r0;have e:KV (putK kvs p.1 p.2) (stored vs q.1 q.2):=by have:=r0.put p.1 h.2;rw[<-h.1];exact this
  exact ih e
theorem lP:∀(more kvs:List (Key×V)),(kW kvs more).length<=kvs.length+more.length
 | [],kvs=>by show kvs.length<=kvs.length+0;lia
 |p::r,kvs=>by have h1:=lP r (putK kvs p.1 p.2);have h2:=js kvs p.1 p.2;show(kW (putK kvs p.1 p.2) r).length<=_;rw[gV];lia
theorem qK{P:Rj}{w:Ro}:∀{kvs:List (Key×V)}{ws:List (Q_×Q_)},VV (kvs.map λkv=>(kV kv.1,kv.2)) ws->∃rs,Carries (br P w) ws rs/\KV kvs rs
 | [],_,r=>by rw[NW]at r;cases r;exact⟨[],TU,.nil⟩
 |p::kvs,_,r=>by
  rw[d_]at r;cases r with
  | @cons a b as bs h t=>
   obtain⟨rs,c,q⟩:=qK (P:=P) (w:=w) t;obtain⟨b1,b2⟩:=b;exact⟨(p.1,b2)::rs,⟨v8 h.1,rfl,c⟩,.cons ⟨rfl,h.2⟩ q⟩
def Lx(trs:List (TE×TE)):TE:=λσ H Q=>∀p,H p=none->xn trs σ (upd H p (.dK [])) λps H2=>H2 p=some (.dK [])/\∃kvs:List (Key×V),ps=kvs.map (λkv=>(kV kv.1,kv.2))/\kvs.length<=15/\Q (.ref p) (upd H2 p (.dK (kW [] kvs)))
theorem Fs{keys:List (Option Rr)}{values:List Rr}(h:PPs X pos keys values trs)(hall:keys.all (·.isSome)=true)(hl:keys.length=values.length)(h0:keys≠[])
  (h15:keys.length<=15):PE X (.Dict keys values pos) (Lx trs):=by
 intro ac s σ H Q I q;have hn:=I.hok.fresh (c_ s.heap.objs.size);have I1:=I.laid (a:=s.heap.objs.size) (o:=.dK []) (h':=s.heap.push { cls:=.type "dict",data:=.dict #[] }) (t':=s.toks) (λ_ _ q=>Rg _ q) (c_ _) (C1 s.heap I.big);refine wpAny_Dict_walk (knd:=br X.prog X.w) hall hl h0 h15 (thn (h ac _ σ _ _ I1 (q _ hn)) ?_);rintro ws s2 ⟨ps,H2,I2,rel,e,kvs,ep,lk,q2⟩;subst ep;obtain⟨rs,c,rk⟩:=qK (P:=X.prog) (w:=X.w) rel;obtain⟨z,hd,vs0,r0,dd⟩:=GY I2.hok e;cases r0;refine⟨rs,c,dd,λh' dd' hs=>⟨.ref s.heap.objs.size,_,?_,rfl,q2⟩⟩;have hz:(kW [] kvs).length<=sizeLine:=by have h1:=lP kvs [];rw[NP]at h1;rw[sizeLine_eq];lia
 have he:∃q,h'.get? s.heap.objs.size=some q:=let ⟨q,_,_,hq,_⟩:=dd';⟨q,hq⟩
 exact mW I2 (by rw[e];exact TU) hs he (Dd hz hd (rk.merge .nil) dd')
structure M2 (X:Cx) (o:Rr) (m:Str) (apos:Pos) (e f:Rr) (lv:Pos):Prop where
 base:T4 o m X.env (RF o X.env)=RF o X.env
 few:((Ta lv (Ru [e,f] X.env)).all (λx=>!x.1)&&(Xu lv (V3 [] X.env)).all (λx=>x.1.isSome)
  && decide (([e,f]:List Rr).length+([]:List UY).length+(if([]:List UY).isEmpty then 0 else 1)<30))=true
 line:(apos.endLine == lv.line)=true
 trees:Ta lv (Ru [e,f] X.env)=[(false,RF e X.env),(false,RF f X.env)]
def IsD(H:Hp)(a:Ra):Prop:=(∃kvs,Rd H a (.dK kvs))\/∃kvs,Rd H a (.dT kvs)
theorem Jt{a:Ra}(I:Inv X ac σ H s)(d:IsD H a) :
  s.TypeIs (.ref a) "dict"/\(∀b,Rz a=.ref b->∃ob,s.heap.get? b=some ob/\ob.dict=none)/\(a == RI)=false:=by
 rcases d with⟨kvs,e⟩|⟨kvs,e⟩
 ·obtain⟨_,hd,vs,_,dd⟩:=rm I.hok e;refine⟨dd.typeIs,λb q=>?_,hd⟩;cases q;obtain⟨ob,_,_,h1,h2,_⟩:=dd;exact⟨ob,h1,h2.2.1⟩
 obtain⟨_,hd,xs,_,dd⟩:=oT I.hok e;refine⟨dd.typeIs,λb q=>?_,hd⟩;cases q;obtain⟨ob,_,_,h1,h2,_⟩:=dd;exact⟨ob,h1,h2.2.1⟩
end L2
namespace Att
open PySem PySem.W PySem.Calls PyProof.Rows
theorem oY{P:VD}{h:Rq}:∀(ns:List Int) (vs:List Q_),WellAll P h vs (ns.map WData.int)->SF vs ns:=by
 intro ns;induction ns with
 |nil=>
  intro vs w;rw[NW]at w;cases w;exact .nil
 |cons n ns ih=>
  intro vs w;rw[d_]at w;cases w with
  |cons a b=>
   cases a;exact .cons _ _ (ih _ b)
theorem A9{l:OpenLaw}{n:Nat}(hn:l.most=some n){P:VD}{h:Rq}{args:List WData}{vals:List Q_}
  (hpre:l.row.toRowW.claim.pre args=true) (hwl:WellAll P h vals args) :
  ∃a vs ns,vals=[Rz a]/\args=[WData.list (ns.map WData.int)]/\h.get? a=some { cls:=.type "list",data:=.seq vs.toArray}/\SF vs ns/\ns.length<=n:=by
 have hsh:WShape.hasAll [] args [.list .int]=true:=(pre_splitW hpre).1;have hc:l.pre.holds [] { args:=args}=true:=(pre_splitW hpre).2;obtain⟨d,r,rfl,h1,h2⟩:=hasAllW_cons hsh;obtain rfl:=hasAllW_nil h2;obtain⟨xs,rfl,h3⟩:=hasW_list h1;obtain⟨ns,rfl⟩:=items_int h3;have hlen:ns.length<=n:=by
  unfold OpenLaw.pre at hc;have h4:(WTm.not (.lt (.lit (.int (n:Int))) (.len (.arg 0)))).holds [] { args:=[.list (ns.map .int)] }=true:=by have h4:=(holds_andW hc).1;rw[hn]at h4;exact h4
  have h5:=condW_of h4 (w_not (w_lt w_lit (w_len_list (w_arg rfl))));rw[a_]at h5;refine MF λq=>?_;have q':(n:Int)<((ns.length:Nat):Int):=by lia
  first
   | (rw[decide_eq_true q']at h5;exact absurd h5 (by decide))
   | (simp at h5;omega)
 cases hwl with
 |cons w1 w2=>
  cases w2;cases w1 with
  |list ho hall=>exact⟨_,_,ns,rfl,rfl,ho,oY ns _ hall,hlen⟩
theorem Ae(l:OpenLaw)(args:List WData):l.row.toRowW.claim.post args (.bool true) args=true:=
 postW_of (r:=l.row.toRowW) (X:=(true == true))
  (show WShape.has [] (.bool true) .bool=true by first|rfl|decide|simp[WShape.has,WShape.arms,WShape.armsAll])
  (show(WTm.eq .res (.lit (.bool true))).value [] { args:=args,res:=some (.bool true),after:=args}=some (.bool (true == true))from w_eq_bool (w_res rfl) w_lit) rfl
theorem wC{l:OpenLaw}{n:Nat}{q:Rj}{loose:List Str}{XP:(Str->Option Q_)->Rq->Prop}{YP:Ro->Rq->Prop}{d:DefRec}
  (hn:l.most=some n) (hdf:d.params.defaults=[])
  (call:∀(w:Ro) (s₀ s₁:Rf) (mg mb:Str->Option Q_) (fa:Ra) (o:Obj) (pm cd doc:Q_) (a:Ra) (vs:List Q_) (ns:List Int),
   Ground q loose [] XP w s₀ mg mb s₁.heap->YP w s₁.heap->
   s₁.heap.get? fa=some o->o.data=.func (docDef d.name d.params d.body d.scope pm cd doc)->s₁.heap.CodeRec cd d.name->mg d.name=some (.ref fa)->
   s₁.heap.get? a=some { cls:=.type "list",data:=.seq vs.toArray}->SF vs ns->ns.length<=n->s₁.gens=#[]->
   S7 (Rn l.prog w) Vx (.call (.ref fa) ⟨[.ref a],[]⟩) (λr s'=>r=.ok (.ret (.bool true))/\OldK s₁.heap s'.heap/\s'.os=s₁.os/\UA s'.gens) s₁) :
  WalkO q loose XP YP l.row.toRowW d [] (λf vs=>XY f vs):=by
 intro w s₀ s₁ mg mb G Y fa o pm cd doc dV kV ho hd hcd hD hmg hg args vals as hpre hlay hrd hwl hlo;obtain rfl:dV=.none:=Dflts.none hD hdf;obtain rfl:kV=.none:=Dflts.noKw hD;obtain⟨a,vs,ns,rfl,rfl,hobj,hints,hlen⟩:=A9 hn hpre hwl;refine enter_call (SH (call w s₀ s₁ mg mb fa o pm cd doc a vs ns G Y ho (fd_plain hd) hcd hmg hobj hints hlen hg) λr s' hq=>?_);obtain⟨rfl,h2,h3,h4⟩:=hq;exact⟨.inl ⟨.bool true,.bool true,[],rfl,λ_=>rfl,.bool true,Ae l _,λ_=>⟨N4,λ_ hm=>(nomatch hm)⟩⟩,h2,h3,h4⟩
section
variable{prog:Rj}{w:Ro}{A:Rw}{E:Q_->Rf->Prop}{s:Rf}{K:Frag}
noncomputable def ledger(h:Rq)(L d:Ra):List (Ra×Obj):=(p_ h.objs.size).filterMap λa=>if a=L\/a=d then none else(h.get? a).map λo=>(a,o)
end
end Att
namespace L2
open PySem PySem.Spec PyProof.Rows
theorem rP:∀{vs:List Q_}{ns:List Int},SF vs ns->Vals (ns.map V.int) vs
 | _,_,.nil=>.nil
 | _,_,.cons n t h=>.cons ⟨t,rfl⟩ (rP h)
noncomputable def HS(H:Hp):Prop:=∀b,H b=none\/∃o xs,H b=some (.frz o (.lst xs))
variable {fd:Rx}{x:Str}
theorem Bf{P:Rj}{w:Ro}{K:Rb}{mg mb:Str->Option Q_}{CX:CXT}{k:Nat}{fa a:Ra}{sp:Sp}{s₁:Rf}{vs:List Q_}{ns:List Int}
  (KX:K.In s₁.heap) (hns:s₁.heap.Ns R6 mg) (hb:s₁.heap.Ns Wo mb) (hbb:∀x:Str,x≠"__name__"->mb x=TR x) (hlim:s₁.heap.NoLimit) (hg:s₁.gens=#[])
  (ha:s₁.heap.get? a=some { cls:=.type "list",data:=.seq vs.toArray}) (hi:SF vs ns) (hl:ns.length<=sizeLine) (hr:Room k Vx)
  (F:∀base:Rq,K.In base->base.Ns R6 mg->FnOk P w K mg base CX k fa fd [x] sp) (hbind:∀(s:Rf) (u:Q_),V_ s fd ⟨[u],[]⟩ [(x,u)])
  (hsp:∀H:Hp,HS H->SqL K H a (ns.map V.int)->sp [.ref a] H (λv _=>v=.bl true) λ_ _ _=>False)
  (hCX:∀H e s',CX [] H s₁ (λ_ _ _=>False) e s'->False) :
  S7 (Rn P w) Vx (.call (.ref fa) ⟨[.ref a],[]⟩) (λr s'=>r=.ok (.ret (.bool true))/\OldK s₁.heap s'.heap/\s'.os=s₁.os/\UA s'.gens) s₁:=by
 have rv:=rP hi;have lenV:=hi.length;have core:∀H:Hp,HS H->SqL K H a (ns.map V.int)->HOk P w H s₁.heap->(∀b,H b≠none->b=a)->(H a≠none->K.lookup a=none)->
   S7 (Rn P w) Vx (.call (.ref fa) ⟨[.ref a],[]⟩) (λr s'=>r=.ok (.ret (.bool true))/\OldK s₁.heap s'.heap/\s'.os=s₁.os/\UA s'.gens) s₁:=by
  intro H hO hS hok hA hK;have base_of:∀{b:Ra}{o:Obj},s₁.heap.get? b=some o->H b=none->(sP s₁.heap H).get? b=some o:=λe n=>Dh e n;have noA:∀{b:Ra}{o:Obj}{es:Array Td}{ep:Nat},s₁.heap.get? b=some o->o.data=.dict es ep->H b=none:=λ{b o es ep} e d=>by
   cases q:H b with
   |none=>rfl
   |some u=>
    have e':b=a:=hA b (by rw[q];simp);subst e';rw[ha]at e;cases e;have d':YN vs.toArray _=Data.dict es ep:=d;cases d'
  have nsK:∀{b:Ra}{m:Str->Option Q_},s₁.heap.Ns b m->(sP s₁.heap H).Ns b m:=λ{b m} ⟨o,es,ep,e,d,r⟩=>⟨o,es,ep,base_of e (noA e d),d,r⟩;have hKb:K.In (sP s₁.heap H):=λb o e=>base_of (KX b o e) (by
   cases q:H b with
   |none=>rfl
   |some u=>
    have e':b=a:=hA b (by rw[q];simp);subst e';rw[hK (by rw[q];simp)]at e;cases e)
  have hM:Mod K mg (sP s₁.heap H):=⟨hKb,nsK hns,⟨mb,nsK hb,hbb⟩,let ⟨mc,h1,h2⟩:=hlim;⟨mc,nsK h1,h2⟩⟩;have e0:Env0 P w K mg (sP s₁.heap H) Vx [] s₁ H:=⟨rfl,hM,λb o e=>ED e,OW (A3 _ _),trivial,λb hb=>absurd (show b∈([]:List Ra)from hb) (by simp),hok,.of_eq hg⟩;refine SH ((F _ hKb (nsK hns)).run Vx [] s₁ H ⟨[.ref a],[]⟩ [.ref a] [.ref a] _ _ hr e0 (hbind s₁ (.ref a)) (.cons rfl .nil) (hsp H hO hS)) λr s' h=>?_;cases r with
  |error e=>exact(hCX H e s' h).elim
  |ok fl=>
   cases fl with
   |next=>exact Rt h
   |brk=>exact Rt h
   |cont=>exact Rt h
   |ret u=>
    obtain⟨v,H',os,bare,un,hok',r',q⟩:=h;have q':v=.bl true:=q;subst q';obtain rfl:u=Zo true:=r';refine⟨rfl,OldK.of_keep λb o e=>?_,os,bare⟩;cases q:H b with
    |none=>exact un.keep b o e q (by intro z;exact absurd (show b∈([]:List Ra)from z) (by simp)) (by simp)
    |some u=>
     rcases hO b with z|⟨ob,xs,z⟩
     ·rw[q]at z;cases z
     have z2:=un.frzs b ob _ z;obtain⟨e1,_⟩:=hok b _ z;obtain⟨e2,_⟩:=hok' b _ z2;rw[e]at e1;cases e1;exact e2
 cases hk:K.lookup a with
 |some o=>
  have e:=KX a o hk;rw[ha]at e;cases e;refine core (λ_=>none) (λ_=>.inl rfl) (.inr ⟨_,vs.toArray,_,hk,rfl,rfl,rfl,by rw[g_,lenV];exact hl,by simpa using rv⟩) (λb u z=>by have z':(none:Option HO)=some u:=z;cases z') (λb z=>absurd rfl z) λz=>absurd rfl z
 |none=>
  refine core (λb=>if b=a then some (.frz { cls:=.type "list",data:=.seq vs.toArray} (.lst (ns.map V.int)))else none) (λb=>?_) (.inl (.inr ⟨{ cls:=.type "list",data:=.seq vs.toArray},if_pos rfl⟩)) (λb u z=>?_) (λb z=>?_) λ_=>hk
  ·by_cases hb:b=a
   ·exact .inr ⟨_,_,if_pos hb⟩
   exact .inl (if_neg hb)
  ·by_cases hb:b=a
   ·have z':=(if_pos hb).symm.trans z;cases z';subst hb;exact⟨ha,by rw[a_];exact hl,vs,_,rv,ha⟩
   have z':=(if_neg hb).symm.trans z;cases z'
  by_cases hb:b=a
  ·exact hb
  exact absurd (if_neg hb) z
theorem Fi{l:VR}{n k:Nat}{q:Rj}{loose:List Str}{XP:(Str->Option Q_)->Rq->Prop}{YP:Ro->Rq->Prop}{d:DefRec}{K:VD->Rb}{CX:Ro->CXT}{sp:Ro->Sp}
  (hn:l.most=some n) (hn2:n<=sizeLine) (hdf:d.params.defaults=[]) (hr:Room k Vx)
  (hY:∀(w:Ro) (h:Rq),YP w h->(K w.params).In h)
  (F:∀(w:Ro) (mg:Str->Option Q_) (fa:Ra) (h:Rq),(K w.params).In h->h.Ns R6 mg->mg d.name=some (.ref fa)->
   ∃fd:Rx,(∀(s:Rf) (u:Q_),V_ s fd ⟨[u],[]⟩ [(x,u)])/\
    ∀base:Rq,(K w.params).In base->base.Ns R6 mg->FnOk l.prog w (K w.params) mg base (CX w) k fa fd [x] (sp w))
  (hsp:∀(w:Ro) (H:Hp) (a:Ra) (ns:List Int),ns.length<=n->HS H->SqL (K w.params) H a (ns.map V.int)->sp w [.ref a] H (λv _=>v=.bl true) λ_ _ _=>False)
  (hCX:∀(w:Ro) (H:Hp) (s:Rf) (e:Q_) (s':Rf),CX w [] H s (λ_ _ _=>False) e s'->False) :
  Yy q loose XP YP l.row.toRowW d [] (λf vs=>XY f vs):=by
 refine Att.wC hn hdf λw s₀ s₁ mg mb fa o pm cd doc a vs ns G Y ho hd hcd hmg hobj hints hlen hg=>?_;have KX:=hY w _ Y;obtain⟨fd,hb,hF⟩:=F w mg fa _ KX G.T.g hmg;exact Bf KX G.T.g G.T.b G.T.builtins G.T.nolimit hg hobj hints (G' hlen hn2) hr hF hb (λH hO hS=>hsp w H a ns hlen hO hS) λH e s'=>hCX w H s₁ e s'
noncomputable def jx(s:RG):Arguments:=match s with
 | .FunctionDef _ a _ _ _ _ _ _ _ _=>a
 | _=>{ posonlyargs:=[],args:=[],vararg:=none,kwonlyargs:=[],kw_defaults:=[],kwarg:=none,defaults:=[] }
noncomputable def iG(s:RG):List RG:=match s with
 | .FunctionDef _ _ b _ _ _ _ _ _ _=>b
 | _=>[]
noncomputable def av(s:RG):Se:=match s with
 | .FunctionDef _ _ _ _ _ _ sc _ _ _=>sc
 | _=>{ kind:=.function,names:=[],isGenerator:=false,isCoroutine:=false}
abbrev CX0:CXT:=λ_ _ _ _ _ _=>False
abbrev E0:XK:=λ_ _ _=>False
theorem L8{X:Cx}:Passes CX0 X E0:=λ_ _ _ _ _ _ _ h=>h.elim
structure Fun (K:Rb) (x qual:Str) (st:RG) (f:Ra) (fd:Rx):Prop where
 ex:∃(oc:Q_) (od:Option Ra) (kV doc pm:Q_) (an:Option Ra) (cdv ct:Q_) (osl:Array (Option Q_)),
  fd=Tb x qual (jx st) (iG st) (av st) .none kV doc pm an cdv ct/\K.lookup f=some ⟨oc,od,.func fd,osl⟩/\UW K cdv qual=true
 kp:Uj K (.ref f)=true
variable {f:Ra}{ps:List Str}{qual:Str}{st:RG}
section
variable{P:Rj}{w:Ro}{K:Rb}{mg:Str->Option Q_}{base:Rq}
theorem Fun.ok {N:List Str}{k:Nat}{sp:Sp}(F:Fun K x qual st f fd)(S:FnScope N ps (av st))(len:∀vs H Q E,sp vs H Q E->vs.length=ps.length)
  (hbody:∀(cdv:Q_) (A:Rw) (outer:List Env) (s:Rf) (H:Hp) (vs:List V) (Q:VK) (E:XK),Room k (A.deeper (UI qual (av st) s.heap.objs.size f cdv))->sp vs H Q E->
   ∃t,PSs (xK CX0 P w K mg base N qual (av st) f cdv A outer s H E).nox (iG st) t/\t { nx:=λ_ H'=>Q .non H',rt:=Q} (start N vs) H):FnOk P w K mg base CX0 (k+1) f fd ps sp:=by
 obtain⟨oc,od,kV,doc,pm,an,cdv,ct,osl,rfl,lk,hcd⟩:=F.ex;refine L9 lk hcd S len λA outer s H vs Q E hr hsp=>?_;obtain⟨t,h,q⟩:=hbody cdv A outer s H vs Q E hr hsp;exact⟨t,h.nox,q⟩
theorem Fun.binds (F:Fun K x qual st f fd)
  (h:∀(kV doc pm:Q_) (an:Option Ra) (cdv ct:Q_) (us:List Q_),us.length=ps.length->YL (Tb x qual (jx st) (iG st) (av st) .none kV doc pm an cdv ct) ⟨us,[]⟩=pure (ps.zip us)):Binds K fd ps []:=by
 obtain⟨oc,od,kV,doc,pm,an,cdv,ct,osl,rfl,lk,hcd⟩:=F.ex;exact .all (h kV doc pm an cdv ct)
theorem xk{oc:Q_}{od an:Option Ra}{osl:Array (Option Q_)}{kV doc pm cdv ct:Q_}(l:K.lookup f=some ⟨oc,od,.func (Tb x qual (jx st) (iG st) (av st) .none kV doc pm an cdv ct),osl⟩)
  (c:UW K cdv qual=true) (k:Uj K (.ref f)=true):Fun K x qual st f (Tb x qual (jx st) (iG st) (av st) .none kV doc pm an cdv ct):=⟨⟨oc,od,kV,doc,pm,an,cdv,ct,osl,rfl,l,c⟩,k⟩
end
theorem lU{A:Rw}{k:Nat}(hr:Room k A):A.units+1<cLine:=MC (OB (by decide:1<=64) _) hr.units
section
variable{X:Cx}
theorem pv(i:Nat){pos:Pos}(hN:X.N[i]?=some x:=by rfl)(hv:Vis X.env.scope x:=by first|exact f_ rfl|exact m_ (f_ rfl)|exact m_ (m_ rfl))(hd:(x ==("__debug__":Str))=false:=by decide)
  (hcd:(x ==("__classdict__":Str))=false:=by decide):PE X (.Name x pos) (CU i):=jq hN hv hd hcd
end
theorem LK{A B:Prop}(h:B):if false=true then A else B:=by rw[if_neg C_];exact h
theorem M0{A B:Prop}(h:A):if true=true then A else B:=by rw[if_pos rfl];exact h
noncomputable def dh(H H':Hp):Prop:=∀b o,H b=some o->H' b=some o
theorem dh.seq {K:Rb}{H H':Hp}{a:Ra}{xs:List V}(e:dh H H')(h:SqL K H a xs):SqL K H' a xs:=by
 rcases h with (h|⟨o,h⟩)|h
 ·exact .inl (.inl (e _ _ h))
 ·exact .inl (.inr ⟨o,e _ _ h⟩)
 exact .inr h
end L2
namespace ZG
open PySem
noncomputable def Sq(b:Bool)(h:Rq)(l:Ra)(xs:Array Q_):Prop:=match b with
 |true=>h.IsTuple l xs
 |false=>h.IsList l xs
noncomputable def Dr(b:Bool)(h:Rq)(i l:Ra)(k:Nat):Prop:=match b with
 |true=>h.IsTupleIter i l k
 |false=>h.IsListIter i l k
variable {b:Bool}{h h':Rq}{xs:Array Q_}
theorem Sq.ext {l c:Ra}(x:Sq b h l xs)(k:TJ c h h')(n:l≠c):Sq b h' l xs:=by
 cases b with
 |true=>exact Zy (show h.IsTuple l xs from x) k n
 |false=>exact ZH (show h.IsList l xs from x) k n
variable {i:Ra}
theorem Dr.ext {l c:Ra}{k:Nat}(x:Dr b h i l k)(e:TJ c h h')(n:i≠c):Dr b h' i l k:=by
 cases b with
 |true=>exact Y1 (show h.IsTupleIter i l k from x) e n
 |false=>exact Zb (show h.IsListIter i l k from x) e n
theorem Dr.some {b:Bool}{h:Rq}{i l:Ra}{k:Nat}(x:Dr b h i l k):∃o,h.get? i=some o/\∀v,o.data≠.cell v:=by
 cases b with
 |true=>obtain⟨o,e,_,d⟩:=(show h.IsTupleIter i l k from x);exact⟨o,e,λv z=>by rw[d]at z;cases z⟩
 |false=>obtain⟨o,e,_,d⟩:=(show h.IsListIter i l k from x);exact⟨o,e,λv z=>by rw[d]at z;cases z⟩
theorem Dr.at {l:Ra}{k:Nat}(x:Dr b h i l k)(e:∀o,h.get? i=Pa o->h'.get? i=Pa o):Dr b h' i l k:=by
 cases b with
 |true=>obtain⟨o,q,r⟩:=(show h.IsTupleIter i l k from x);exact⟨o,e o q,r⟩
 |false=>obtain⟨o,q,r⟩:=(show h.IsListIter i l k from x);exact⟨o,e o q,r⟩
theorem Sq.at {l:Ra}(x:Sq b h l xs)(e:∀o,h.get? l=Pa o->h'.get? l=Pa o):Sq b h' l xs:=by
 cases b with
 |true=>obtain⟨o,q,r⟩:=(show h.IsTuple l xs from x);exact⟨o,e o q,r⟩
 |false=>obtain⟨o,q,r⟩:=(show h.IsList l xs from x);exact⟨o,e o q,r⟩
variable {Q:Q_->Rf->Prop}{a:Q_}{b1 b2:Bool}{i1 i2 l1 l2 z:Ra}{ys:Array Q_}
section
variable{prog:Rj}{w:Ro}{A:Rw}{E:Q_->Rf->Prop}{s:Rf}
theorem EM{l:Ra}{k:Nat}{v:Q_}(d:s.heap.IsTupleIter i l k)(q:s.heap.IsTuple l xs)(hv:xs[k]?=some v)
  (r:∀g,g.IsTupleIter i l (k+1)->RN i s.heap g->Q v {s with heap:=g}):Rh (Rn prog w) A (RP (.ref i)) Q E s:=by
 obtain⟨oi,hoi,ci,di⟩:=id d;obtain⟨ol,hol,_,nl,dl⟩:=q;unfold RP;refine Q9 (RS (name:=SJ "__next__") d.typeIs To (RM To d.typeIs U7 ?_ (UZ _)));show Rh _ _ (Ww (.ref i) 0 >>= _) _ _ s;refine Q9 (Sd hoi di (x:=.ref l) rfl ?_);show Rh _ _ (if(Rz l == R0)=true then _ else _) _ _ s;rw[if_neg (show ¬((Rz l == R0)=true)from C_)];show Rh _ _ (Ww (.ref i) 1 >>= _) _ _ s;refine Q9 (Sd hoi di (x:=.int k 0) rfl ?_);show Rh _ _ (VS (.ref l) >>= _) _ _ s;refine Q9 (Su hol dl ?_);simp only[Mr,hv];refine Q9 (Sv hoi di (by simp) (Rc ⟨v,rfl,Rc (r _ ?_ (RD ..))⟩));exact⟨_,RR _ hoi (SU (RO di _)),(TM ..).trans ci,by rw[RO di];simp[R8]⟩
theorem IW{l:Ra}{k:Nat}(hh:A.handled=none)(d:s.heap.IsTupleIter i l k)(q:s.heap.IsTuple l xs)(hv:xs[k]?=none)
  (r:∀g e,TJ i s.heap g->(∃o,g.get? e=some o/\o.cls=.type "StopIteration")->E (.ref e) {s with heap:=g}):Rh (Rn prog w) A (RP (.ref i)) Q E s:=by
 obtain⟨oi,hoi,ci,di⟩:=id d;obtain⟨ol,hol,_,nl,dl⟩:=q;unfold RP;refine Q9 (RS (name:=SJ "__next__") d.typeIs To (RM To d.typeIs U7 ?_ (UZ _)));show Rh _ _ (Ww (.ref i) 0 >>= _) _ _ s;refine Q9 (Sd hoi di (x:=.ref l) rfl ?_);show Rh _ _ (if(Rz l == R0)=true then _ else _) _ _ s;rw[if_neg (show ¬((Rz l == R0)=true)from C_)];show Rh _ _ (Ww (.ref i) 1 >>= _) _ _ s;refine Q9 (Sd hoi di (x:=.int k 0) rfl ?_);show Rh _ _ (VS (.ref l) >>= _) _ _ s;refine Q9 (Su hol dl ?_);simp only[Mr,hv];refine Q9 (Ss (Q9 (Sv hoi di (by simp) ?_)));show Rh _ _ (VE (.type "StopIteration") [] >>= _) _ _ _;refine Q9 ?_;simp only[VE,Xw];refine Q9 (RA ?_ (by size_fits));refine Q9 (m:=S8 _ _) (T9 (a:=R0) (by first|rfl|(simp only[S8];rfl)) ?_);refine RA ?_ (by size_fits);simp only[Xx];refine Q9 (Vf ?_)
 first|rw[show A.in1.handled=none from hh]|rw[hh]
 refine Q9 (Rc (V4 ?_));exact r _ _ (((RD ..).extBut.push _).push _) ⟨_,Ri _ rfl,rfl⟩
theorem sX{l:Ra}{k:Nat}{v:Q_}(d:Dr b s.heap i l k)(q:Sq b s.heap l xs)(hv:xs[k]?=some v)
  (r:∀g,Dr b g i l (k+1)->RN i s.heap g->Q v {s with heap:=g}):Rh (Rn prog w) A (RP (.ref i)) Q E s:=by
 cases b with
 |true=>exact EM d q hv r
 |false=>exact wpAny_nextOf_list_item d q hv r
theorem BC{l:Ra}{k:Nat}(hh:A.handled=none)(d:Dr b s.heap i l k)(q:Sq b s.heap l xs)(hv:xs[k]?=none)
  (r:∀g e,TJ i s.heap g->(∃o,g.get? e=some o/\o.cls=.type "StopIteration")->E (.ref e) {s with heap:=g}):Rh (Rn prog w) A (RP (.ref i)) Q E s:=by
 cases b with
 |true=>exact IW hh d q hv r
 |false=>exact wpAny_nextOf_list_end hh d q hv r
structure Off (z TI TO i1 i2 l1 l2:Ra):Prop where
 a1:TI≠z
 a2:TO≠z
 a3:i1≠z
 a4:i2≠z
 a5:TI≠TO
 a6:TI≠i1
 a7:TI≠i2
 a8:TO≠i1
 a9:TO≠i2
 b1:i1≠i2
 c1:l1≠z
 c2:l1≠TO
 c3:l1≠i1
 c4:l1≠i2
 e1:l2≠z
 e2:l2≠TO
 e3:l2≠i1
 e4:l2≠i2
theorem K9{TI TO:Ra}{k:Nat}{x y b:Q_}(D:Off z TI TO i1 i2 l1 l2)
  (hz:TV s.heap z TI TO .none) (hi:SM s.heap TI (.ref i1) (.ref i2)) (ho:SM s.heap TO a b)
  (d1:Dr b1 s.heap i1 l1 k) (d2:Dr b2 s.heap i2 l2 k) (q1:Sq b1 s.heap l1 xs) (q2:Sq b2 s.heap l2 ys) (hx:xs[k]?=some x) (hy:ys[k]?=some y)
  (r:∀g,TV g z TI TO (R8 s.heap.objs.size)->SM g TO x y->Dr b1 g i1 l1 (k+1)->Dr b2 g i2 l2 (k+1)->SM g s.heap.objs.size x y->g.objs.size=s.heap.objs.size+1->
   (∀c o,c≠z->c≠TO->c≠i1->c≠i2->s.heap.get? c=some o->g.get? c=some o)->Q (.ref s.heap.objs.size) {s with heap:=g}) :
  Rh (Rn prog w) A (R9.«zip.__next__» ⟨[.ref z],[]⟩) (λfin s'=>∃v,fin=.done (.ret v)/\Q v s') E s:=by
 show Rh _ _ (Ww (.ref z) 2 >>= _) _ _ _;refine Q9 (Sd hz rfl (x:=.bool false) rfl ?_);show Rh _ _ (Ww (.ref z) 3 >>= _) _ _ _;refine Q9 (Sd hz rfl (x:=.ref TI) rfl (Q9 (Su hi rfl ?_)));show Rh _ _ (Sw (.ref z) >>= _) _ _ _;refine Q9 ?_;unfold Sw;refine Q9 (Sd hz rfl (x:=.none) rfl (Rc ?_));simp only[if_true];refine Q9 (Ss (Q9 (Sd hz rfl (x:=.ref TO) rfl (Q9 (Te hz (by simp) λg1 z1 s1=>?_)))));have z1:TV g1 z TI TO .ellipsis:=z1;refine Q9 ?_;simp only[Qf,Qr,O_,Pl];refine Q9 (Q9 (Vg ?_));show Rh _ _ (RP (.ref i1) >>= _) _ _ _;refine Q9 (sX (d1.ext s1.extBut D.a3) (q1.ext s1.extBut D.c1) hx λg2 w2 s2=>Rc ?_);have o2:SM g2 TO a b:=s2.extBut _ _ D.a8 (s1.extBut _ _ D.a2 ho);refine Q9 (Su o2 rfl (Q9 (UL o2 λg3 o3 s3=>?_)));have o3:SM g3 TO x b:=o3;refine Q9 (Uw (Rc (Q9 (Q9 (Vg ?_)))));show Rh _ _ (RP (.ref i2) >>= _) _ _ _;refine Q9 (sX (((d2.ext s1.extBut D.a4).ext s2.extBut D.b1.symm).ext s3.extBut D.a9.symm) (((q2.ext s1.extBut D.e1).ext s2.extBut D.e3).ext s3.extBut D.e2) hy λg4 w4 s4=>Rc ?_);have o4:SM g4 TO x b:=s4.extBut _ _ D.a9 o3;refine Q9 (Su o4 rfl (Q9 (UL o4 λg5 o5 s5=>?_)));have o5:SM g5 TO x y:=o5;refine Q9 (Uw (Rc (Rc (Q9 (Su o5 rfl (Q9 (Yj ?_)))))));have sz:g5.objs.size=s.heap.objs.size:=by rw[s5.1,s4.1,s3.1,s2.1,s1.1]
 have z5:TV g5 z TI TO .ellipsis:=s5.extBut _ _ D.a2.symm (s4.extBut _ _ D.a4.symm (s3.extBut _ _ D.a2.symm (s2.extBut _ _ D.a3.symm z1)));have k5:∀c o,c≠z->c≠TO->c≠i1->c≠i2->s.heap.get? c=some o->g5.get? c=some o:=λc o n1 n2 n3 n4 e=>
  s5.extBut _ _ n2 (s4.extBut _ _ n4 (s3.extBut _ _ n2 (s2.extBut _ _ n3 (s1.extBut _ _ n1 e))))
 have w15:Dr b1 g5 i1 l1 (k+1):=((w2.ext s3.extBut D.a8.symm).ext s4.extBut D.b1).ext s5.extBut D.a8.symm;have w25:Dr b2 g5 i2 l2 (k+1):=w4.ext s5.extBut D.a9.symm;have zlt:z<g5.objs.size:=Rm z5;show Rh _ _ (Ug (.ref z) (.ref g5.objs.size) >>= _) _ _ _;refine Q9 ?_;unfold Ug;have z6:TV (g5.push { cls:=.type "tuple",data:=.seq #[x,y] }) z TI TO .ellipsis:=Rg _ z5;refine Q9 (Te z6 (by simp) λg7 z7 s7=>?_);have z7:TV g7 z TI TO (R8 g5.objs.size):=z7;refine Te z7 (by simp) λg8 z8 s8=>?_
 have z8:TV g8 z TI TO (R8 g5.objs.size):=z8;have up:∀c o,c≠z->g5.get? c=some o->g8.get? c=some o:=λc o n e=>s8.extBut _ _ n (s7.extBut _ _ n (Rg _ e));have t8:SM g8 g5.objs.size x y:=s8.extBut _ _ (MY zlt) (s7.extBut _ _ (MY zlt) (Ri _ rfl));have e8:g8.objs.size=g5.objs.size+1:=by rw[s8.1,s7.1,RK]
 rw[sz]at z8 t8 e8;refine Rc ⟨_,rfl,?_⟩;show Q (.ref g5.objs.size) _;rw[sz];exact r g8 z8 (up _ _ D.a2 o5) (w15.at λo e=>up _ o D.a3 e) (w25.at λo e=>up _ o D.a4 e) t8 e8 λc o n1 n2 n3 n4 e=>up c o n1 (k5 c o n1 n2 n3 n4 e)
theorem zEnd{TI TO:Ra}{k:Nat}{b:Q_}{Q:Fin->Rf->Prop}(hh:A.handled=none)(D:Off z TI TO i1 i2 l1 l2)
  (hz:TV s.heap z TI TO .none) (hi:SM s.heap TI (.ref i1) (.ref i2)) (ho:SM s.heap TO a b)
  (d1:Dr b1 s.heap i1 l1 k) (d2:Dr b2 s.heap i2 l2 k) (q1:Sq b1 s.heap l1 xs) (q2:Sq b2 s.heap l2 ys) (hn:xs[k]?=none\/ys[k]?=none)
  (r:∀g e,(∀c o,c≠z->c≠TO->c≠i1->c≠i2->s.heap.get? c=some o->g.get? c=some o)->(∃o,g.get? e=some o/\o.cls=.type "StopIteration")->E (.ref e) {s with heap:=g}) :
  Rh (Rn prog w) A (R9.«zip.__next__» ⟨[.ref z],[]⟩) Q E s:=by
 show Rh _ _ (Ww (.ref z) 2 >>= _) _ _ _;refine Q9 (Sd hz rfl (x:=.bool false) rfl ?_);show Rh _ _ (Ww (.ref z) 3 >>= _) _ _ _;refine Q9 (Sd hz rfl (x:=.ref TI) rfl (Q9 (Su hi rfl ?_)));show Rh _ _ (Sw (.ref z) >>= _) _ _ _;refine Q9 ?_;unfold Sw;refine Q9 (Sd hz rfl (x:=.none) rfl (Rc ?_));simp only[if_true];refine Q9 (Ss (Q9 (Sd hz rfl (x:=.ref TO) rfl (Q9 (Te hz (by simp) λg1 z1 s1=>?_)))));have z1:TV g1 z TI TO .ellipsis:=z1;refine Q9 ?_;simp only[Qf,Qr,O_,Pl];refine Q9 (Q9 (Vg ?_));show Rh _ _ (RP (.ref i1) >>= _) _ _ _;cases hx:xs[k]? with
 |none=>
  refine Q9 (BC hh (d1.ext s1.extBut D.a3) (q1.ext s1.extBut D.c1) hx λg2 e s2 he=>?_);obtain⟨oe,hoe,ce⟩:=he;have z2:TV g2 z TI TO .ellipsis:=s2 _ _ D.a3.symm z1;have ne:e≠z:=λq=>by subst q;rw[z2]at hoe;cases hoe;simp at ce
  exact Te z2 (by simp) λg3 _ s3=>r g3 e (λc o n1 _ n3 _ q=>s3.extBut _ _ n1 (s2 _ _ n3 (s1.extBut _ _ n1 q))) ⟨oe,s3.extBut _ _ ne hoe,ce⟩
 |some x=>
  have hy:ys[k]?=none:=by
   rcases hn with h|h
   ·rw[hx]at h;cases h
   exact h
  refine Q9 (sX (d1.ext s1.extBut D.a3) (q1.ext s1.extBut D.c1) hx λg2 w2 s2=>Rc ?_);have o2:SM g2 TO a b:=s2.extBut _ _ D.a8 (s1.extBut _ _ D.a2 ho);refine Q9 (Su o2 rfl (Q9 (UL o2 λg3 o3 s3=>?_)));refine Q9 (Uw (Rc (Q9 (Q9 (Vg ?_)))));show Rh _ _ (RP (.ref i2) >>= _) _ _ _;refine Q9 (BC hh (((d2.ext s1.extBut D.a4).ext s2.extBut D.b1.symm).ext s3.extBut D.a9.symm) (((q2.ext s1.extBut D.e1).ext s2.extBut D.e3).ext s3.extBut D.e2) hy λg4 e s4 he=>?_);obtain⟨oe,hoe,ce⟩:=he;have z4:TV g4 z TI TO .ellipsis:=s4 _ _ D.a4.symm (s3.extBut _ _ D.a2.symm (s2.extBut _ _ D.a3.symm z1));have ne:e≠z:=λq=>by subst q;rw[z4]at hoe;cases hoe;simp at ce
  exact Te z4 (by simp) λg5 _ s5=>r g5 e (λc o n1 n2 n3 n4 q=>s5.extBut _ _ n1 (s4 _ _ n4 (s3.extBut _ _ n2 (s2.extBut _ _ n3 (s1.extBut _ _ n1 q))))) ⟨oe,s5.extBut _ _ ne hoe,ce⟩
theorem vo{TI TO:Ra}{k:Nat}{x y b:Q_}{Q:Option Q_->Rf->Prop}(D:Off z TI TO i1 i2 l1 l2)
  (hz:TV s.heap z TI TO .none) (hi:SM s.heap TI (.ref i1) (.ref i2)) (ho:SM s.heap TO a b)
  (d1:Dr b1 s.heap i1 l1 k) (d2:Dr b2 s.heap i2 l2 k) (q1:Sq b1 s.heap l1 xs) (q2:Sq b2 s.heap l2 ys) (hx:xs[k]?=some x) (hy:ys[k]?=some y)
  (r:∀g,TV g z TI TO (R8 s.heap.objs.size)->SM g TO x y->Dr b1 g i1 l1 (k+1)->Dr b2 g i2 l2 (k+1)->SM g s.heap.objs.size x y->g.objs.size=s.heap.objs.size+1->
   (∀c o,c≠z->c≠TO->c≠i1->c≠i2->s.heap.get? c=some o->g.get? c=some o)->Q (some (.ref s.heap.objs.size)) {s with heap:=g}) :
  Rh (Rn prog w) A (SQ (.ref z)) Q E s:=by
 have hT:s.TypeIs (.ref z) "zip":=⟨_,hz,rfl⟩;unfold SQ;refine Q9 (SN (RS (name:=SJ "__next__") hT UM (RM UM hT Xy ?_ (Xf _))));exact K9 D hz hi ho d1 d2 q1 q2 hx hy λg p1 p2 p3 p4 p5 p6 p7=>Rc (r g p1 p2 p3 p4 p5 p6 p7)
theorem xC{TI TO:Ra}{k:Nat}{b:Q_}{Q:Option Q_->Rf->Prop}(hh:A.handled=none)(D:Off z TI TO i1 i2 l1 l2)
  (hz:TV s.heap z TI TO .none) (hi:SM s.heap TI (.ref i1) (.ref i2)) (ho:SM s.heap TO a b)
  (d1:Dr b1 s.heap i1 l1 k) (d2:Dr b2 s.heap i2 l2 k) (q1:Sq b1 s.heap l1 xs) (q2:Sq b2 s.heap l2 ys) (hn:xs[k]?=none\/ys[k]?=none)
  (r:∀g,(∀c o,c≠z->c≠TO->c≠i1->c≠i2->s.heap.get? c=some o->g.get? c=some o)->Q none {s with heap:=g}):Rh (Rn prog w) A (SQ (.ref z)) Q E s:=by
 have hT:s.TypeIs (.ref z) "zip":=⟨_,hz,rfl⟩;unfold SQ;refine Q9 (SN (RS (name:=SJ "__next__") hT UM (RM UM hT Xy (zEnd hh D hz hi ho d1 d2 q1 q2 hn λg e k he=>?_) (Xf _))));obtain⟨o,he,hc⟩:=he;exact Q9 (Tw (T:="StopIteration") (b:=true) ⟨o,he,hc⟩ U0 (Rc (r _ k)))
end
noncomputable def nm(b:Bool):String:=if b=true then "tuple_iterator" else "list_iterator"
abbrev Z1(h:Rq)(b1:Bool)(l1:Ra):Rq:=h.push { cls:=.type (nm b1),data:=.fields #[.ref l1,.int 0 0] }
abbrev Z2(h:Rq)(b1 b2:Bool)(l1 l2:Ra):Rq:=(Z1 h b1 l1).push { cls:=.type (nm b2),data:=.fields #[.ref l2,.int 0 0] }
abbrev Z3(h:Rq)(b1 b2:Bool)(l1 l2:Ra):Rq:=(Z2 h b1 b2 l1 l2).push { cls:=.type "tuple",data:=.seq #[.ref h.objs.size,.ref (Z1 h b1 l1).objs.size] }
abbrev Z4(h:Rq)(b1 b2:Bool)(l1 l2:Ra):Rq:=(Z3 h b1 b2 l1 l2).push { cls:=.type "tuple",data:=.seq #[.none,.none] }
abbrev Z5(h:Rq)(b1 b2:Bool)(l1 l2:Ra):Rq:=(Z4 h b1 b2 l1 l2).push { cls:=.type "zip",data:=.fields #[.none,.bool false,.bool false,.ref (Z2 h b1 b2 l1 l2).objs.size,.ref (Z3 h b1 b2 l1 l2).objs.size] }
theorem Gj(b1 b2:Bool)(l1 l2:Ra)(xs ys:Array Q_) :
  Meets (R9.«zip.__new__» ⟨[.type "zip",.ref l1,.ref l2],[]⟩) (λ_ R s=>Sq b1 s.heap l1 xs/\Sq b2 s.heap l2 ys/\R (.ok (.ret (.ref (Z4 s.heap b1 b2 l1 l2).objs.size))) {s with heap:=Z5 s.heap b1 b2 l1 l2}):=
 .of_wp λprog w A R s h=>by
  obtain⟨hp,g,d,tk,os⟩:=s;obtain⟨q1,q2,h⟩:=h;have hsub:=sub_zip;cases b1 with
  |false=>
   have p1:Xp (T_ ⟨hp,g,d,tk,os⟩) l1 xs:=q1;cases b2 with
   |false=>
    have p2:Xp (T_ ⟨hp.push { cls:=.type "list_iterator",data:=.fields #[.ref l1,.int 0 0] },g,d,tk,os⟩) l2 ys:=Xz q2 _
    wp_walk using Sh p1,Sh p2
    exact⟨_,rfl,h⟩
   |true=>
    have p2:VF (T_ ⟨hp.push { cls:=.type "list_iterator",data:=.fields #[.ref l1,.int 0 0] },g,d,tk,os⟩) l2 ys:=Xg q2 _
    wp_walk using Sh p1,Sa p2
    exact⟨_,rfl,h⟩
  |true=>
   have p1:VF (T_ ⟨hp,g,d,tk,os⟩) l1 xs:=q1;cases b2 with
   |false=>
    have p2:Xp (T_ ⟨hp.push { cls:=.type "tuple_iterator",data:=.fields #[.ref l1,.int 0 0] },g,d,tk,os⟩) l2 ys:=Xz q2 _
    wp_walk using Sa p1,Sh p2
    exact⟨_,rfl,h⟩
   |true=>
    have p2:VF (T_ ⟨hp.push { cls:=.type "tuple_iterator",data:=.fields #[.ref l1,.int 0 0] },g,d,tk,os⟩) l2 ys:=Xg q2 _
    wp_walk using Sa p1,Sa p2
    exact⟨_,rfl,h⟩
section
variable{prog:Rj}{w:Ro}{A:Rw}{E:Q_->Rf->Prop}{s:Rf}
theorem DM(q1:Sq b1 s.heap l1 xs)(q2:Sq b2 s.heap l2 ys)
  (r:∀g,TV g (s.heap.objs.size+4) (s.heap.objs.size+2) (s.heap.objs.size+3) .none->SM g (s.heap.objs.size+2) (.ref s.heap.objs.size) (.ref (s.heap.objs.size+1))->SM g (s.heap.objs.size+3) .none .none->
    Dr b1 g s.heap.objs.size l1 0->Dr b2 g (s.heap.objs.size+1) l2 0->g.objs.size=s.heap.objs.size+5->(∀c o,s.heap.get? c=some o->g.get? c=some o)->Q (.ref (s.heap.objs.size+4)) {s with heap:=g}) :
  Rh (Rn prog w) A (call (.type "zip") [.ref l1,.ref l2]) Q E s:=by
 refine YO F.called_zip (by decide) (F.typeCall_zip_2 _ _) (F.newCall_zip_2 _ _) (λobj=>F.args_object_init_3 obj _ _) F.entry_zip_new (Gj b1 b2 l1 l2 xs ys) ⟨q1,q2,?_⟩;have z1:(Z1 s.heap b1 l1).objs.size=s.heap.objs.size+1:=RK ..;have z2:(Z2 s.heap b1 b2 l1 l2).objs.size=s.heap.objs.size+2:=by rw[RK,z1]
 have z3:(Z3 s.heap b1 b2 l1 l2).objs.size=s.heap.objs.size+3:=by rw[RK,z2]
 have z4:(Z4 s.heap b1 b2 l1 l2).objs.size=s.heap.objs.size+4:=by rw[RK,z3]
 have z5:(Z5 s.heap b1 b2 l1 l2).objs.size=s.heap.objs.size+5:=by rw[RK,z4]
 have u5:∀c o,(Z4 s.heap b1 b2 l1 l2).get? c=some o->(Z5 s.heap b1 b2 l1 l2).get? c=some o:=λc o e=>Rg _ e;have u4:∀c o,(Z3 s.heap b1 b2 l1 l2).get? c=some o->(Z5 s.heap b1 b2 l1 l2).get? c=some o:=λc o e=>u5 c o (Rg _ e);have u3:∀c o,(Z2 s.heap b1 b2 l1 l2).get? c=some o->(Z5 s.heap b1 b2 l1 l2).get? c=some o:=λc o e=>u4 c o (Rg _ e);have u2:∀c o,(Z1 s.heap b1 l1).get? c=some o->(Z5 s.heap b1 b2 l1 l2).get? c=some o:=λc o e=>u3 c o (Rg _ e);have g5:(Z5 s.heap b1 b2 l1 l2).get? (Z4 s.heap b1 b2 l1 l2).objs.size=some _:=Ri _ rfl;have g4:=u5 (Z3 s.heap b1 b2 l1 l2).objs.size _ (Ri _ rfl);have g3:=u4 (Z2 s.heap b1 b2 l1 l2).objs.size _ (Ri _ rfl);have g2:=u3 (Z1 s.heap b1 l1).objs.size _ (Ri _ rfl);have g1:=u2 s.heap.objs.size _ (Ri _ rfl);show _/\_;rw[z2,z3,z4]at g5;rw[z1,z2]at g3;rw[z3]at g4;rw[z1]at g2;rw[z4];refine⟨⟨_,g5,rfl⟩,r _ g5 g3 g4 ?_ ?_ z5 λc o e=>u2 c o (Rg _ e)⟩
 ·cases b1 with
  |true=>exact⟨_,g1,rfl,rfl⟩
  |false=>exact⟨_,g1,rfl,rfl⟩
 cases b2 with
 |true=>exact⟨_,g2,rfl,rfl⟩
 |false=>exact⟨_,g2,rfl,rfl⟩
end
end ZG
namespace L2
open PySem PySem.Spec PyProof.Rows
noncomputable def jn(env:Env):List (Str×Tt)->List (Str×Ra)->List (Str×Ra)
 | [],cs=>cs
 |x::r,cs=>jn env r (if(x.2 == SO)=true then(x.1,(env.cells.lookup x.1).getD 0)::cs else cs)
theorem qE{env:Env}(f:Str×Tt->List (Str×Ra)->Sem (ForInStep (List (Str×Ra))))(hf:∀n k cs,f (n,k) cs=if(k == SO)=true then(do let a <-cellOf env n;pure (Si ((n,a)::cs)))else pure (Si cs)) :
  ∀(names:List (Str×Tt)) (cs:List (Str×Ra)),(∀x∈names,x.2=.free->∃c,env.cells.lookup x.1=some c)->forIn names cs f=pure (jn env names cs)
 | [],cs,_=>by rw[Pl];rfl
 | (n,k)::r,cs,h=>by
  rw[O_,hf];have hr:∀x∈r,x.2=.free->∃c,env.cells.lookup x.1=some c:=λx hx=>h x (j_ _ hx);by_cases e:(k == SO)=true
  ·obtain⟨c,hc⟩:=h (n,k) t_ (by simpa using e);have hc':env.cells.lookup n=some c:=hc;rw[if_pos e];have q:cellOf env n=pure c:=by unfold cellOf;rw[hc']
   rw[q,pure_bind,pure_bind];show forIn r ((n,c)::cs) f=pure (jn env ((n,k)::r) cs);rw[qE f hf r _ hr];unfold jn;rw[if_pos e,hc'];cases r <;> rfl
  rw[if_neg e,pure_bind];show forIn r cs f=pure (jn env ((n,k)::r) cs);rw[qE f hf r _ hr]
  conv=>rhs;unfold jn
  rw[if_neg e]
variable {sc:Se}
theorem qu{env:Env}(h:∀x∈sc.names,x.2=.free->∃c,env.cells.lookup x.1=some c):closureFor sc env=pure (jn env sc.names []):=by
 unfold closureFor;show(forIn sc.names [] _ >>= λcs=>pure cs)=_;rw[qE (env:=env) _ (λn k cs=>by cases e:k == SO <;> simp[e]) sc.names [] h]
 rfl
theorem wo{env:Env}:∀{names:List (Str×Tt)}{cs:List (Str×Ra)}{x:Str}{c:Ra},(∀y∈names,y.2=.free->∃c,env.cells.lookup y.1=some c)->(jn env names cs).lookup x=some c->
  (env.cells.lookup x=some c/\(x,SO)∈names)\/cs.lookup x=some c
 | [],cs,x,c,_,h=>.inr h
 | (n,k)::r,cs,x,c,hn,h=>by
  unfold jn at h;have hr:∀y∈r,y.2=.free->∃c,env.cells.lookup y.1=some c:=λy hy=>hn y (j_ _ hy);have hh:=wo hr h;clear h;rcases hh with⟨h1,h2⟩|h
  ·exact .inl ⟨h1,j_ _ h2⟩
  by_cases e:(k == SO)=true
  ·rw[if_pos e]at h;obtain⟨c',hc⟩:=hn (n,k) t_ (by simpa using e);have hc':env.cells.lookup n=some c':=hc;rw[hc',NH]at h;by_cases ex:(x == n)=true
   ·rw[ex]at h;have ex':x=n:=by simpa using ex
    have ek:k=SO:=by simpa using e
    subst ex' ek;have h':c'=c:=H_ h;subst h';exact .inl ⟨hc',t_⟩
   have ex':(x == n)=false:=by simpa using ex
   rw[ex']at h;exact .inr h
  rw[if_neg e]at h;exact .inr h
theorem vV{env:Env}:∀{names:List (Str×Tt)}{cs:List (Str×Ra)}{x:Str}{c:Ra},(∀y∈names,y.2=.free->∃c,env.cells.lookup y.1=some c)->env.cells.lookup x=some c->cs.lookup x=some c->(jn env names cs).lookup x=some c
 | [],cs,x,c,_,_,h=>h
 | (n,k)::r,cs,x,c,hn,he,h=>by
  unfold jn;refine vV (λy hy=>hn y (j_ _ hy)) he ?_;by_cases e:(k == SO)=true
  ·rw[if_pos e,NH];by_cases ex:(x == n)=true
   ·rw[ex];have ex':x=n:=by simpa using ex
    subst ex';show some ((env.cells.lookup x).getD 0)=some c;rw[he];rfl
   have ex':(x == n)=false:=by simpa using ex
   rw[ex'];exact h
  rw[if_neg e];exact h
theorem tW{env:Env}:∀{names:List (Str×Tt)}{cs:List (Str×Ra)}{x:Str}{c:Ra},(∀y∈names,y.2=.free->∃c,env.cells.lookup y.1=some c)->env.cells.lookup x=some c->(x,SO)∈names->(jn env names cs).lookup x=some c
 | (n,k)::r,cs,x,c,hn,he,hm=>by
  have hr:∀y∈r,y.2=.free->∃c,env.cells.lookup y.1=some c:=λy hy=>hn y (j_ _ hy);unfold jn;rcases i_.mp hm with e|hm
  ·obtain⟨rfl,rfl⟩:=Prod.mk.inj e;rw[if_pos (by rfl)];refine vV hr he ?_;rw[NH,beq_self_eq_true];show some ((env.cells.lookup x).getD 0)=some c;rw[he];rfl
  exact tW hr he hm
noncomputable def qy(env:Env)(sc:Se):Se:={sc with names:=sc.names.map λx=>if(x.2 == .free&&env.scope.kind == .function&&env.kindOf x.1 == some .cell)=true then(x.1,.cell)else(x.1,x.2) }
theorem nA{f:Str×Tt->Bool}(x:Str):∀names:List (Str×Tt),(names.map λy=>if f y=true then(y.1,Z_)else(y.1,y.2)).lookup x=(names.lookup x).map λk=>if f (x,k)=true then .cell else k
 | []=>rfl
 | (n,k)::r=>by
  rw[d_];by_cases ex:(x == n)=true
  ·have ex':x=n:=by simpa using ex
   subst ex';cases e:f (x,k) <;> simp[e,NH]
  have ex':(x == n)=false:=by simpa using ex
  have ih:=nA (f:=f) x r;cases e:f (n,k) <;> simp only[e,if_true,if_false,I_,NH,ex',ih]
theorem mM(env:Env)(sc:Se)(x:Str):(qy env sc).names.lookup x=(sc.names.lookup x).map λk=>if(k == .free&&env.scope.kind == .function&&env.kindOf x == some .cell)=true then .cell else k:=
 nA (f:=λy=>(y.2 == .free&&env.scope.kind == .function&&env.kindOf y.1 == some .cell)) x sc.names
def compEnv(env:Env)(sc:Se)(L:Ra):Env:={ newEnv sc L env.globals (jn env sc.names []) env.qual none .none (some env) Wo with scope:=qy env sc}
variable {Q:Q_->Rf->Prop}{e:Rr}{first newAcc:Sem Q_}{gs:List Vh}{pos:Pos}{scope:Se}
section
variable{M:Ui}{A:Rw}{E:Q_->Rf->Prop}{s:Rf}{env:Env}
theorem nL{g:Vh}
  (hcl:clausesOf e=g::gs) (hs:∀x,Sb g.iter env x=pure x)
  (hc:∀x∈scope.names,x.2≠.cell) (hfr:∀x∈scope.names,x.2=.free->∃c,env.cells.lookup x.1=some c) (hkind:scope.kind=.function) (hnames:∀x∈scope.names,x.2=.local->scope.names.lookup x.1=some .local)
  (h:Rh M A first (λx s₁=>Rh M A (Ut x) (λit s₂=>Rh M A newAcc (λacc s₃=>
   ∀h4,h4.Ns s₃.heap.objs.size (λ_=>none)->(∀b o,s₃.heap.get? b=some o->h4.get? b=some o)->
    S7 M A (.compStart e 0 it acc (compEnv env scope s₃.heap.objs.size)) (λr s'=>∃m,s'.heap.Ns s₃.heap.objs.size m/\∀h',RN s₃.heap.objs.size s'.heap h'->
     match r with | .ok _=>Q acc {s' with heap:=h'} | .error x=>False) { s₃ with heap:=h4}) E s₂) E s₁) E s) :
  Rh M A (Uy e scope env pos newAcc false first) Q E s:=by
 unfold Uy;rw[qu hfr,hcl];refine Q9 (RL h (λx s₁ h₁=>Q9 (TH (Q9 (T9 (hs x) (Q9 (Ry (RL h₁ (λit s₂ h₂=>
  Yz (Q9 (RL h₂ (λacc s₃ h₃=>Q9 (Rc (Q9 ?_))) λ_ _ h'=>h')))
   λ_ _ h'=>h'))))))) λ_ _ h'=>h')
 refine Wx hc (λx hx=>nomatch hx) (λh4 hn4 hs4=>?_) hkind;have h₄:=h₃ h4 hn4 λb o e=>hs4.extBut b o (s_ (Rm e)) (Rg _ e);dsimp only;have hv:∀x∈(scope.names.filter λx=>(x.2 == .local || x.2 == .cell)&&x.1 !=(".0":Str)).reverse,x.2=.local->
   XZ (compEnv env scope s₃.heap.objs.size) x.1=some .local:=λx hx hl=>by
  show(qy env scope).names.lookup x.1=some .local;rw[mM,hnames x (Mf.mp (NI.mp hx)).1 hl]
  rfl
 refine Ry (Q9 (SN (Ry (wpAny_run (SH h₄ λr s' hr=>?_)))));obtain⟨m,hn,hr⟩:=hr;cases r with
 |ok f=>exact Q9 (Ry (XA (cenv:=compEnv env scope s₃.heap.objs.size) hkind _ s' m hv hn λh' m' _ hs'=>Rc (hr h' hs')))
 |error x=>exact(hr s'.heap (.refl ..)).elim
end
variable {elt iter target:Rr}{ifs:List Rr}
section
variable{prog:Rj}{w:Ro}{A:Rw}{R:WY->Rf->Prop}{s:Rf}
theorem oX{it acc:Q_}{env:Env}(I:Nat->Rf->Prop)
  (turn:∀n s,I n s->Rh (Rn prog w) A (SQ it) (λr s₁=>match r with
   |none=>R (.ok .next) s₁
   |some v=>Rh (Rn prog w) A (UH target it v) (λ_ s₁'=>Rh (Rn prog w) A (Uc target env v) (λ_ s₂=>
     Rh (Rn prog w) A (forIn ifs true λc r=>if r=true then do let ok <-WT c env (RF c env);pure (Si ok)else pure (Si r)) (λok s₃=>
      if ok=true then Rh (Rn prog w) A (RF elt env) (λx s₄=>
       Rh (Rn prog w) A (call (.builtin "list.append") [acc,x]) (λ_ s₅=>∃m,m<n/\I m s₅) (λ_ _=>False) s₄) (λ_ _=>False) s₃
      else ∃m,m<n/\I m s₃) (λ_ _=>False) s₂) (λ_ _=>False) s₁') (λ_ _=>False) s₁) (λ_ _=>False) s)
  (n:Nat) (h:I n s) :
  S7 (Rn prog w) A (.compLoop (.ListComp elt [⟨target,iter,ifs,0⟩] scope pos) 0 it acc env) R s:=by
 refine codeAny_loop rfl I (λn s hI=>?_) n h;show Rh _ A ((compTurn (.ListComp elt [⟨target,iter,ifs,0⟩] scope pos) 0 it acc env).onRaise (λx=>do noteFrame x env;theTreesLotGoes x)) _ _ s;refine wpAny_noted ?_;rw[compTurn_list];refine Q9 (TH (Q9 (RL (turn n s hI) (λr s₁ h₁=>?_) λ_ _ h'=>h'.elim)));cases r with
 |none=>exact Rc h₁
 |some v=>
  refine Q9 (RL h₁ (λ_ s₁' h₁'=>?_) λ_ _ h'=>h'.elim);refine Q9 (RL h₁' (λ_ s₂ h₂=>Q9 (RL h₂ (λok s₃ h₃=>?_) λ_ _ h'=>h'.elim)) λ_ _ h'=>h'.elim);cases ok with
  |false=>exact Rc ⟨rfl,h₃⟩
  |true=>
   exact Q9 (Q9 (RL h₃ (λx s₄ h₄=>Q9 (RL h₄ (λ_ s₅ h₅=>Rc (Rc ⟨rfl,h₅⟩)) λ_ _ h'=>h'.elim)) λ_ _ h'=>h'.elim))
end
def bg(X:Cx)(N':List Str)(sc:Se)(s3:Rf)(H3:Hp)(fp:List Ra):Cx where
 prog:=X.prog
 w:=X.w
 K:=X.K
 mg:=X.mg
 base:=X.base
 A:=X.A
 N:=N'
 s₀:=s3
 H₀:=H3
 env:=compEnv X.env sc s3.heap.objs.size
 outer:=X.stack
 stack:=X.stack
 ex:=fp
 calm:=true
 fn:=λ_=>false
 pn:=[]
 xe:=λ_ _=>False
noncomputable def kY(N:List Str)(esc sc:Se)(N':List Str)(fr:List (Option Nat)):Bool:=
 sc.kind == .function&&esc.kind == .function
 && sc.names.all (λy=>(y.2 != .cell)&&(y.2 != .free || esc.names.lookup y.1 == some .cell)&&(y.2 != .local || sc.names.lookup y.1 == some .local))
 && fr.length == N'.length
 && (p_ N'.length).all (λi=>match fr[i]? with
  |some (some j)=>match N'[i]? with
   |some x=>N[j]? == some x&&sc.names.lookup x == some .free
   |none=>false
  | _=>true)
structure CompOk (N:List Str) (esc sc:Se) (N':List Str) (fr:List (Option Nat)):Prop where
 kind:sc.kind=.function
 ekind:esc.kind=.function
 nocell:∀x∈sc.names,x.2≠.cell
 free:∀x∈sc.names,x.2=.free->esc.names.lookup x.1=some .cell
 names:∀x∈sc.names,x.2=.local->sc.names.lookup x.1=some .local
 len:fr.length=N'.length
 at_:∀(i j:Nat) (x:Str),fr[i]?=some (some j)->N'[i]?=some x->N[j]?=some x/\sc.names.lookup x=some .free
variable {N N':List Str}{esc:Se}{fr:List (Option Nat)}
theorem rB(h:kY N esc sc N' fr=true):CompOk N esc sc N' fr:=by
 unfold kY at h;simp only[K_,beq_iff_eq,Mk,mo]at h;obtain⟨⟨⟨⟨h1,h2⟩,h3⟩,h4⟩,h5⟩:=h;refine⟨h1,h2,λx hx=>?_,λx hx e=>?_,λx hx e=>?_,h4,λi j x e1 e2=>?_⟩
 ·have:=(h3 x hx).1.1;simpa using this
 ·have:=(h3 x hx).1.2;rw[e]at this;simpa using this
 ·have:=(h3 x hx).2;rw[e]at this;simpa using this
 have hi:i<N'.length:=(e_.mp e2).1;have q:=h5 i hi;rw[e1,e2]at q;simpa using q
noncomputable def i8(fr:List (Option Nat))(σ:St):St:=fr.map λo=>match o with
 |some j=>(σ[j]?).join
 |none=>none
variable {X:Cx}
theorem vq{ac:List (Ra×Obj)}{σ:St}{H3:Hp}{s3:Rf}{fp:List Ra}{h4:Rq}(I:Inv X ac σ H3 s3)(C:CompOk X.N X.env.scope sc N' fr)(hc:X.calm=true)
  (hfp:∀b∈fp,mN X ac H3 b) (hfo:∀b∈fp,∃o,s3.heap.get? b=some o) (hn:h4.Ns s3.heap.objs.size (λ_=>none)) (hk:∀b o,s3.heap.get? b=some o->h4.get? b=some o) :
  Inv (bg X N' sc s3 H3 fp) [] (i8 fr σ) H3 {s3 with heap:=h4}:=by
 have hfr:∀x∈sc.names,x.2=.free->∃c,X.env.cells.lookup x.1=some c:=λx hx e=>I.ok.has x.1 (.inl (C.free x hx e));have clo:∀{x c},(jn X.env sc.names []).lookup x=some c->X.env.cells.lookup x=some c:=λ{x c} e=>by
  rcases wo hfr e with⟨h1,_⟩|h
  ·exact h1
  cases h
 have nfs:∀b∈fp,b ∉ frs X.stack:=λb hb z=>by
  obtain⟨_,h1,h2,_⟩:=hfp b hb;rcases i_.mp (I.wW b z)with e|e
  ·exact h1 e
  exact h2 e
 have hfresh:H3 s3.heap.objs.size=none:=I.hok.fresh (c_ _);refine⟨⟨I.ok.mod,C.kind,I.ok.glob,I.ok.blt,c_ _,λx y c e1 e2=>I.ok.inj x y c (clo e1) (clo e2),λx hx=>?_,λx c z=>(nomatch z),λ_=>I.ok.hd hc,I.ok.frames,.inl rfl,λb hb=>⟨?_,λx c e=>?_⟩,λb o e=>I.bs b o e,G' I.ok.bsz I.sz,λb o e hb=>?_,nfs,I.stack,I.yX⟩,
  rfl,I.bare,Un.kept hk,⟨_,hn,λi x v e1 e2 e3=>?_⟩,λx c e=>?_,hfresh,λx c e=>I.freeC x c (clo e),λp hp=>(nomatch hp),I.hok.kept hk,?_⟩
 ·have hx:(qy X.env sc).names.lookup x=some .cell\/(qy X.env sc).names.lookup x=some .free:=hx;rw[mM]at hx;cases e:sc.names.lookup x with
  |none=>rw[e]at hx;rcases hx with z|z <;> cases z
  |some k=>
   have hm:(x,k)∈sc.names:=SE e;have hk:k=.free:=by
    rw[e]at hx;cases k with
    |free=>rfl
    |cell=>exact absurd rfl (C.nocell _ hm)
    | _=>rcases hx with z|z <;>(simp at z)
   subst hk;obtain⟨c,hc'⟩:=hfr _ hm rfl;exact⟨c,tW hfr hc' hm⟩
 ·obtain⟨o,ho⟩:=hfo b hb;exact s_ (Rm ho)
 ·exact(hfp b hb).2.2.2.2.1 x c (clo e)
 ·obtain⟨e1,_⟩:=I.ok.bs b o e;rcases(hfp b hb).2.2.2.1 with z|z
  ·exact I.ok.noex b o e z
  exact absurd (A' (Rm e1) z) (MW _)
 ·have e2:(i8 fr σ)[i]?=some (some v):=e2;unfold i8 at e2;rw[o_]at e2;cases ef:fr[i]? with
  |none=>rw[ef]at e2;cases e2
  |some o=>
   rw[ef]at e2;cases o with
   |none=>cases e2
   |some j=>
    have e2':(σ[j]?).join=some v:=by simpa using e2
    have e2'':σ[j]?=some (some v):=by
     cases q:σ[j]? with
     |none=>rw[q]at e2';cases e2'
     |some z=>rw[q]at e2';exact congrArg some e2'
    obtain⟨hN,hfrx⟩:=C.at_ i j x ef e1;have hm:(x,SO)∈sc.names:=SE hfrx;have hcell:=C.free _ hm rfl;obtain⟨m,_,hl⟩:=I.loc;obtain⟨u,r,l⟩:=hl j x v hN e2'' (.inr (.inl hcell));refine⟨u,r,.inr ⟨.inl ?_,?_⟩⟩
    ·show(qy X.env sc).names.lookup x=some .cell;rw[mM,hfrx];have h1:X.env.kindOf x=some .cell:=hcell;have h2:X.env.scope.kind=.function:=C.ekind;simp[h1,h2]
    rcases l with⟨k,_⟩|⟨_,c,ec,ic⟩
    ·have h1:X.env.kindOf x=some .cell:=hcell;rw[h1]at k;cases k
    obtain⟨o,ho,hd⟩:=ic;exact⟨c,tW hfr ec hm,o,hk c o ho,hd⟩
 ·obtain⟨v,o,ho,hd⟩:=I.cell x c (clo e);exact⟨v,o,hk c o ho,hd⟩
 unfold i8;rw[a_];exact C.len
def PTs(X:Cx)(ifs:List Rr)(t:TT):Prop:=
 ∀(ac:List (Ra×Obj)) (s:Rf) (σ:St) (H:Hp) (Q:Bool->Hp->Prop),Inv X ac σ H s->t σ H Q->
  Rh (Rn X.prog X.w) X.A (forIn ifs true λc r=>if r=true then do let ok <-WT c X.env (RF c X.env);pure (Si ok)else pure (Si r)) (TP X ac σ Q) X.xe s
noncomputable def Mb:TT:=λ_ H Q=>Q true H
theorem F5:PTs X [] Mb:=λac s σ H Q I h=>wpAny_tests_nil ⟨H,I,h⟩
theorem FW{c:Rr}{t:TT}(h:PT X c t):PTs X [c] t:=λac s σ H Q I q=>wpAny_tests_one (h ac s σ H Q I q)
def JG(J:It)(fr:List (Option Nat))(g:Rf->Hp->List Ra->TG)(tt:Rf->Hp->List Ra->TT)(te:Rf->Hp->List Ra->TE)(σ:St)(H1:Hp)(Q:VK):Prop:=∀p,H1 p=none->∀s3 H3' fp,∃W:Nat->Nat->St->Hp->Prop,(∃m,W 0 m (i8 fr σ) (upd H1 p (.lst [])))/\∀i m f8 H',W i m f8 H'->
 (J.stop i H'/\Q (.ref p) H')\/(J.go i H'/\∀x H2,J.yld i H' x H2->g s3 H3' fp x f8 H2 λσ2 H3=>tt s3 H3' fp σ2 H3 λb H4=>
  if b=true then te s3 H3' fp σ2 H4 λv H5=>∃ys,H5 p=some (.lst ys)/\ys.length<sizeLine/\∃m',m'<m/\W (i+1) m' σ2 (upd H5 p (.lst (ys++[v])))else ∃m',m'<m/\W (i+1) m' σ2 H4)
def yA(wi:TI)(fr:List (Option Nat))(g:Rf->Hp->List Ra->TG)(tt:Rf->Hp->List Ra->TT)(te:Rf->Hp->List Ra->TE):TE:=λσ H Q=>wi σ H λJ H1=>JG J fr g tt te σ H1 Q
variable {g:Rf->Hp->List Ra->TG}{te:Rf->Hp->List Ra->TE}{tt:Rf->Hp->List Ra->TT}{wi:TI}
theorem Gk(N':List Str)(fr:List (Option Nat))(hc:X.calm=true)(C:kY X.N X.env.scope sc N' fr=true)
  (hi:PI X target iter wi) (hg:∀s3 H3 fp,PG (bg X N' sc s3 H3 fp) target (g s3 H3 fp)) (ht:∀s3 H3 fp,PTs (bg X N' sc s3 H3 fp) ifs (tt s3 H3 fp)) (he:∀s3 H3 fp,PE (bg X N' sc s3 H3 fp) elt (te s3 H3 fp))
  (hs:∀x,Sb iter X.env x=pure x:=by intro _;rfl):PE X (.ListComp elt [⟨target,iter,ifs,0⟩] sc pos) (yA wi fr g tt te):=by
 have C:=rB C;intro ac s σ H Q I h;rw[eval_ListComp];have hfr:∀x∈sc.names,x.2=.free->∃c,X.env.cells.lookup x.1=some c:=λx hx e=>I.ok.has x.1 (.inl (C.free x hx e));refine nL (g:=⟨target,iter,ifs,0⟩) (gs:=[]) rfl hs C.nocell hfr C.kind C.names ?_;show Rh _ _ (RF iter X.env) _ _ s;refine thn (hi ac s σ H _ I h) λv s1 h1=>thn h1 λitv s2 h2=>?_;obtain⟨it,fp,tn,J,H2,e,I2,T,jp,f2,k2⟩:=h2;subst e;refine T5 ?_ (by show 0<=sizeLine;decide);have hf:H2 s2.heap.objs.size=none:=I2.hok.fresh (c_ _);obtain⟨W,⟨m0,w0⟩,turn⟩:=k2 _ hf {s2 with heap:=s2.heap.push { cls:=.type "list",data:=.seq ([]:List Q_).toArray} } (upd H2 s2.heap.objs.size (.lst [])) fp;have kp:∀b u,s2.heap.get? b=some u->(s2.heap.push { cls:=.type "list",data:=.seq ([]:List Q_).toArray}).get? b=some u:=λb u e=>Rg _ e;have I3:Inv X ac σ (upd H2 s2.heap.objs.size (.lst [])) {s2 with heap:=s2.heap.push { cls:=.type "list",data:=.seq ([]:List Q_).toArray} }:=
  I2.laid (t':=s2.toks) kp (c_ _) ⟨Me _,[],0,.nil,Ri _ rfl⟩
 have obj2:=T.obj 0 s2.heap jp;have fpne:∀b∈fp,b≠s2.heap.objs.size:=λb hb=>by obtain⟨o,ho,_⟩:=obj2 b hb;exact s_ (Rm ho)
 have f3:∀b∈fp,mN X ac (upd H2 s2.heap.objs.size (.lst [])) b:=λb hb=>⟨by rw[aH (fpne b hb)];exact(f2 b hb).1,(f2 b hb).2⟩
 have kw:=T.keep 0 s2.heap _ jp λb hb o e=>kp b o e;have obj3:=T.obj 0 _ kw;intro h4 hn4 hk4;have st4:=T.keep 0 _ h4 kw λb hb o e=>hk4 b o e;have I4:=vq (N':=N') (fr:=fr) (fp:=fp) I3 C hc f3 (λb hb=>let ⟨o,ho,_⟩:=obj3 b hb;⟨o,ho⟩) hn4 hk4;have stat:∀{H':Hp},(∀b∈fp,H' b=none)->∀b∈fp,mN (bg X N' sc {s2 with heap:=s2.heap.push { cls:=.type "list",data:=.seq ([]:List Q_).toArray} } (upd H2 s2.heap.objs.size (.lst [])) fp) [] H' b:=λhn b hb=>
  ⟨hn b hb,(I4.ok.exf b hb).1,I4.ok.exfs b hb,.inl hb,(I4.ok.exf b hb).2,λp hp=>(nomatch hp)⟩
 have loop:S7 (Rn X.prog X.w) X.A (.compLoop (.ListComp elt [⟨target,iter,ifs,0⟩] sc pos) 0 (.ref it) (.ref s2.heap.objs.size) (compEnv X.env sc (s2.heap.push { cls:=.type "list",data:=.seq ([]:List Q_).toArray}).objs.size))
   (λr s'=>∃m,s'.heap.Ns (s2.heap.push { cls:=.type "list",data:=.seq ([]:List Q_).toArray}).objs.size m/\∀h',RN (s2.heap.push { cls:=.type "list",data:=.seq ([]:List Q_).toArray}).objs.size s'.heap h'->
    match r with | .ok _=>EP X ac σ Q (.ref s2.heap.objs.size) {s' with heap:=h'} | .error x=>False) {s2 with heap:=h4}:=by
  refine oX (λn s'=>∃i f8 H',Inv (bg X N' sc {s2 with heap:=s2.heap.push { cls:=.type "list",data:=.seq ([]:List Q_).toArray} } (upd H2 s2.heap.objs.size (.lst [])) fp) [] f8 H' s'/\tn i s'.heap/\(∀b∈fp,H' b=none)/\W i n f8 H') ?_ m0
   ⟨0,_,_,I4,st4,λb hb=>(f3 b hb).1,w0⟩
  rintro n s5 ⟨i,σ5,H5,I5,st5,fr5,w5⟩;rcases turn i n σ5 H5 w5 with⟨stop,q⟩|⟨go,step⟩
  ·refine thn (T.done (bg X N' sc _ _ fp) rfl rfl rfl rfl i [] s5 σ5 H5 (λ_ _=>False) I5 (stat fr5) st5 stop) ?_;rintro r s6 ⟨hr,I6⟩;subst hr;obtain⟨m6,hn6,_⟩:=id I6.loc;refine⟨m6,hn6,λh' hs'=>?_⟩;have hL:H5 (s2.heap.push { cls:=.type "list",data:=.seq ([]:List Q_).toArray}).objs.size=none:=I6.free;have hok':HOk X.prog X.w H5 h':=λb u e=>by
    refine(I6.hok b u e).pL (λc v hc q=>(hs'.2 c ?_).trans q) (λ_ q=>q) λ_ _ q=>q;rintro rfl;rcases hc with rfl|hc
    ·rw[hL]at e;cases e
    rw[hL]at hc;cases hc
   have ub:=I6.base;have lt:∀b o,(s2.heap.push { cls:=.type "list",data:=.seq ([]:List Q_).toArray}).get? b=some o->b≠(s2.heap.push { cls:=.type "list",data:=.seq ([]:List Q_).toArray}).objs.size:=λb o e=>s_ (Rm e);have un:Un (frs X.stack) fp (upd H2 s2.heap.objs.size (.lst [])) H5 (s2.heap.push { cls:=.type "list",data:=.seq ([]:List Q_).toArray}) h':=
    ⟨λb o e n hb hx=>(hs'.2 b (lt b o e)).trans (ub.keep b o e n hb hx),λb o e n hb hx=>let ⟨sl,z⟩:=ub.slot b o e n hb hx;⟨sl,(hs'.2 b (lt b o e)).trans z⟩,ub.free,
     λb o e hx=>let ⟨o',z⟩:=ub.there b o e hx;⟨o',(hs'.2 b (lt b o e)).trans z⟩,ub.tups,ub.frzs,ub.tbls⟩
   refine⟨.ref s2.heap.objs.size,H5,I3.GL (s':={s6 with heap:=h'}) (ch:=fp) I6.os un hok' I6.bare (λb hb=>?_),rfl,q⟩;obtain⟨_,g1,g2,g3,g4,g5⟩:=f3 b hb;exact⟨g3,g1,g4,g5⟩
  refine thn (T.item (bg X N' sc _ _ fp) rfl rfl rfl rfl i [] s5 σ5 H5 (λ_ _=>False) I5 (stat fr5) st5 go) ?_;rintro r s6 ⟨u,hr,h6⟩;subst hr;refine thn h6 ?_;rintro _ s7 ⟨x,H7,I7,r7,y7,st7,fr7⟩;have I7':=I7.pinned (stat fr7) (T.obj _ _ st7);have again:∀{σ8:St}{H8:Hp}{s8:Rf},Inv (bg X N' sc {s2 with heap:=s2.heap.push { cls:=.type "list",data:=.seq ([]:List Q_).toArray} } (upd H2 s2.heap.objs.size (.lst [])) fp) ([]++nK fp s7.heap) σ8 H8 s8->(∃m',m'<n/\W (i+1) m' σ8 H8)->
    ∃m,m<n/\∃i f8 H',Inv (bg X N' sc {s2 with heap:=s2.heap.push { cls:=.type "list",data:=.seq ([]:List Q_).toArray} } (upd H2 s2.heap.objs.size (.lst [])) fp) [] f8 H' s8/\tn i s8.heap/\(∀b∈fp,H' b=none)/\W i m f8 H':=λ{σ8 H8 s8} I8 ⟨m',hm,w8⟩=>by
   refine⟨m',hm,i+1,σ8,H8,I8.lq,T.keep _ _ _ st7 λb hb o e=>(I8.pin (b,o) (u_ _ (u_ _ (iy hb e)))).1,λb hb=>?_,w8⟩;obtain⟨o,e,d⟩:=T.obj _ _ st7 b hb;exact(I8.pin (b,o) (u_ _ (u_ _ (iy hb e)))).2.1
  refine thn (hg _ _ fp _ s7 σ5 H7 x u _ I7' r7 (step x H7 y7)) ?_;rintro _ s8 ⟨σ8,H8,I8,q8⟩;refine thn (ht _ _ fp _ s8 σ8 H8 _ I8 q8) ?_;rintro ok s9 ⟨H9,I9,q9⟩;cases ok with
  |false=>exact again I9 q9
  |true=>
   refine thn (he _ _ fp _ s9 σ8 H9 _ I9 q9) ?_;rintro y s10 ⟨v,H10,I10,r10,ys,hys,hl,q10⟩;refine thn (oA _ s10 σ8 H10 (.ref s2.heap.objs.size) [v] (.ref s2.heap.objs.size) [y] (λ_ H'=>∃m',m'<n/\W (i+1) m' σ8 H') I10 rfl (.cons r10 .nil) ⟨_,ys,v,rfl,rfl,hys,hl,q10⟩) ?_;rintro z s11 ⟨_,H11,I11,_,q11⟩;exact again I11 q11
 refine V5 loop ?_;exact T.self X.A 0 _ _ _ st4 loop
def SqG(b:Bool)(K:Rb)(H:Hp)(a:Ra)(xs:List V):Prop:=match b with
 |true=>SqT K H a xs
 |false=>SqL K H a xs
variable {a:Ra}{b:Bool}{xs:List V}
section
variable{X:Cx}{ac:List (Ra×Obj)}{σ:St}{H:Hp}{s:Rf}
theorem Inv.sq (I:Inv X ac σ H s)(h:SqG b X.K H a xs):∃be:List Q_,Vals xs be/\ZG.Sq b s.heap a be.toArray/\xs.length<=sizeLine:=by
 cases b with
 |true=>exact I.tuple h
 |false=>
  obtain⟨be,r,p,z⟩:=I.list h;exact⟨be,r,p.isList,z⟩
theorem Inv.xw (I:Inv X ac σ H s){ys:List V}(h:SqG b X.K H a xs)(h':SqG b X.K H a ys):xs=ys:=by
 cases b with
 |true=>exact I.nP h h'
 |false=>exact I.wa h h'
theorem Inv.GC (I:Inv X ac σ H s){b:Ra}{u:HO}(h:Rd H a u)(f:mN X ac H b):a≠b:=by
 rintro rfl;rcases h with h|⟨o,h⟩
 ·rw[f.1]at h;cases h
 rw[f.1]at h;cases h
theorem Inv.L6 (I:Inv X ac σ H s){b:Ra}{o:Obj}(h:X.K.lookup a=some o)(f:mN X ac H b):a≠b:=by
 rintro rfl;have e:X.base.get? a=some o:=I.ok.mod.kin a o h;rcases f.2.2.2.1 with z|z
 ·exact I.ok.noex a o e z
 exact absurd (A' (Rm (I.ok.bs a o e).1) z) (MW _)
theorem Inv.ir (I:Inv X ac σ H s){c:Ra}(h:SqG b X.K H a xs)(f:mN X ac H c):a≠c:=by
 cases b with
 |true=>
  rcases h with h|⟨o,be,n,hk,_⟩
  ·exact I.GC h f
  ·exact I.L6 hk f
 |false=>
  rcases h with h|⟨o,be,n,hk,_⟩
  ·exact I.GC h f
  exact I.L6 hk f
end
def Itz(K:Rb)(b1:Bool)(a1:Ra)(b2:Bool)(a2:Ra):It:=
  ⟨λi H=>∃xs ys x y,SqG b1 K H a1 xs/\SqG b2 K H a2 ys/\xs[i]?=some x/\ys[i]?=some y,
   λi H v H'=>∃p x y,H p=none/\v=.ref p/\H'=upd H p (.tup [x,y])/\(∀xs,SqG b1 K H a1 xs->xs[i]?=some x)/\∀ys,SqG b2 K H a2 ys->ys[i]?=some y,
   λi H=>∃xs ys,SqG b1 K H a1 xs/\SqG b2 K H a2 ys/\(xs.length<=i\/ys.length<=i)⟩
structure Off5 (z TI TO i1 i2:Ra):Prop where
 a1:TI≠z
 a2:TO≠z
 a3:i1≠z
 a4:i2≠z
 a5:TI≠TO
 a6:TI≠i1
 a7:TI≠i2
 a8:TO≠i1
 a9:TO≠i2
 b1:i1≠i2
variable {K:Rb}{P:Rj}{es:List Rr}{w:Ro}
theorem C2{x1:Nat}{tp:Pos}(b1:Bool)(a1:Ra)(b2:Bool)(a2 z TI TO i1 i2:Ra)(D:Off5 z TI TO i1 i2) :
  Turn P w K (.Tuple es x1 tp) (Itz K b1 a1 b2 a2) [z,TI,TO,i1,i2] z (λi h=>TV h z TI TO .none/\SM h TI (.ref i1) (.ref i2)/\(∃a b,SM h TO a b)/\ZG.Dr b1 h i1 a1 i/\ZG.Dr b2 h i2 a2 i) where
 mem:=by simp
 obj:=λi h st b hb=>by
  obtain⟨hz,hi,⟨a,c,ho⟩,d1,d2⟩:=st;have hb:b=z\/b=TI\/b=TO\/b=i1\/b=i2:=by simpa using hb
  rcases hb with rfl|rfl|rfl|rfl|rfl
  ·exact⟨_,hz,λv e=>by cases (show Xm _=VO v from e)⟩
  ·exact⟨_,hi,λv e=>by cases (show YN _ _=VO v from e)⟩
  ·exact⟨_,ho,λv e=>by cases (show YN _ _=VO v from e)⟩
  ·exact d1.some
  exact d2.some
 keep:=λi h h' st k=>by obtain⟨hz,hi,⟨a,c,ho⟩,d1,d2⟩:=st;exact⟨k z (by simp) _ hz,k TI (by simp) _ hi,⟨a,c,k TO (by simp) _ ho⟩,d1.at λo e=>k i1 (by simp) o e,d2.at λo e=>k i2 (by simp) o e⟩
 item:=by
  intro X hP hw hK hc i ac s σ H E I hf st hg;subst hP hw hK;obtain⟨xs,ys,x,y,q1,q2,hx,hy⟩:=hg;obtain⟨be,rv,p1,z1⟩:=I.sq q1;obtain⟨jts,sv,p2,z2⟩:=I.sq q2;obtain⟨u,hu,ru⟩:=rv.get hx;obtain⟨v,hv,rw'⟩:=sv.get hy;obtain⟨hz,hi,⟨a,c,ho⟩,d1,d2⟩:=st;have fz:=hf z (by simp);have fTI:=hf TI (by simp);have fTO:=hf TO (by simp);have f1:=hf i1 (by simp);have f2:=hf i2 (by simp);have DD:ZG.Off z TI TO i1 i2 a1 a2:=⟨D.a1,D.a2,D.a3,D.a4,D.a5,D.a6,D.a7,D.a8,D.a9,D.b1,I.ir q1 fz,I.ir q1 fTO,I.ir q1 f1,I.ir q1 f2,I.ir q2 fz,I.ir q2 fTO,I.ir q2 f1,I.ir q2 f2⟩;refine ZG.vo DD hz hi ho d1 d2 p1 p2 (by simpa using hu) (by simpa using hv) λg gz gO g1 g2 gT gs gk=>⟨_,rfl,?_⟩
  refine wpAny_letOwnedTupleGo_zip (s:={s with heap:=g}) gz λh' hz' hs'=>?_;have hfresh:H s.heap.objs.size=none:=I.hok.fresh (c_ _);have zT:s.heap.objs.size≠z:=MY (Rm hz);have kp:∀b o,b ∉ [z,TI,TO,i1,i2]->s.heap.get? b=some o->h'.get? b=some o:=λb o hb e=>by
   have n:b≠z/\b≠TI/\b≠TO/\b≠i1/\b≠i2:=by simpa using hb
   exact hs'.extBut _ _ n.1 (gk b o n.1 n.2.2.1 n.2.2.2.1 n.2.2.2.2 e)
  have hT:h'.get? s.heap.objs.size=some { cls:=.type "tuple",data:=.seq #[u,v] }:=hs'.extBut _ _ zT gT;have notfp:∀b o,H b=some o->b ∉ [z,TI,TO,i1,i2]:=λb o e hb=>by have:=(hf b hb).1;rw[e]at this;cases this
  have ne:∀b o,s.heap.get? b=some o->b≠s.heap.objs.size:=λb o e=>s_ (Rm e);have nt:∀b o,H b=some o->b≠s.heap.objs.size:=λb o e=>d7 e hfresh;have I1:Inv X ac σ (upd H s.heap.objs.size (.tup [x,y])) {s with heap:=h'}:=by
   refine I.step (g':=s.gens) (d':=s.drawn) (t':=s.toks) (ch:=[z,TI,TO,i1,i2]) (λb hb=>?_) (λb o _ _ hc e _=>kp b o hc e) (λb o _ _ hc e _=>⟨o.slots,kp b o hc e⟩)
    (λb o _ e n=>by rw[aH (ne b o e)];exact n) (λb o hc e=>⟨o,kp b o hc e⟩) (λb zs e=>by rw[aH (nt b _ e)];exact e) (λb o u e=>by rw[aH (nt b _ e)];exact e)
    (λb ps e=>⟨#[],by rw[aH (nt b _ e),e];simp⟩) (λm hm=>?_) (λb o e=>?_) I.bare
   ·obtain⟨g0,g1,g2,g3,g4,g5⟩:=hf b hb;exact⟨g3,g1,g4,g5⟩
   ·obtain⟨o,es,ep,ho',r⟩:=hm;exact⟨o,es,ep,kp _ o (λhb=>(hf _ hb).2.1 rfl) ho',r⟩
   by_cases hb:b=s.heap.objs.size
   ·subst hb;rw[aU]at e;cases e;exact⟨by show 2<=sizeLine;decide,[u,v],.cons ru (.cons rw' .nil),_,hT,rfl,_,rfl⟩
   rw[aH hb]at e;refine(I.hok b o e).pL (λc' w' hc' q=>kp c' w' ?_ q) (λc' q=>by rw[aH (nt c' _ q)];exact q) λc' zs q=>by rw[aH (nt c' _ q)];exact q
   rcases hc' with rfl|hc'
   ·exact notfp _ _ e
   exact notfp _ _ hc'
  refine⟨.ref s.heap.objs.size,_,I1,rfl,⟨s.heap.objs.size,x,y,hfresh,rfl,rfl,λzs hq=>by rw[I.xw hq q1];exact hx,λzs hq=>by rw[I.xw hq q2];exact hy⟩,?_,λb hb=>?_⟩
  ·exact⟨hz',hs'.extBut _ _ D.a1 (gk _ _ D.a1 D.a5 D.a6 D.a7 hi),⟨_,_,hs'.extBut _ _ D.a2 gO⟩,g1.ext hs'.extBut D.a3,g2.ext hs'.extBut D.a4⟩
  have hb0:=(hf b hb).1;have hb':b=z\/b=TI\/b=TO\/b=i1\/b=i2:=by simpa using hb
  have hlt:∃o,s.heap.get? b=some o:=by
   rcases hb' with rfl|rfl|rfl|rfl|rfl
   ·exact⟨_,hz⟩
   ·exact⟨_,hi⟩
   ·exact⟨_,ho⟩
   ·obtain⟨o,e,_⟩:=d1.some;exact⟨o,e⟩
   obtain⟨o,e,_⟩:=d2.some;exact⟨o,e⟩
  obtain⟨o,e⟩:=hlt;rw[aH (ne b o e)];exact hb0
 done:=by
  intro X hP hw hK hc i ac s σ H E I hf st hg;subst hP hw hK;obtain⟨xs,ys,q1,q2,hn⟩:=hg;obtain⟨be,rv,p1,z1⟩:=I.sq q1;obtain⟨jts,sv,p2,z2⟩:=I.sq q2;obtain⟨hz,hi,⟨a,c,ho⟩,d1,d2⟩:=st;have fz:=hf z (by simp);have fTI:=hf TI (by simp);have fTO:=hf TO (by simp);have f1:=hf i1 (by simp);have f2:=hf i2 (by simp);have DD:ZG.Off z TI TO i1 i2 a1 a2:=⟨D.a1,D.a2,D.a3,D.a4,D.a5,D.a6,D.a7,D.a8,D.a9,D.b1,I.ir q1 fz,I.ir q1 fTO,I.ir q1 f1,I.ir q1 f2,I.ir q2 fz,I.ir q2 fTO,I.ir q2 f1,I.ir q2 f2⟩;have l1:=rv.length;have l2:=sv.length;refine ZG.xC (I.ok.hd hc) DD hz hi ho d1 d2 p1 p2 (hn.elim (λz=>.inl (by simp;omega)) λz=>.inr (by simp;omega)) λg gk=>⟨rfl,?_⟩
  have kp:∀b o,b ∉ [z,TI,TO,i1,i2]->s.heap.get? b=some o->g.get? b=some o:=λb o hb e=>by
   have n:b≠z/\b≠TI/\b≠TO/\b≠i1/\b≠i2:=by simpa using hb
   exact gk b o n.1 n.2.2.1 n.2.2.2.1 n.2.2.2.2 e
  have notfp:∀b o,H b=some o->b ∉ [z,TI,TO,i1,i2]:=λb o e hb=>by have:=(hf b hb).1;rw[e]at this;cases this
  refine I.step (g':=s.gens) (d':=s.drawn) (t':=s.toks) (ch:=[z,TI,TO,i1,i2]) (λb hb=>?_) (λb o _ _ hc e _=>kp b o hc e) (λb o _ _ hc e _=>⟨o.slots,kp b o hc e⟩)
   (λb o _ e n=>n) (λb o hc e=>⟨o,kp b o hc e⟩) (λb zs e=>e) (λb o u e=>e) (λb ps e=>⟨#[],by rw[e];simp⟩) (λm hm=>?_) (λb o e=>?_) I.bare
  ·obtain⟨g0,g1,g2,g3,g4,g5⟩:=hf b hb;exact⟨g3,g1,g4,g5⟩
  ·obtain⟨o,es,ep,ho',r⟩:=hm;exact⟨o,es,ep,kp _ o (λhb=>(hf _ hb).2.1 rfl) ho',r⟩
  refine(I.hok b o e).pL (λc' w' hc' q=>kp c' w' ?_ q) (λc' q=>q) λc' zs q=>q;rcases hc' with rfl|hc'
  ·exact notfp _ _ e
  exact notfp _ _ hc'
 self:=λ_ _ _ _ _ st h=>XB st.1 h
def LP(K:Rb)(ta:TA):TI:=λσ H R=>ta σ H λvs H1=>∃b1 a1 b2 a2,vs=[.ref a1,.ref a2]/\(∃xs,SqG b1 K H1 a1 xs)/\(∃ys,SqG b2 K H1 a2 ys)/\R (Itz K b1 a1 b2 a2) H1
theorem HJ{x1:Nat}{tp:Pos}{a b:Rr}{ta:TA}{p:Pos}(hg:Gl X "zip")(hm:X.mg "zip"=none)(ha:PA X [a,b] ta)(hs:Ru [a,b] X.env=[(false,RF a X.env),(false,RF b X.env)]:=by rfl)(hs2:Ru [b] X.env=[(false,RF b X.env)]:=by rfl) :
  PI X (.Tuple es x1 tp) (.Call (.Name "zip" p) [a,b] [] pos) (LP X.K ta):=by
 intro ac s σ H R I h;refine Zp (jH I hg hm boot_zip (SD (thn (ha pos ac s σ H _ I h) λus s1 ⟨vs,H1,I1,r1,q1⟩=>?_) (by rw[hs,hs2]) (by rw[hs2];rfl)));obtain⟨b1,a1,b2,a2,e,⟨xs,q1⟩,⟨ys,q2⟩,q⟩:=q1;subst e;cases r1 with
 |cons r rr=>
  cases rr with
  |cons r' rr=>
   cases rr;cases r;cases r';obtain⟨be,rv,p1,z1⟩:=I1.sq q1;obtain⟨jts,sv,p2,z2⟩:=I1.sq q2;refine ZG.DM p1 p2 λg gz gi go g1 g2 gs gk=>XB (s:={s1 with heap:=g}) gz ?_;have I2:Inv X ac σ H1 {s1 with heap:=g}:=I1.kept (t':=s1.toks) gk;refine⟨_,_,_,_,H1,rfl,I2,C2 b1 a1 b2 a2 _ (s1.heap.objs.size+2) (s1.heap.objs.size+3) s1.heap.objs.size (s1.heap.objs.size+1) ?_,⟨gz,gi,⟨_,_,go⟩,g1,g2⟩,λb hb=>?_,q⟩
   ·constructor <;>(show(_:Nat)≠_) <;> omega
   have hb':s1.heap.objs.size<=b:=by
    have z:b=s1.heap.objs.size+4\/b=s1.heap.objs.size+2\/b=s1.heap.objs.size+3\/b=s1.heap.objs.size\/b=s1.heap.objs.size+1:=by simpa using hb
    rcases z with z|z|z|z|z <;> rw[z] <;>(show(_:Nat)<=_) <;> omega
   exact I1.ve hb' (I1.hok.fresh hb')
noncomputable def bools(bs:List Bool):List V:=bs.map V.bl
variable {i:Nat}
theorem A6{bs:List Bool}{us:List Q_}(r:Vals (bools bs) us){u:Q_}(h:us[i]?=some u):∃b,bs[i]?=some b/\u=.bool b:=by
 have hl:=r.length;have hi:i<us.length:=(e_.mp h).1;have hb:i<bs.length:=by rw[<-hl]at hi;simpa[bools]using hi
 have e:(bools bs)[i]?=some (.bl bs[i]):=by unfold bools;rw[o_,b_ hb];rfl
 obtain⟨u',h',ru⟩:=r.get e;rw[h]at h';cases h';exact⟨bs[i],b_ hb,ru⟩
theorem xJ(bs:List Bool):((p_ bs.length).all λi=>(bs[i]?).getD true)=bs.all id:=by
 have e:bs=(p_ bs.length).map λi=>(bs[i]?).getD true:=by
  apply Qg
  ·simp
  intro i h1 h2;simp[h1]
 conv=>rhs;rw[e,Oq]
 rfl
section
variable{X:Cx}
theorem C5(hc:X.calm=true):de X (.builtin "all") (λxs H Q=>∃a bs,xs=[.ref a]/\SqL X.K H a (bools bs)/\Q (.bl (bs.all id)) H):=by
 intro ac s σ H xs us Q I r h;obtain⟨a,bs,rfl,hq,q⟩:=h;obtain⟨u,rfl,ru⟩:=vals1 r;cases ru;obtain⟨be,rv,p,z⟩:=I.list hq;have hl:=p.isList;have hlt:a<s.heap.objs.size:=by obtain⟨_,e,_⟩:=hl;exact Rm e
 have hlen:be.toArray.size=bs.length:=by rw[g_,<-rv.length];simp[bools]
 refine call_all_walk (Sh hl ⟨s.heap.objs.size,[s.heap.objs.size,a],[s.heap.objs.size],be.toArray.size,_,_,λi=>(bs[i]?).getD true,rfl,X0 (A:=X.A.in1) (I.ok.hd hc) _ a (s_ hlt) be.toArray,⟨⟨_,Ri _ rfl,rfl,rfl⟩,hl.push _⟩,λi v s' Q' E' hP hQ=>?_,λh' tk hk=>?_⟩)
 ·obtain⟨b,e,rfl⟩:=A6 rv (i:=i) (u:=v) (by simpa using hP);simp only[e,Qh]at hQ;exact SA hQ
 rw[hlen,xJ];exact⟨.bl (bs.all id),H,I.kept (t':=tk) (LSm.kept_iter hk),rfl,q⟩
end
variable {H H':Hp}
theorem SqL.same (e:dh H H')(h:SqL K H a xs):SqL K H' a xs:=e.seq h
theorem SqT.same (e:dh H H')(h:SqT K H a xs):SqT K H' a xs:=by
 rcases h with (h|⟨o,h⟩)|h
 ·exact .inl (.inl (e _ _ h))
 ·exact .inl (.inr ⟨o,e _ _ h⟩)
 exact .inr h
theorem SqG.same (e:dh H H')(h:SqG b K H a xs):SqG b K H' a xs:=by
 cases b with
 |true=>exact SqT.same e h
 |false=>exact SqL.same e h
structure Cal (P:Rj) (w:Ro) (K:Rb) (mg:Str->Option Q_) (base:Rq) (k:Nat) (x:Str) (ps:List Str) (sp:Sp):Prop where
 ex:∃(f:Ra) (fd:Rx),FnOk P w K mg base CX0 k f fd ps sp/\mg x=some (.ref f)/\Uj K (.ref f)=true/\Binds K fd ps []
variable {ps:List Str}{sp:Sp}{x:Str}
theorem J1{j k:Nat}{t:TA}{p:Pos}(D:Cal X.prog X.w X.K X.mg X.base j x ps sp)(hr:Room k X.A)(hg:Gl X x)(ha:PA X (e::es) t)(hjk:j<=k:=by omega)(hdb:(x ==("__debug__":Str))=false:=by decide)
  (he:Ru (e::es) X.env=(false,RF e X.env)::Ru es X.env:=by rfl) (hpl:(Ta pos (Ru es X.env)).any (·.1)=false:=by rfl):PE X (.Call (.Name x p) (e::es) [] pos) (DI sp [] E0 t):=by
 obtain⟨f,fd,F,hm,hk,hb⟩:=D.ex;exact FD F (hr.mono hjk) hg hm hk hb .nil L8 ha hdb he hpl
variable {mg:Str->Option Q_}
theorem Cal.imp {base:Rq}{k:Nat}{sp':Sp}(D:Cal P w K mg base k x ps sp)(h:∀vs H Q E,sp' vs H Q E->sp vs H Q E):Cal P w K mg base k x ps sp':=by obtain⟨f,fd,F,r⟩:=D.ex;exact⟨f,fd,F.imp h,r⟩
structure Dfn (K:Rb) (mg:Str->Option Q_) (x:Str) (st:RG) (ps:List Str):Prop where
 ex:∃(f:Ra) (fd:Rx),Fun K x x st f fd/\mg x=some (.ref f)/\Binds K fd ps []
theorem Dfn.cal {base:Rq}{k:Nat}{st:RG}(D:Dfn K mg x st ps)(h:∀f fd,Fun K x x st f fd->FnOk P w K mg base CX0 k f fd ps sp):Cal P w K mg base k x ps sp:=by obtain⟨f,fd,F,hm,hb⟩:=D.ex;exact⟨f,fd,h f fd F,hm,F.kp,hb⟩
theorem dh.ip :dh H H:=λ_ _ e=>e
variable {H1:Hp}
theorem dh.trans' {H2:Hp}(a:dh H H1)(b:dh H1 H2):dh H H2:=λc o e=>b c o (a c o e)
variable {p:Ra}
theorem dg(h:H p=none)(o:HO):dh H (upd H p o):=λb u q=>by rw[aH (d7 q h)];exact q
theorem dh.none {H H':Hp}(a:dh H H'){p:Ra}(h:H' p=none):H p=none:=by
 cases e:H p with
 |none=>rfl
 |some o=>rw[a p o e]at h;cases h
noncomputable def Kp(a c:Ra)(H H':Hp):Prop:=∀b o,H b=some o->b≠a->b≠c->H' b=some o
variable {n:Nat}
theorem yP{i:Int}(h0:0<=i)(h1:i<(n:Int)):ixN n i=some i.toNat:=by unfold ixN;rw[if_pos h0,if_pos h1]
theorem F9{α:Type}{xs:List α}{i:Int}{v:α}(h0:0<=i)(hv:xs[i.toNat]?=some v):atI xs i=some v:=by have h1:i.toNat<xs.length:=(e_.mp hv).1;unfold atI;rw[yP h0 (by omega)];exact hv
variable {ns:List Int}
theorem Bk{i:Int}(h0:0<=i)(h1:i<(ns.length:Int)):atI (ns.map V.int) i=some (.int (ns.getD i.toNat 0)):=by
 have h2:i.toNat<ns.length:=by omega
 refine F9 h0 ?_;rw[o_,b_ h2,D_,b_ h2]
 rfl
theorem HZ{i:Int}{v:V}{Q:VK}(h:SqG b K H p xs)(hv:atI xs i=some v)(q:Q v H):rIx K (.ref p) (.int i) H Q:=by
 cases b with
 |true=>exact .inr (.inl ⟨p,xs,i,v,rfl,rfl,h,hv,q⟩)
 |false=>exact .inl ⟨p,xs,i,v,rfl,rfl,h,hv,q⟩
theorem JX{A B:Prop}(h1:b=true->A)(h2:b=false->B):if b=true then A else B:=by
 cases b with
 |true=>exact M0 (h1 rfl)
 |false=>exact LK (h2 rfl)
theorem Bq(S:FnScope N ps esc)(N':List Str)(fr:List (Option Nat))(nd:N'.Nodup)(C:kY N esc sc N' fr=true)
  (hi:PI X target iter wi) (hg:∀s3 H3 fp,PG (bg X N' sc s3 H3 fp) target (g s3 H3 fp)) (ht:∀s3 H3 fp,PTs (bg X N' sc s3 H3 fp) ifs (tt s3 H3 fp)) (he:∀s3 H3 fp,PE (bg X N' sc s3 H3 fp) elt (te s3 H3 fp))
  (hc:X.calm=true:=by rfl) (hN:X.N=N:=by rfl) (hS:X.env.scope=esc:=by rfl) (hs:∀x,Sb iter X.env x=pure x:=by intro _;rfl):PE X (.ListComp elt [⟨target,iter,ifs,0⟩] sc pos) (yA wi fr g tt te):=
 Gk N' fr hc (by rw[hN,hS];exact C) hi hg ht he hs
def Its(K:Rb)(b:Bool)(a:Ra):It:=match b with
 |true=>Itt K a
 |false=>Itl K a
def iSq(K:Rb)(tl:TE):TI:=λσ H R=>tl σ H λx H1=>∃b a xs,x=.ref a/\SqG b K H1 a xs/\R (Its K b a) H1
theorem I0{tg l:Rr}{tl:TE}(hl:PE X l tl):PI X tg l (iSq X.K tl):=by
 intro ac s σ H R I h;refine thn (hl ac s σ H _ I h) ?_;rintro v s1 ⟨x,H1,I1,r1,q1⟩;obtain⟨b,a,xs,rfl,hq,q⟩:=q1;cases r1;cases b with
 |true=>
  obtain⟨be,rv,p,hz⟩:=I1.tuple hq;refine Sa (show s1.heap.IsTuple a be.toArray from p) ⟨s1.heap.objs.size,[s1.heap.objs.size],_,_,H1,rfl,I1.kept (t':=s1.toks) λb o e=>Rg _ e,xI a _,⟨_,Ri _ rfl,rfl,rfl⟩,λb hb=>?_,q⟩;have e:b=s1.heap.objs.size:=by simpa using hb
  subst e;exact I1.ve (c_ _) (I1.hok.fresh (c_ _))
 |false=>
  obtain⟨be,rv,p,hz⟩:=I1.list hq;refine Sh p.isList ⟨s1.heap.objs.size,[s1.heap.objs.size],_,_,H1,rfl,I1.kept (t':=s1.toks) λb o e=>Rg _ e,Ap a _,⟨_,Ri _ rfl,rfl,rfl⟩,λb hb=>?_,q⟩;have e:b=s1.heap.objs.size:=by simpa using hb
  subst e;exact I1.ve (c_ _) (I1.hok.fresh (c_ _))
theorem FQ{H2:Hp}{v:V}(h1:SqG b K H1 a xs)(s:dh H1 H')(h:(Its K b a).yld i H' v H2):H2=H'/\xs[i]?=some v:=by
 cases b with
 |true=>exact⟨h.1,h.2 xs (SqG.same s h1)⟩
 |false=>exact⟨h.1,h.2 xs (SqG.same s h1)⟩
theorem IJ(h1:SqG b K H1 a xs)(hx:xs.length=n):∀i H',dh H1 H'->i<n->(Its K b a).go i H':=λi H' s hi=>by
 cases b with
 |true=>exact⟨xs,xs[i]'(by lia),SqT.same s h1,b_ _⟩
 |false=>exact⟨xs,xs[i]'(by lia),SqL.same s h1,b_ _⟩
theorem E4(h1:SqG b K H1 a xs)(hx:xs.length=n):∀H',dh H1 H'->(Its K b a).stop n H':=λH' s=>by
 cases b with
 |true=>exact⟨xs,SqT.same s h1,by lia⟩
 |false=>exact⟨xs,SqL.same s h1,by lia⟩
def New(o:HO)(H:Hp)(Q:VK):Prop:=∀p H',H p=none->dh H H'->H' p=some o->Q (.ref p) H'
theorem New.at {o:HO}{Q:VK}(h:New o H Q)(hp:H p=none):Q (.ref p) (upd H p o):=h p _ hp (dg hp o) aU
section
variable{X:Cx}{es:List Rr}{t:TA}{pos:Pos}
def KA(t:TA):TE:=λσ H Q=>t σ H λxs H1=>xs.length<=sizeLine/\New (.tup xs) H1 Q
def Le(t:TA):TE:=λσ H Q=>t σ H λxs H1=>xs.length<=sizeLine/\New (.lst xs) H1 Q
theorem FC{x1}(h:PA X es t):PE X (.Tuple es x1 pos) (KA t):=by intro ac s σ H Q I hq;refine wpAny_Tuple_spliced (thn (h pos ac s σ H _ I hq) λus s1 ⟨xs,H1,I1,r,z,q⟩=>⟨by rw[<-r.length];exact z,?_⟩);refine⟨.ref s1.heap.objs.size,upd H1 s1.heap.objs.size (.tup xs),I1.laid (t':=s1.toks) (λb u e=>Rg _ e) (c_ _) ⟨z,us,r,⟨_,Ri _ rfl,rfl,_,rfl⟩⟩,rfl,q.at (I1.hok.fresh (c_ _))⟩
theorem F4(h:PA X es t):PE X (.List es pos) (Le t):=by intro ac s σ H Q I hq;refine WX (thn (h pos ac s σ H _ I hq) λus s1 ⟨xs,H1,I1,r,z,q⟩=>⟨by rw[<-r.length];exact z,?_⟩);refine⟨.ref s1.heap.objs.size,upd H1 s1.heap.objs.size (.lst xs),I1.laid (t':=s1.toks) (λb u e=>Rg _ e) (c_ _) ⟨z,us,0,r,Ri _ rfl⟩,rfl,q.at (I1.hok.fresh (c_ _))⟩
theorem de.imp {f:Q_}{r r':List V->Hp->VK->Prop}(h:de X f r)(k:∀vs H Q,r' vs H Q->r vs H Q):de X f r':=λac s σ H xs us Q I rv q=>h ac s σ H xs us Q I rv (k _ _ _ q)
theorem OpR.imp {f:Q_->Q_->Sem Q_}{r r':R2}(h:OpR X f r)(k:∀x y H Q,r' x y H Q->r x y H Q):OpR X f r':=λac s σ H x y v u Q I rx ry q=>h ac s σ H x y v u Q I rx ry (k _ _ _ _ q)
theorem xu:de X (.type "list") (λxs H Q=>∃b p ys,xs=[.ref p]/\SqG b X.K H p ys/\New (.lst ys) H Q):=nD.imp λvs H Q ⟨b,p,ys,e,h,q⟩=>by
 refine⟨p,ys,e,?_,λl hl=>q.at hl⟩;cases b with
 |true=>exact .inr h
 |false=>exact .inl h
theorem wu:de X (.type "tuple") (λxs H Q=>∃p ys,xs=[.ref p]/\SqL X.K H p ys/\New (.tup ys) H Q):=qZ.imp (by rintro vs H Q ⟨p,ys,e,h,q⟩;exact⟨p,ys,e,.inl ⟨h,λl hl=>q.at hl⟩⟩)
theorem B7:de X (.builtin "len") (λxs H Q=>∃b p ys,xs=[.ref p]/\SqG b X.K H p ys/\Q (.int ys.length) H):=nu.imp λvs H Q ⟨b,p,ys,e,h,q⟩=>by
 refine⟨p,ys,e,?_,q⟩;cases b with
 |true=>exact .inr h
 |false=>exact .inl h
def LZ(K:Rb):R2:=λx y H Q=>∃b p xs i v,x=.ref p/\y=.int i/\SqG b K H p xs/\atI xs i=some v/\Q v H
theorem LC:IxR X (LZ X.K):=by rintro value slice ac s σ H x y v u Q I rx ry ⟨b,p,xs,i,z,e1,e2,hq,ha,q⟩ hs;subst e1 e2;exact Jm value slice ac s σ H (.ref p) (.int i) v u Q I rx ry (HZ hq ha q) hs
end
noncomputable def je(ns:List Int)(r:Int):Prop:=r∈ns/\∀x∈ns,r<=x
noncomputable def jd(ns:List Int)(r:Int):Prop:=r∈ns/\∀x∈ns,x<=r
theorem fR:∀{ns:List Int}{us:List Q_},Vals (ns.map V.int) us->∃ps:List (Int×Tok),us=ps.map (λp=>Sk p.1 p.2)/\ps.map (·.1)=ns
 | [],_,.nil=>⟨[],rfl,rfl⟩
 |n::r,_,.cons h t=>by obtain⟨ps,e1,e2⟩:=fR t;obtain⟨tk,e⟩:=h;exact⟨(n,tk)::ps,by rw[e,e1];rfl,by rw[<-e2];rfl⟩
theorem iK{ps:List (Int×Tok)}(e:ps.map (·.1)=ns)(hi:i<ns.length):TY ps.toArray i=ns[i]:=by
 subst e;have h2:i<ps.length:=by simpa using hi
 simp[TY,h2]
section
variable{X:Cx}
theorem Ac(hc:X.calm=true):de X (.builtin "min") (λxs H Q=>∃a ns,xs=[.ref a]/\SqL X.K H a (ns.map V.int)/\ns≠[]/\∀r,je ns r->Q (.int r) H):=by
 intro ac s σ H xs us Q I r h;obtain⟨a,ns,rfl,hq,ld,q⟩:=h;obtain⟨u,rfl,ru⟩:=vals1 r;cases ru;obtain⟨be,rv,p,z⟩:=I.list hq;obtain⟨ps,e1,e2⟩:=fR rv;subst e1;have hl:s.heap.IsList a (R3 ps.toArray):=by
  have e:R3 ps.toArray=(ps.map λp=>Sk p.1 p.2).toArray:=by simp[R3]
  rw[e];exact p.isList
 have hlen:ps.length=ns.length:=by rw[<-e2];simp
 have hpos:0<ns.length:=Nf λz=>ld (Mi z);refine min_intList (I.ok.hd hc) hl (by simp;lia) λv h' tk hv hk=>?_
 obtain⟨tv,rfl⟩:=Ux hv;obtain⟨b1,b2⟩:=argBest_lt (TY ps.toArray) (ps.toArray.size-1);have hi:Yk (λi j=>decide (TY ps.toArray i<TY ps.toArray j)) (ps.toArray.size-1)<ns.length:=by simp at b1 ⊢;lia
 refine⟨.int _,H,I.kept (t':=tk) hk,⟨tv,rfl⟩,q _ ⟨?_,λx hx=>?_⟩⟩
 ·rw[iK e2 hi];exact MG hi
 obtain⟨j,hj,rfl⟩:=MH.mp hx;have:=b2 j (by simp;lia);rw[iK e2 hj]at this;exact this
theorem An(hc:X.calm=true):de X (.builtin "max") (λxs H Q=>∃a ns,xs=[.ref a]/\SqL X.K H a (ns.map V.int)/\ns≠[]/\∀r,jd ns r->Q (.int r) H):=by
 intro ac s σ H xs us Q I r h;obtain⟨a,ns,rfl,hq,ld,q⟩:=h;obtain⟨u,rfl,ru⟩:=vals1 r;cases ru;obtain⟨be,rv,p,z⟩:=I.list hq;obtain⟨ps,e1,e2⟩:=fR rv;subst e1;have hl:s.heap.IsList a (R3 ps.toArray):=by
  have e:R3 ps.toArray=(ps.map λp=>Sk p.1 p.2).toArray:=by simp[R3]
  rw[e];exact p.isList
 have hlen:ps.length=ns.length:=by rw[<-e2];simp
 have hpos:0<ns.length:=Nf λz=>ld (Mi z);refine max_intList (I.ok.hd hc) hl (by simp;lia) λv h' tk hv hk=>?_
 obtain⟨tv,rfl⟩:=Ux hv;obtain⟨b1,b2⟩:=argBest_gt (TY ps.toArray) (ps.toArray.size-1);have hi:Yk (λi j=>decide (TY ps.toArray i > TY ps.toArray j)) (ps.toArray.size-1)<ns.length:=by simp at b1 ⊢;lia
 refine⟨.int _,H,I.kept (t':=tk) hk,⟨tv,rfl⟩,q _ ⟨?_,λx hx=>?_⟩⟩
 ·rw[iK e2 hi];exact MG hi
 obtain⟨j,hj,rfl⟩:=MH.mp hx;have:=b2 j (by simp;lia);rw[iK e2 hj]at this;exact this
theorem AA(hc:X.calm=true):de X (.builtin "max") (λxs H Q=>∃i j k,xs=[.int i,.int j,.int k]/\∀r,i<=r->j<=r->k<=r->(r=i\/r=j\/r=k)->Q (.int r) H):=by
 intro ac s σ H xs us Q I r h;obtain⟨i,j,k,rfl,q⟩:=h;cases r with
 |cons r1 rr=>
  cases rr with
  |cons r2 rr=>
   cases rr with
   |cons r3 rr=>
    cases rr;obtain⟨t1,rfl⟩:=r1;obtain⟨t2,rfl⟩:=r2;obtain⟨t3,rfl⟩:=r3;refine max_three_ints (I.ok.hd hc) λh' tk hk=>?_;have fin:∀(r:Int) (t:Tok),i<=r->j<=r->k<=r->(r=i\/r=j\/r=k)->EP X ac σ Q (.int r t) {s with heap:=h',toks:=tk}:=λr t a b c d=>⟨.int r,H,I.kept (t':=tk) hk,⟨t,rfl⟩,q r a b c d⟩;split
    ·split
     ·exact fin _ _ (by lia) (by lia) (by lia) (by lia)
     exact fin _ _ (by lia) (by lia) (by lia) (by lia)
    split
    ·exact fin _ _ (by lia) (by lia) (by lia) (by lia)
    exact fin _ _ (by lia) (by lia) (by lia) (by lia)
theorem AS(hc:X.calm=true):de X (.builtin "min") (λxs H Q=>∃i j k,xs=[.int i,.int j,.int k]/\∀r,r<=i->r<=j->r<=k->(r=i\/r=j\/r=k)->Q (.int r) H):=by
 intro ac s σ H xs us Q I r h;obtain⟨i,j,k,rfl,q⟩:=h;cases r with
 |cons r1 rr=>
  cases rr with
  |cons r2 rr=>
   cases rr with
   |cons r3 rr=>
    cases rr;obtain⟨t1,rfl⟩:=r1;obtain⟨t2,rfl⟩:=r2;obtain⟨t3,rfl⟩:=r3;refine min_three_ints (I.ok.hd hc) λh' tk hk=>?_;have fin:∀(r:Int) (t:Tok),r<=i->r<=j->r<=k->(r=i\/r=j\/r=k)->EP X ac σ Q (.int r t) {s with heap:=h',toks:=tk}:=λr t a b c d=>⟨.int r,H,I.kept (t':=tk) hk,⟨t,rfl⟩,q r a b c d⟩;split
    ·split
     ·exact fin _ _ (by lia) (by lia) (by lia) (by lia)
     exact fin _ _ (by lia) (by lia) (by lia) (by lia)
    split
    ·exact fin _ _ (by lia) (by lia) (by lia) (by lia)
    exact fin _ _ (by lia) (by lia) (by lia) (by lia)
end
section
variable{X:Cx}{a b c d:Rr}{ta tb tc td:TE}{pos:Pos}
theorem DX:SlR X (λx lo hi H Q=>∃a xs,x=.ref a/\SqL X.K H a xs/\New (.lst (lx xs lo hi)) H Q):=by rintro ac s σ H x v vl vu lo hi sl Q I rx hs pl pu ⟨a,xs,e,h,q⟩;exact yT ac s σ H x v vl vu lo hi sl Q I rx hs pl pu ⟨a,xs,e,h,λp hp=>q.at hp⟩
theorem yz:SlR X (λx lo hi H Q=>∃a xs,x=.ref a/\SqT X.K H a xs/\¬(HT.sIx xs.length 0 lo=0/\HT.sIx xs.length xs.length hi=xs.length)/\New (.tup (lx xs lo hi)) H Q):=by rintro ac s σ H x v vl vu lo hi sl Q I rx hs pl pu ⟨a,xs,e,h,hw,q⟩;exact Ii ac s σ H x v vl vu lo hi sl Q I rx hs pl pu ⟨a,xs,e,h,hw,λp hp=>q.at hp⟩
end
structure Put (H:Hp) (p:Ra) (o:HO) (H':Hp):Prop where
 at_:H' p=some o
 else_:∀b,b≠p->H' b=H b
theorem Put.up {o:HO}:Put H p o (upd H p o):=⟨aU,λb h=>aH h⟩
section
variable{X:Cx}
theorem xh.imp {t t':Ek}(h:xh X t)(k:∀o i v H Q,t' o i v H Q->t o i v H Q):xh X t':=λac s σ H o i v ov iv u Q I r1 r2 r3 q=>h ac s σ H o i v ov iv u Q I r1 r2 r3 (k _ _ _ _ _ q)
theorem Ax:xh X (λo i v H Q=>∃p xs k j,o=.ref p/\i=.int k/\H p=some (.lst xs)/\ixN xs.length k=some j/\∀H',Put H p (.lst (xs.set j v)) H'->Q H'):=set_list.imp (by rintro o i v H Q ⟨p,xs,k,j,e1,e2,h,hj,q⟩;exact⟨p,xs,k,j,e1,e2,h,hj,q _ Put.up⟩)
end
section
variable{M:Ui}{A:Rw}{E:Q_->Rf->Prop}{s:Rf}{env:Env}
theorem mR{g:Vh}{u:Q_->Sem Unit}
  (hcl:clausesOf e=g::gs) (hs:∀x,Sb g.iter env x=pure x)
  (hc:∀x∈scope.names,x.2≠.cell) (hfr:∀x∈scope.names,x.2=.free->∃c,env.cells.lookup x.1=some c) (hkind:scope.kind=.function) (hnames:∀x∈scope.names,x.2=.local->scope.names.lookup x.1=some .local)
  (h:Rh M A first (λx s₁=>Rh M A (Ut x) (λit s₂=>Rh M A newAcc (λacc s₃=>
   ∀h4,h4.Ns s₃.heap.objs.size (λ_=>none)->(∀b o,s₃.heap.get? b=some o->h4.get? b=some o)->
    S7 M A (.compStart e 0 it acc (L2.compEnv env scope s₃.heap.objs.size)) (λr s'=>match r with
     | .ok _=>Rh M A (u acc) (λ_ s''=>∃m,s''.heap.Ns s₃.heap.objs.size m/\∀h',RN s₃.heap.objs.size s''.heap h'->Q .none {s'' with heap:=h'}) E s'
     | .error x=>False) { s₃ with heap:=h4}) E s₂) E s₁) E s) :
  Rh M A (Uy e scope env pos newAcc false first (some u)) Q E s:=by
 unfold Uy;rw[qu hfr,hcl];refine Q9 (RL h (λx s₁ h₁=>Q9 (TH (Q9 (T9 (hs x) (Q9 (Ry (RL h₁ (λit s₂ h₂=>
  Yz (Q9 (RL h₂ (λacc s₃ h₃=>Q9 (Rc (Q9 ?_))) λ_ _ h'=>h'))) λ_ _ h'=>h'))))))) λ_ _ h'=>h')
 refine Wx hc (λx hx=>nomatch hx) (λh4 hn4 hs4=>?_) hkind;have h₄:=h₃ h4 hn4 λb o e=>hs4.extBut b o (s_ (Rm e)) (Rg _ e);dsimp only;have hv:∀x∈(scope.names.filter λx=>(x.2 == .local || x.2 == .cell)&&x.1 !=(".0":Str)).reverse,x.2=.local->
   XZ (L2.compEnv env scope s₃.heap.objs.size) x.1=some .local:=λx hx hl=>by
  show(qy env scope).names.lookup x.1=some .local;rw[mM,hnames x (Mf.mp (NI.mp hx)).1 hl]
  rfl
 have hv':∀x∈(scope.names.filter λx=>(x.2 == .local || x.2 == .cell)&&x.1 !=(".0":Str)).reverse.drop 1++(scope.names.filter λx=>(x.2 == .local || x.2 == .cell)&&x.1 !=(".0":Str)).reverse.take 1,
   x.2=.local->XZ (L2.compEnv env scope s₃.heap.objs.size) x.1=some .local:=λx hx hl=>
  (C'.mp hx).elim (λz=>hv x (Ot z) hl) λz=>hv x (Ou z) hl
 refine Ry (Q9 (SN (Ry (wpAny_run (SH h₄ λr s' hr=>?_)))));cases r with
 |ok f=>
  refine Q9 (Ss (Q9 (Ry (RL hr (λ_ s'' hr'=>?_) λ_ _ h'=>h'))));obtain⟨m,hn,hr'⟩:=hr';exact Q9 (XA (cenv:=L2.compEnv env scope s₃.heap.objs.size) hkind _ s'' m hv' hn λh' m' _ hs'=>Rc (hr' h' hs'))
 |error x=>exact hr.elim
end
theorem zp(S:FnScope N ps esc){pos':Pos}(N':List Str)(fr:List (Option Nat))(nd:N'.Nodup){lw:Pos}(C:kY N esc sc N' fr=true)
  (hi:X.N[i]?=some x) (hx:Loc X.env.scope x) (hit:PI X target iter wi) (hg:∀s3 H3 fp,PG (bg X N' sc s3 H3 fp) target (g s3 H3 fp)) (ht:∀s3 H3 fp,PTs (bg X N' sc s3 H3 fp) ifs (tt s3 H3 fp)) (he:∀s3 H3 fp,PE (bg X N' sc s3 H3 fp) elt (te s3 H3 fp))
  (hsw:Ub (.ListComp elt [⟨target,iter,ifs,0⟩] sc lw) (some (.Name x pos')) pos.line X.env=pure true) (hf:X.fn x=true:=by rfl)
  (hc:X.calm=true:=by rfl) (hN:X.N=N:=by rfl) (hS:X.env.scope=esc:=by rfl) (hs:∀x,Sb iter X.env x=pure x:=by intro _;rfl):PS X (.Assign [.Name x pos'] (.ListComp elt [⟨target,iter,ifs,0⟩] sc lw) pos) (Eo (yA wi fr g tt te) (zf i)):=by
 have C:CompOk X.N X.env.scope sc N' fr:=rB (by rw[hN,hS];exact C);have hNd:X.N.Nodup:=by rw[hN];exact S.nd
 intro ac s σ H D I h;rw[exec_Assign_Name_used _ _ _ _ hsw];refine Q9 (TH (Q9 ?_));show Rh _ X.A (do let _ <-Uy (.ListComp elt [⟨target,iter,ifs,0⟩] sc lw) sc X.env _ (Zl []) false (RF iter X.env) (some (Uc (.Name x pos') X.env))) _ _ s;have hfr:∀x∈sc.names,x.2=.free->∃c,X.env.cells.lookup x.1=some c:=λx hx e=>I.ok.has x.1 (.inl (C.free x hx e));refine Q9 (RL (mR (g:=⟨target,iter,ifs,0⟩) (gs:=[]) (Q:=λ_ s'=>SP X ac D .next s') rfl hs C.nocell hfr C.kind C.names ?_) (λ_ s' hq=>Rc (Rc hq)) λ_ _ e=>e);refine thn (hit ac s σ H _ I h) λv s1 h1=>thn h1 λitv s2 h2=>?_;obtain⟨it,fp,tn,J,H2,e,I2,T,jp,f2,k2⟩:=h2;subst e;refine T5 ?_ (by show 0<=sizeLine;decide);have hfree:H2 s2.heap.objs.size=none:=I2.hok.fresh (c_ _);obtain⟨W,⟨m0,w0⟩,turn⟩:=k2 _ hfree {s2 with heap:=s2.heap.push { cls:=.type "list",data:=.seq ([]:List Q_).toArray} } (upd H2 s2.heap.objs.size (.lst [])) fp;have kp:∀b u,s2.heap.get? b=some u->(s2.heap.push { cls:=.type "list",data:=.seq ([]:List Q_).toArray}).get? b=some u:=λb u e=>Rg _ e;have I3:Inv X ac σ (upd H2 s2.heap.objs.size (.lst [])) {s2 with heap:=s2.heap.push { cls:=.type "list",data:=.seq ([]:List Q_).toArray} }:=
  I2.laid (t':=s2.toks) kp (c_ _) ⟨Me _,[],0,.nil,Ri _ rfl⟩
 have obj2:=T.obj 0 s2.heap jp;have fpne:∀b∈fp,b≠s2.heap.objs.size:=λb hb=>by obtain⟨o,ho,_⟩:=obj2 b hb;exact s_ (Rm ho)
 have f3:∀b∈fp,mN X ac (upd H2 s2.heap.objs.size (.lst [])) b:=λb hb=>⟨by rw[aH (fpne b hb)];exact(f2 b hb).1,(f2 b hb).2⟩
 have kw:=T.keep 0 s2.heap _ jp λb hb o e=>kp b o e;have obj3:=T.obj 0 _ kw;intro h4 hn4 hk4;have st4:=T.keep 0 _ h4 kw λb hb o e=>hk4 b o e;have I4:=vq (N':=N') (fr:=fr) (fp:=fp) I3 C hc f3 (λb hb=>let ⟨o,ho,_⟩:=obj3 b hb;⟨o,ho⟩) hn4 hk4;have stat:∀{H':Hp},(∀b∈fp,H' b=none)->∀b∈fp,mN (bg X N' sc {s2 with heap:=s2.heap.push { cls:=.type "list",data:=.seq ([]:List Q_).toArray} } (upd H2 s2.heap.objs.size (.lst [])) fp) [] H' b:=λhn b hb=>
  ⟨hn b hb,(I4.ok.exf b hb).1,I4.ok.exfs b hb,.inl hb,(I4.ok.exf b hb).2,λp hp=>(nomatch hp)⟩
 have loop:S7 (Rn X.prog X.w) X.A (.compLoop (.ListComp elt [⟨target,iter,ifs,0⟩] sc lw) 0 (.ref it) (.ref s2.heap.objs.size) (L2.compEnv X.env sc (s2.heap.push { cls:=.type "list",data:=.seq ([]:List Q_).toArray}).objs.size))
   (λr s'=>match r with
    | .ok _=>Rh (Rn X.prog X.w) X.A (Uc (.Name x pos') X.env (.ref s2.heap.objs.size)) (λ_ s''=>∃m,s''.heap.Ns (s2.heap.push { cls:=.type "list",data:=.seq ([]:List Q_).toArray}).objs.size m/\∀h',RN (s2.heap.push { cls:=.type "list",data:=.seq ([]:List Q_).toArray}).objs.size s''.heap h'->SP X ac D .next {s'' with heap:=h'}) X.xe s'
    | .error x=>False) {s2 with heap:=h4}:=by
  refine oX (λn s'=>∃i f8 H',Inv (bg X N' sc {s2 with heap:=s2.heap.push { cls:=.type "list",data:=.seq ([]:List Q_).toArray} } (upd H2 s2.heap.objs.size (.lst [])) fp) [] f8 H' s'/\tn i s'.heap/\(∀b∈fp,H' b=none)/\W i n f8 H') ?_ m0
   ⟨0,_,_,I4,st4,λb hb=>(f3 b hb).1,w0⟩
  rintro n s5 ⟨j,σ5,H5,I5,st5,fr5,w5⟩;rcases turn j n σ5 H5 w5 with⟨stop,q⟩|⟨go,step⟩
  ·refine thn (T.done (bg X N' sc _ _ fp) rfl rfl rfl rfl j [] s5 σ5 H5 (λ_ _=>False) I5 (stat fr5) st5 stop) ?_;rintro r s6 ⟨hr,I6⟩;subst hr;obtain⟨m6,hn6,_⟩:=id I6.loc;have hL:H5 (s2.heap.push { cls:=.type "list",data:=.seq ([]:List Q_).toArray}).objs.size=none:=I6.free;have I7:Inv X ac σ H5 s6:=I3.GL (s':=s6) (ch:=fp) I6.os I6.base I6.hok I6.bare (λb hb=>by obtain⟨_,g1,g2,g3,g4,g5⟩:=f3 b hb;exact⟨g3,g1,g4,g5⟩)
   have Lne:(s2.heap.push { cls:=.type "list",data:=.seq ([]:List Q_).toArray}).objs.size≠X.env.locals:=MY I3.lt;have cne:∀y c,X.env.cells.lookup y=some c->c≠(s2.heap.push { cls:=.type "list",data:=.seq ([]:List Q_).toArray}).objs.size:=λy c e=>by obtain⟨v',z⟩:=I3.cell y c e;exact s_ z.lt
   refine Xc (rZ (v:=.ref s2.heap.objs.size) I7 hNd hi hx rfl (λs8 I8 ⟨a8,sb8,ha8⟩=>?_) (.inl hf));refine⟨m6,hn6.sameBut sb8 (λz=>ha8.elim (λw'=>Lne (z.trans w')) λw'=>cne _ _ w' z.symm),λh' hs'=>⟨_,H5,?_,q⟩⟩;refine I8.turned (it:=(s2.heap.push { cls:=.type "list",data:=.seq ([]:List Q_).toArray}).objs.size) (t':=s8.toks) (λb o hb e=>(hs'.2 b hb).trans e) hL Lne (.inr I3.sz) cne λp hp z=>?_;have lt:=Rm (I3.pin p hp).1;rw[z]at lt;exact MW _ lt
  refine thn (T.item (bg X N' sc _ _ fp) rfl rfl rfl rfl j [] s5 σ5 H5 (λ_ _=>False) I5 (stat fr5) st5 go) ?_;rintro r s6 ⟨u,hr,h6⟩;subst hr;refine thn h6 ?_;rintro _ s7 ⟨y,H7,I7,r7,y7,st7,fr7⟩;have I7':=I7.pinned (stat fr7) (T.obj _ _ st7);have again:∀{σ8:St}{H8:Hp}{s8:Rf},Inv (bg X N' sc {s2 with heap:=s2.heap.push { cls:=.type "list",data:=.seq ([]:List Q_).toArray} } (upd H2 s2.heap.objs.size (.lst [])) fp) ([]++nK fp s7.heap) σ8 H8 s8->(∃m',m'<n/\W (j+1) m' σ8 H8)->
    ∃m,m<n/\∃i f8 H',Inv (bg X N' sc {s2 with heap:=s2.heap.push { cls:=.type "list",data:=.seq ([]:List Q_).toArray} } (upd H2 s2.heap.objs.size (.lst [])) fp) [] f8 H' s8/\tn i s8.heap/\(∀b∈fp,H' b=none)/\W i m f8 H':=λ{σ8 H8 s8} I8 ⟨m',hm,w8⟩=>by
   refine⟨m',hm,j+1,σ8,H8,I8.lq,T.keep _ _ _ st7 λb hb o e=>(I8.pin (b,o) (u_ _ (u_ _ (iy hb e)))).1,λb hb=>?_,w8⟩;obtain⟨o,e,d⟩:=T.obj _ _ st7 b hb;exact(I8.pin (b,o) (u_ _ (u_ _ (iy hb e)))).2.1
  refine thn (hg _ _ fp _ s7 σ5 H7 y u _ I7' r7 (step y H7 y7)) ?_;rintro _ s8 ⟨σ8,H8,I8,q8⟩;refine thn (ht _ _ fp _ s8 σ8 H8 _ I8 q8) ?_;rintro ok s9 ⟨H9,I9,q9⟩;cases ok with
  |false=>exact again I9 q9
  |true=>
   refine thn (he _ _ fp _ s9 σ8 H9 _ I9 q9) ?_;rintro y s10 ⟨v,H10,I10,r10,ys,hys,hl,q10⟩;refine thn (oA _ s10 σ8 H10 (.ref s2.heap.objs.size) [v] (.ref s2.heap.objs.size) [y] (λ_ H'=>∃m',m'<n/\W (j+1) m' σ8 H') I10 rfl (.cons r10 .nil) ⟨_,ys,v,rfl,rfl,hys,hl,q10⟩) ?_;rintro z s11 ⟨_,H11,I11,_,q11⟩;exact again I11 q11
 refine V5 loop ?_;exact T.self X.A 0 _ _ _ st4 loop
section
variable{X:Cx}
theorem MtM.imp {id:String}{r r':V->List V->Hp->VK->Prop}(h:MtM X id r)(k:∀x xs H Q,r' x xs H Q->r x xs H Q):MtM X id r':=λac s σ H x xs v us Q I r1 r2 q=>h ac s σ H x xs v us Q I r1 r2 (k _ _ _ _ q)
theorem xO:MtM X "list.extend" (λx vs H Q=>∃l b xs zs,x=.ref l/\vs=[.ref b]/\H l=some (.lst xs)/\H b=some (.lst zs)/\xs.length+zs.length<=sizeLine/\∀H',Put H l (.lst (xs++zs)) H'->Q .non H'):=zZ.imp (by rintro x vs H Q ⟨l,b,xs,zs,e1,e2,h1,h2,hz,q⟩;exact⟨l,b,xs,zs,e1,e2,h1,h2,hz,q _ Put.up⟩)
theorem xy:MtM X "list.append" (λx vs H Q=>∃l xs y,x=.ref l/\vs=[y]/\H l=some (.lst xs)/\xs.length<sizeLine/\∀H',Put H l (.lst (xs++[y])) H'->Q .non H'):=oA.imp (by rintro x vs H Q ⟨l,xs,y,e1,e2,h1,hz,q⟩;exact⟨l,xs,y,e1,e2,h1,hz,q _ Put.up⟩)
end
end L2
namespace ZG
open PySem
theorem E9{prog:Rj}{w:Ro}{A:Rw}(hh:A.handled=none)(b:Bool)(it l:Ra)(ld:l≠it)(items:Array Q_) :
  Draws prog w A it [it,l] items.size (λi v=>items[i]?=some v) (λi h=>Dr b h it l i/\Sq b h l items) where
 live:=λ_ _ st=>let ⟨o,ho,_⟩:=st.1.some;⟨o,ho⟩
 frame:=λ_ _ _ st hk=>⟨st.1.at λo e=>hk it (by simp) o e,st.2.at λo e=>hk l (by simp) o e⟩
 item:=λi s Q E hi st hQ=>by
  refine sX st.1 st.2 (v:=items[i]) (by simp[hi]) λh' hit' hs'=>?_
  exact hQ _ h' s.toks (by simp[hi]) ⟨hit',st.2.ext hs'.extBut ld⟩ hs'
 done:=λs Q E st hE=>BC hh st.1 st.2 (by simp) hE
set_option maxHeartbeats 1000000 in
theorem A5(l:Ra)(items:Array Q_)(n:Nat)(dct:Option Ra)(sl:Array (Option Q_)) :
  Meets (R9.«enumerate.__new__» ⟨[.type "enumerate",.ref l],[]⟩) (λ_ R s=>s.heap.get? l=some { cls:=.type "tuple",dict:=dct,data:=.seq items n,slots:=sl}/\
   R (.ok (.ret (.ref (s.heap.push { cls:=.type "tuple_iterator",data:=.fields #[.ref l,.int 0 0] }).objs.size)))
    {s with heap:=(s.heap.push { cls:=.type "tuple_iterator",data:=.fields #[.ref l,.int 0 0] }).push { cls:=.type "enumerate",data:=.fields #[.none,.bool false,.ref s.heap.objs.size,R8 0,.none,.none] } }):=
 .of_wp λprog w A R s h=>by
  obtain⟨hp,g,d,tk,os⟩:=s;obtain⟨hl,h⟩:=h;have hsub:=sub_enumerate;have hL:VF (T_ ⟨hp,g,d,tk,os⟩) l items:=⟨_,hl,rfl,n,rfl⟩
  wp_walk using Tx hl
  refine wpAny_stack_any λst=>Rc ?_;split
  ·rename_i c _ _ _ _ _;cases (c == Sr "enumerate")
   ·wp_walk using Tx hl,Sa hL
    exact⟨_,rfl,h⟩
   wp_walk using Tx hl,Sa hL
   exact⟨_,rfl,h⟩
  wp_walk using Tx hl,Sa hL
  exact⟨_,rfl,h⟩
variable {Q:Q_->Rf->Prop}
section
variable{prog:Rj}{w:Ro}{A:Rw}{E:Q_->Rf->Prop}{s:Rf}
theorem xW{l:Ra}{items:Array Q_}(hL:s.heap.IsTuple l items)
  (h:∀h',YQ h' (s.heap.objs.size+1) s.heap.objs.size 0 .none->h'.IsTupleIter s.heap.objs.size l 0->h'.objs.size=s.heap.objs.size+2->
   (∀b o,s.heap.get? b=some o->h'.get? b=some o)->Q (.ref (s.heap.objs.size+1)) {s with heap:=h'}) :
  Rh (Rn prog w) A (call (.type "enumerate") [.ref l]) Q E s:=by
 obtain⟨⟨c,dct,dt,sl⟩,hl,hc,n,hd⟩:=hL;replace hc:c=.type "tuple":=hc;replace hd:dt=.seq items n:=hd;subst hc hd;refine YO F.called_enumerate (by decide) (F.typeCall_enumerate_1 _) (F.newCall_enumerate_1 _) (λobj=>F.args_object_init_2 obj _) F.entry_enumerate_new
  (A5 l items n dct sl) ⟨hl,?_⟩
 have hz:(s.heap.push { cls:=.type "tuple_iterator",data:=.fields #[.ref l,.int 0 0] }).objs.size=s.heap.objs.size+1:=RK ..;show _/\_;rw[hz];have he:YQ ((s.heap.push { cls:=.type "tuple_iterator",data:=.fields #[.ref l,.int 0 0] }).push
   { cls:=.type "enumerate",data:=.fields #[.none,.bool false,.ref s.heap.objs.size,R8 0,.none,.none] }) (s.heap.objs.size+1) s.heap.objs.size 0 .none:=by
  have:=Ri (s.heap.push { cls:=.type "tuple_iterator",data:=.fields #[.ref l,.int 0 0] })
   (o:={ cls:=.type "enumerate",data:=.fields #[.none,.bool false,.ref s.heap.objs.size,R8 0,.none,.none] }) rfl
  rw[hz]at this;exact this
 refine⟨⟨_,he,rfl⟩,h _ he ⟨_,Rg _ (Ri _ rfl),rfl,rfl⟩ (by rw[RK,hz]) λb o x=>Rg _ (Rg _ x)⟩
theorem xZ{b:Bool}{l:Ra}{items:Array Q_}(hL:Sq b s.heap l items)
  (h:∀h',YQ h' (s.heap.objs.size+1) s.heap.objs.size 0 .none->Dr b h' s.heap.objs.size l 0->h'.objs.size=s.heap.objs.size+2->
   (∀b o,s.heap.get? b=some o->h'.get? b=some o)->Q (.ref (s.heap.objs.size+1)) {s with heap:=h'}) :
  Rh (Rn prog w) A (call (.type "enumerate") [.ref l]) Q E s:=by
 cases b with
 |true=>exact xW hL h
 |false=>exact call_enumerate_list hL h
end
end ZG
namespace L2
open PySem PySem.Spec PyProof.Rows
def Ite(K:Rb)(b:Bool)(a:Ra):It:=
  ⟨λi H=>∃xs x,SqG b K H a xs/\xs[i]?=some x,
   λi H v H'=>∃p x,H p=none/\v=.ref p/\H'=upd H p (.tup [.int i,x])/\∀xs,SqG b K H a xs->xs[i]?=some x,
   λi H=>∃xs,SqG b K H a xs/\xs.length=i⟩
variable {es:List Rr}
theorem AZ{P:Rj}{w:Ro}{K:Rb}{x1:Nat}{tp:Pos}(b:Bool)(a e it:Ra)(D:e≠it) :
  Turn P w K (.Tuple es x1 tp) (Ite K b a) [e,it] e (λi h=>(∃old,YQ h e it i old)/\ZG.Dr b h it a i) where
 mem:=by simp
 obj:=λi h st c hb=>by
  obtain⟨⟨old,he⟩,d⟩:=st;have hb:c=e\/c=it:=by simpa using hb
  rcases hb with rfl|rfl
  ·exact⟨_,he,λv z=>by cases (show Xm _=VO v from z)⟩
  exact d.some
 keep:=λi h h' st k=>by obtain⟨⟨old,he⟩,d⟩:=st;exact⟨⟨old,k e (by simp) _ he⟩,d.at λo z=>k it (by simp) o z⟩
 item:=by
  intro X hP hw hK hc i ac s σ H E I hf st hg;subst hP hw hK;obtain⟨xs,x,q1,hx⟩:=hg;obtain⟨be,rv,p1,z1⟩:=I.sq q1;obtain⟨u,hu,ru⟩:=rv.get hx;obtain⟨⟨old,he⟩,d⟩:=st;have fe:=hf e (by simp);have fi:=hf it (by simp);have nai:=I.ir q1 fi;have nae:=I.ir q1 fe;have hlt:i<be.toArray.size:=by have:=(e_.mp hu).1;simpa using this
  refine wpAny_pyNext_enum_itemD (ZG.E9 (A:=X.A.in1) (I.ok.hd hc) b it a nai be.toArray) he ⟨d,p1⟩ hlt D (by simp[D,nae.symm]) λy h1 tk hP hO hst hT hsz hk=>⟨_,rfl,?_⟩
  have ey:y=u:=by
   have e1:be.toArray[i]?=some u:=by simpa using hu
   rw[e1]at hP;exact(H_ hP).symm
  subst ey;refine wpAny_letOwnedTupleGo_enum (s:={s with heap:=h1,toks:=tk+1}) hO λh' he' hs'=>?_;have hfresh:H s.heap.objs.size=none:=I.hok.fresh (c_ _);have eT:s.heap.objs.size≠e:=MY (Rm he);have kp:∀c o,c ∉ [e,it]->s.heap.get? c=some o->h'.get? c=some o:=λc o hb z=>by
   have n:c≠e/\c≠it:=by simpa using hb
   exact hs'.extBut _ _ n.1 (hk c o n.1 n.2 z)
  have hT':h'.get? s.heap.objs.size=some { cls:=.type "tuple",data:=.seq #[.int i tk,y] }:=hs'.extBut _ _ eT hT;have notfp:∀c o,H c=some o->c ∉ [e,it]:=λc o z hb=>by have:=(hf c hb).1;rw[z]at this;cases this
  have ne:∀c o,s.heap.get? c=some o->c≠s.heap.objs.size:=λc o z=>s_ (Rm z);have nt:∀c o,H c=some o->c≠s.heap.objs.size:=λc o z=>d7 z hfresh;have I1:Inv X ac σ (upd H s.heap.objs.size (.tup [.int i,x])) {s with heap:=h',toks:=tk+1}:=by
   refine I.step (g':=s.gens) (d':=s.drawn) (t':=tk+1) (ch:=[e,it]) (λc hb=>?_) (λc o _ _ hc z _=>kp c o hc z) (λc o _ _ hc z _=>⟨o.slots,kp c o hc z⟩)
    (λc o _ z n=>by rw[aH (ne c o z)];exact n) (λc o hc z=>⟨o,kp c o hc z⟩) (λc zs z=>by rw[aH (nt c _ z)];exact z) (λc o u z=>by rw[aH (nt c _ z)];exact z)
    (λc ps z=>⟨#[],by rw[aH (nt c _ z),z];simp⟩) (λm hm=>?_) (λc o z=>?_) I.bare
   ·obtain⟨g0,g1,g2,g3,g4,g5⟩:=hf c hb;exact⟨g3,g1,g4,g5⟩
   ·obtain⟨o,es,ep,ho',r⟩:=hm;exact⟨o,es,ep,kp _ o (λhb=>(hf _ hb).2.1 rfl) ho',r⟩
   by_cases hb:c=s.heap.objs.size
   ·subst hb;rw[aU]at z;cases z;exact⟨by show 2<=sizeLine;decide,[.int i tk,y],.cons ⟨tk,rfl⟩ (.cons ru .nil),_,hT',rfl,_,rfl⟩
   rw[aH hb]at z;refine(I.hok c o z).pL (λc' w' hc' q=>kp c' w' ?_ q) (λc' q=>by rw[aH (nt c' _ q)];exact q) λc' zs q=>by rw[aH (nt c' _ q)];exact q
   rcases hc' with rfl|hc'
   ·exact notfp _ _ z
   exact notfp _ _ hc'
  refine⟨.ref s.heap.objs.size,_,I1,rfl,⟨s.heap.objs.size,x,hfresh,rfl,rfl,λzs hq=>by rw[I.xw hq q1];exact hx⟩,?_,λc hb=>?_⟩
  ·exact⟨⟨_,he'⟩,hst.1.ext hs'.extBut D.symm⟩
  have hb0:=(hf c hb).1;have hb':c=e\/c=it:=by simpa using hb
  have hlt:∃o,s.heap.get? c=some o:=by
   rcases hb' with rfl|rfl
   ·exact⟨_,he⟩
   obtain⟨o,z,_⟩:=d.some;exact⟨o,z⟩
  obtain⟨o,z⟩:=hlt;rw[aH (ne c o z)];exact hb0
 done:=by
  intro X hP hw hK hc i ac s σ H E I hf st hg;subst hP hw hK;obtain⟨xs,q1,hn⟩:=hg;obtain⟨be,rv,p1,z1⟩:=I.sq q1;obtain⟨⟨old,he⟩,d⟩:=st;have fe:=hf e (by simp);have fi:=hf it (by simp);have nai:=I.ir q1 fi;have l1:=rv.length;have en:be.toArray.size=i:=by simp;omega
  refine wpAny_pyNext_enum_endD (ZG.E9 (A:=X.A.in1) (I.ok.hd hc) b it a nai be.toArray) he (by rw[en];exact⟨d,p1⟩) λg gk=>⟨rfl,?_⟩
  have kp:∀c o,c ∉ [e,it]->s.heap.get? c=some o->g.get? c=some o:=λc o hb z=>by
   have n:c≠e/\c≠it:=by simpa using hb
   exact gk c o n.2 z
  have notfp:∀c o,H c=some o->c ∉ [e,it]:=λc o z hb=>by have:=(hf c hb).1;rw[z]at this;cases this
  refine I.step (g':=s.gens) (d':=s.drawn) (t':=s.toks) (ch:=[e,it]) (λc hb=>?_) (λc o _ _ hc z _=>kp c o hc z) (λc o _ _ hc z _=>⟨o.slots,kp c o hc z⟩)
   (λc o _ z n=>n) (λc o hc z=>⟨o,kp c o hc z⟩) (λc zs z=>z) (λc o u z=>z) (λc ps z=>⟨#[],by rw[z];simp⟩) (λm hm=>?_) (λc o z=>?_) I.bare
  ·obtain⟨g0,g1,g2,g3,g4,g5⟩:=hf c hb;exact⟨g3,g1,g4,g5⟩
  ·obtain⟨o,es,ep,ho',r⟩:=hm;exact⟨o,es,ep,kp _ o (λhb=>(hf _ hb).2.1 rfl) ho',r⟩
  refine(I.hok c o z).pL (λc' w' hc' q=>kp c' w' ?_ q) (λc' q=>q) λc' zs q=>q;rcases hc' with rfl|hc'
  ·exact notfp _ _ z
  exact notfp _ _ hc'
 self:=λ_ _ _ _ _ st h=>by obtain⟨⟨old,he⟩,_⟩:=st;exact Xh he h
def Lm(K:Rb)(ta:TA):TI:=λσ H R=>ta σ H λvs H1=>∃b a,vs=[.ref a]/\(∃xs,SqG b K H1 a xs)/\R (Ite K b a) H1
theorem Es{X:Cx}{x1:Nat}{tp:Pos}{a:Rr}{ta:TA}{p pos:Pos}(hg:Gl X "enumerate")(hm:X.mg "enumerate"=none)(ha:PA X [a] ta)(hs:Ru [a] X.env=[(false,RF a X.env)]:=by rfl) :
  PI X (.Tuple es x1 tp) (.Call (.Name "enumerate" p) [a] [] pos) (Lm X.K ta):=by
 intro ac s σ H R I h;refine Zp (jH I hg hm boot_enumerate (SD (thn (ha pos ac s σ H _ I h) λus s1 ⟨vs,H1,I1,r1,q1⟩=>?_) hs rfl));obtain⟨b,a,e,⟨xs,q1⟩,q⟩:=q1;subst e;cases r1 with
 |cons r rr=>
  cases rr;cases r;obtain⟨be,rv,p1,z1⟩:=I1.sq q1;refine ZG.xZ p1 λg gz g1 gs gk=>Xh (s:={s1 with heap:=g}) gz ?_;have I2:Inv X ac σ H1 {s1 with heap:=g}:=I1.kept (t':=s1.toks) gk;refine⟨_,_,_,_,H1,rfl,I2,AZ b a _ s1.heap.objs.size (show(_:Nat)≠_ by omega),⟨⟨_,gz⟩,g1⟩,λc hb=>?_,q⟩;have hb':s1.heap.objs.size<=c:=by
   have z:c=s1.heap.objs.size+1\/c=s1.heap.objs.size:=by simpa using hb
   rcases z with z|z <;> rw[z] <;>(show(_:Nat)<=_) <;> omega
  exact I1.ve hb' (I1.hok.fresh hb')
end L2
namespace ZG
open PySem
open Sem (wp)
variable {Q:Option Q_->Rf->Prop}{d:Ra}{ep:Nat}{es:Array Td}{o:Obj}
section
variable{prog:Rj}{w:Ro}{A:Rw}{E:Q_->Rf->Prop}{s:Rf}
theorem GU{Q:Q_->Rf->Prop}(hd:(d == RI)=false)(ho:s.heap.get? d=some o)(hc:o.ExactDict)(hdat:o.data=.dict es ep)
  (hQ:Q (.ref s.heap.objs.size) {s with heap:=s.heap.push { cls:=.type "dict_keyiterator",data:=.fields #[.ref d,.int 0 0,.int es.size 0,.int ep 0] } }):Rh (Rn prog w) A (Ut (.ref d)) Q E s:=by
 have hT:s.TypeIs (.ref d) "dict":=⟨o,ho,hc.1⟩;refine Vm hT XC (RM XC hT F.entry_dict_iter ?_ (F.args_dict_iter_1 _));unfold R9.«dict.__iter__» YI;refine Q9 (Q9 (Tn hT (show Rh _ _ (pure (Rz d)) _ _ s from Rc (show Rh _ _ (UB d >>= _) _ _ s from ?_))));unfold UB;rw[if_neg (by rw[hd];exact C_)];exact Q9 (Rc (Q9 (RY ho hdat (Q9 (Ua ho hdat (Q9 (RA (Rc ⟨_,rfl,"dict_keyiterator",_,⟨_,Ri _ rfl,rfl⟩,Sx.lookup,by simpa[R8]using hQ⟩))))))))
theorem GN{it:Ra}{i:Nat}{e:Td}(hit:s.heap.IsKeyIter it d i es.size ep)(hod:s.heap.get? d=some o)(hdd:o.data=.dict es ep)(hx:es[i]?=some e)
  (hQ:∀h',h'.IsKeyIter it d (i+1) es.size ep->RN it s.heap h'->Q (some e.key) {s with heap:=h'}):Rh (Rn prog w) A (SQ (.ref it)) Q E s:=by
 obtain⟨oi,ho,hc,hd⟩:=id hit;unfold SQ;refine Q9 (SN (RS (name:=SJ "__next__") hit.typeIs Sx (RM Sx hit.typeIs US ?_ (UN _))));refine Q9 (Rc (Q9 (Q9 ?_)));refine Q9 (S6 hit.typeIs (Rc (Q9 (U1 ho hd ?_))));simp only[show U2 "dict_keyiterator"=false by decide,I_,if_false];show Rh _ _ (if(Rz d == R0)=true then _ else _) _ _ s;rw[if_neg (show ¬(Rz d == R0)=true from λz=>C_ z)];refine Q9 (Rc (Q9 (RY hod hdd ?_)));rw[if_neg (show ¬_ by simp)];refine Q9 (Rc (Q9 (Ua hod hdd ?_)));rw[if_neg (show ¬_ by simp)];refine Rc ?_;simp only[show ¬(i:Int)<0 by lia,if_false,Mr,hx];refine Q9 (Q9 (S6 hit.typeIs (Rc (Q9 (Wa hit.typeIs ?_)))));show Rh _ _ (setField (.ref it) 1 (R8 ((i:Int)+1)) >>= _) _ _ s;refine Q9 (Sv ho hd (by simp) ?_);have hit':(s.heap.update it (T6 (·.setIfInBounds 1 (R8 ((i:Int)+1))))).IsKeyIter it d (i+1) es.size ep:=
  ⟨_,RR _ ho (SU (RO hd _)),(TM ..).trans hc,by rw[RO hd];simp[R8]⟩
 exact Q9 (Ry (Q9 (Wa (s:={s with heap:=s.heap.update it (T6 (·.setIfInBounds 1 (R8 ((i:Int)+1)))) }) hit'.typeIs (show Rh _ _ (pure e.key) _ _ _ from Rc (Rc ⟨_,rfl,Rc (hQ _ hit' (RD ..))⟩)))))
theorem Li{it:Ra}{i:Nat}(hh:A.handled=none)(hit:s.heap.IsKeyIter it d i es.size ep)(hod:s.heap.get? d=some o)(hdd:o.data=.dict es ep)(hx:es[i]?=none)
  (hQ:∀h',TJ it s.heap h'->Q none {s with heap:=h'}):Rh (Rn prog w) A (SQ (.ref it)) Q E s:=by
 obtain⟨oi,ho,hc,hd⟩:=id hit;unfold SQ;refine Q9 (SN (RS (name:=SJ "__next__") hit.typeIs Sx (RM Sx hit.typeIs US ?_ (UN _))));refine Q9 (Rc (Q9 (Q9 ?_)));refine Q9 (S6 hit.typeIs (Rc (Q9 (U1 ho hd ?_))));simp only[show U2 "dict_keyiterator"=false by decide,I_,if_false];show Rh _ _ (if(Rz d == R0)=true then _ else _) _ _ s;rw[if_neg (show ¬(Rz d == R0)=true from λz=>C_ z)];refine Q9 (Rc (Q9 (RY hod hdd ?_)));rw[if_neg (show ¬_ by simp)];refine Q9 (Rc (Q9 (Ua hod hdd ?_)));rw[if_neg (show ¬_ by simp)];refine Rc ?_;simp only[show ¬(i:Int)<0 by lia,if_false,Mr,hx];refine Q9 (Q9 (S6 hit.typeIs (Rc ?_)));show Rh _ _ (setField (.ref it) 0 .none >>= _) _ _ s;refine Q9 (Sv ho hd (by simp) (show Rh _ _ (VE (.type "StopIteration") [] >>= _) _ _ _ from Q9 ?_));simp only[VE,Xw];refine Q9 (RA (Q9 (m:=S8 _ _) (T9 (a:=R0) (by first|rfl|(simp only[S8];rfl)) (RA ?_ (by size_fits)))) (by size_fits));simp only[Xx];refine Q9 (Vf ?_);rw[show A.in1.handled=none from hh];refine Q9 (Rc (V4 ?_));refine Q9 (Tw (T:="StopIteration") (b:=true) (by exact⟨_,Ri _ rfl,rfl⟩) U0 (Rc ?_));exact hQ _ (((RD ..).extBut.push _).push _)
end
open Sem (wp)
theorem oW:XD Zq "dict.update.loop"=some R9.«dict.update.loop»:=XE (by kernel_rfl)
theorem jr:plainId "dict.update.loop"=true:=by rfl'
section
variable{prog:Rj}{w:Ro}{Kk:Type}[DecidableEq Kk]{knd:KeyKind prog w Kk}{A:Rw}{E:Q_->Rf->Prop}{R:WY->Rf->Prop}{s:Rf}
noncomputable def oC(knd:KeyKind prog w Kk)(h:Rq)(v:Q_)(x:List Kk×Ra×Q_):Prop:=∃p o n,v=.ref p/\h.get? p=some o/\o.cls=.type "tuple"/\o.data=.seq #[.ref x.2.1,x.2.2] n/\X1 knd h x.1 x.2.1
theorem oC.at {h h':Rq}{v:Q_}{x:List Kk×Ra×Q_}(q:oC knd h v x)(k:∀b o,(∃y n,o.data=.seq y n)->h.get? b=some o->h'.get? b=some o):oC knd h' v x:=by obtain⟨p,o,n,e,h1,h2,h3,o2,be,n2,g1,g2,g3,g4⟩:=q;exact⟨p,o,n,e,k _ _ ⟨_,_,h3⟩ h1,h2,h3,o2,be,n2,k _ _ ⟨_,_,g3⟩ g1,g2,g3,g4⟩
noncomputable def putAll(xs:List (List Kk×Ra×Q_)):List (List Kk×Ra×Q_):=xs.foldl (λa x=>Uk a x.1 x.2.1 x.2.2) []
theorem putAll_snoc(xs:List (List Kk×Ra×Q_))(x:List Kk×Ra×Q_):putAll (xs++[x])=Uk (putAll xs) x.1 x.2.1 x.2.2:=by
 unfold putAll;rw[OQ]
 rfl
theorem vB(xs:List (List Kk×Ra×Q_))(k:List Kk)(a:Ra)(v:Q_):(Uk xs k a v).length<=xs.length+1:=by
 unfold Uk;split
 ·rw[a_];lia
 rw[n_];exact c_ _
theorem xj(xs:List (List Kk×Ra×Q_)):(putAll xs).length<=xs.length:=by
 have g:∀(ys acc:List (List Kk×Ra×Q_)),(ys.foldl (λa x=>Uk a x.1 x.2.1 x.2.2) acc).length<=acc.length+ys.length:=by
  intro ys;induction ys with
  |nil=>intro acc;exact c_ _
  |cons y r ih=>
   intro acc;rw[MU,gV];have h1:=ih (Uk acc y.1 y.2.1 y.2.2);have h2:=vB acc y.1 y.2.1 y.2.2;lia
 have:=g xs [];simpa[putAll]using this
theorem xN(I l d:Ra)(kvs:List (List Kk×Ra×Q_))(items:Array Q_)(hz:kvs.length<=sizeLine)(hu:A.in1.units<cLine)(hh:A.in1.handled=none)(hsz:items.size=kvs.length) :
  ∀(k i:Nat) (s:Rf),kvs.length-i=k->i<=kvs.length->s.heap.IsListIter I l i->s.heap.IsList l items->(∀(j:Nat) x v,kvs[j]?=some x->items[j]?=some v->oC knd s.heap v x)->s.heap.DictOfH (Sl knd) d (putAll (kvs.take i))->
   (∀s':Rf,(∀b o,b≠d->b≠I->s.heap.get? b=some o->s'.heap.get? b=some o)->s'.gens=s.gens->s'.drawn=s.drawn->s'.os=s.os->s'.heap.DictOfH (Sl knd) d (putAll kvs)->R (.ok (.ret .none)) s')->
   S7 (Rn prog w) A (.builtin "dict.update.loop" ⟨[.ref d,.ref I,R8 i,.none],[]⟩) R s:=by
 intro k;induction k with
 |zero=>
  intro i s hk hi hit hl hp hd hR;have hin:i=kvs.length:=by lia
  subst hin;refine R1 oW ?_;rw[RU jr _];show Rh _ A.in1 (SQ (.ref I) >>= _) _ _ s;have dI:d≠I:=by obtain⟨od,es,ep,h1,_,h3,_⟩:=hd;obtain⟨oi,g1,_,g3⟩:=hit;intro z;rw[z,g1]at h1;cases h1;rw[g3]at h3;cases h3
  refine Q9 (V9 hh hit hl (by rw[Mm];lia) λh' he=>?_);show Rh _ A.in1 (YR d [] >>= _) _ _ _;refine Q9 (Rc (Rc (hR _ (λb o n1 n2 e=>he b o n2 e) rfl rfl rfl ?_)));rw[v_]at hd;obtain⟨o,es,ep,h1,h2,h3,h4,h5,h6⟩:=hd;refine⟨o,es,ep,he d o dI h1,h2,h3,h4,λx hx=>?_,h6⟩;obtain⟨o2,be,n2,g1,g2,g3,g4⟩:=h5 x hx;refine⟨o2,be,n2,he _ _ (λz=>?_) g1,g2,g3,g4⟩;obtain⟨oi,k1,_,k3⟩:=hit;rw[z,k1]at g1;cases g1;rw[k3]at g3;cases g3
 |succ k ih=>
  intro i s hk hi hit hl hp hd hR;have hlt:i<kvs.length:=by lia
  refine R1 oW ?_;rw[RU jr _];show Rh _ A.in1 (SQ (.ref I) >>= _) _ _ s;have hv:items[i]?=some items[i]:=k_ (by lia);have hx:kvs[i]?=some kvs[i]:=b_ hlt;have seqI:∀b o,(∃y n,o.data=.seq y n)->s.heap.get? b=some o->b≠I:=λb o ⟨y,n,q⟩ e z=>by obtain⟨oi,k1,_,k3⟩:=hit;rw[z,k1]at e;cases e;rw[k3]at q;cases q
  have seqD:∀b o,(∃y n,o.data=.seq y n)->s.heap.get? b=some o->b≠d:=λb o ⟨y,n,q⟩ e z=>by obtain⟨od,es,ep,h1,_,h3,_⟩:=hd;rw[z,h1]at e;cases e;rw[h3]at q;cases q
  have dI:d≠I:=by obtain⟨od,es,ep,h1,_,h3,_⟩:=hd;obtain⟨oi,g1,_,g3⟩:=hit;intro z;rw[z,g1]at h1;cases h1;rw[g3]at h3;cases h3
  have lI:l≠I:=by obtain⟨ol,h1,h2,n,h3⟩:=hl;exact seqI l ol ⟨_,_,h3⟩ h1
  have lD:l≠d:=by obtain⟨ol,h1,h2,n,h3⟩:=hl;exact seqD l ol ⟨_,_,h3⟩ h1
  refine Q9 (VZ hit hl hv λh' hit' hs'=>?_);have hp':=hp;obtain⟨p,o,n,ev,g1,g2,g3,gk⟩:=hp i _ _ hx hv;have k1:h'.get? p=some o:=(hs'.2 p (seqI p o ⟨_,_,g3⟩ g1)).trans g1;show Rh _ A.in1 (TC [items[i]] _ >>= _) _ _ _;refine Q9 (Ry ?_);rw[ev];have hT:({s with heap:=h'}:Rf).TypeIs (.ref p) "tuple":=⟨o,k1,g2⟩;refine Q9 (wpAny_tryCatch ?_);unfold Zc;refine Q9 (Ue hT ?_);rw[if_pos (by decide)];unfold VS;refine Q9 (Q9 (Vp k1 ?_));rw[g3];refine Rc (Rc ?_);show Rh _ A.in1 (TC [.ref kvs[i].2.1,kvs[i].2.2] (dictSet d (.ref kvs[i].2.1) kvs[i].2.2)) _ _ _;have hd':h'.DictOfH (Sl knd) d (putAll (kvs.take i)):=by obtain⟨o,es,ep,h1,h2,h3,h4,h5,h6⟩:=hd;refine⟨o,es,ep,(hs'.2 d dI).trans h1,h2,h3,h4,λx hx=>?_,h6⟩;obtain⟨o2,be,n2,g1,g2,g3,g4⟩:=h5 x hx;exact⟨o2,be,n2,(hs'.2 _ (seqI _ _ ⟨_,_,g3⟩ g1)).trans g1,g2,g3,g4⟩
  have gk':X1 knd h' kvs[i].1 kvs[i].2.1:=by obtain⟨o2,be,n2,g1,g2,g3,g4⟩:=gk;exact⟨o2,be,n2,(hs'.2 _ (seqI _ _ ⟨_,_,g3⟩ g1)).trans g1,g2,g3,g4⟩
  have hlen:(putAll (kvs.take i)).length<=sizeLine:=by have:=xj (kvs.take i);rw[L_]at this;lia
  refine Ry (wpAny_dictSet_heap (knd:=Sl knd) (s:={s with heap:=h'}) (hsz:=hlen) hu gk' hd' λh2 hd2 hs2=>?_);refine Rc ⟨S4 jr _,?_⟩;have et:kvs.take (i+1)=kvs.take i++[kvs[i]]:=by rw[Md,hx];rfl
  have ei:(R8 ((i:Int)+1))=R8 ((i+1:Nat):Int):=by push_cast;rfl
  have kk:∀b ob,b≠d->b≠I->s.heap.get? b=some ob->h2.get? b=some ob:=λb ob n1 n2 e=>(hs2.2 b n1).trans ((hs'.2 b n2).trans e);show S7 _ A (.builtin "dict.update.loop" ⟨[.ref d,.ref I,R8 ((i:Int)+1),.none],[]⟩) R _;rw[ei];refine ih (i+1) _ (by lia) hlt ?_ ?_ (λj x v e1 e2=>(hp j x v e1 e2).at λb ob q e=>kk b ob (seqD b ob q e) (seqI b ob q e) e) (by rw[et,putAll_snoc];exact hd2) λs' kp eg ed eo dd=>?_
  ·obtain⟨oi,q1,q2,q3⟩:=hit';exact⟨oi,(hs2.2 I dI.symm).trans q1,q2,q3⟩
  ·obtain⟨ol,q1,q2,q3⟩:=hl;exact⟨ol,kk l ol lD lI q1,q2,q3⟩
  exact hR s' (λb ob n1 n2 e=>kp b ob n1 n2 (kk b ob n1 n2 e)) eg ed eo dd
end
open Sem (wp)
section
variable{prog:Rj}{w:Ro}{A:Rw}{E:Q_->Rf->Prop}{s:Rf}
theorem B2:XR (.type "list") "keys"=pure none:=by rw[VT,UC];kernel_rfl
theorem BE{a:Ra}{xs:Array Q_}{k:Nat}(hx:s.heap.get? a=some o)(hc:o.cls=.type "list")(hdat:o.data=.seq xs k)(hd:o.dict=none)(hA:A.handled=none)
  (h:∀h' tk e,Heap.NewExcOf s.heap h' e "AttributeError"->Q none {s with heap:=h',toks:=tk}):Rh (Rn prog w) A (getAttr? (.ref a) "keys") Q E s:=by
 obtain⟨cl,dct,dat,sl⟩:=o;simp only at hc hdat hd;subst hc hdat hd;obtain⟨hp,gg,dr,tk,os⟩:=s;have hT:∀tk1,(⟨hp,gg,dr,tk1,os⟩:Rf).TypeIs (.ref a) "list":=λ_=>⟨_,hx,rfl⟩;have f1:=sub_AttributeError;have f3:=Uh.lookup;have f4:=Uh.bind (.ref a);have f5:=am_list_getattr_none;unfold getAttr? getAttrBy? getAttrBy
 repeat (any_goals (first|assumption|exact hT _|((with_reducible show Rh _ _ (call (Value.builtin "list.__getattribute__") _ _) _ _ _);refine UJ Uh (hT _) am_entry_list_getattribute (F.args_list_getattribute_2 _ _) (meets_getattribute_miss_list a xs k sl "keys" _ B2 (by rfl') (by rfl')) ⟨hx,hA,λh' tk' e hx'=>?_⟩)|wp_step))
 obtain⟨tt1,uu1,hee⟩:=hx'.there;refine(show Rh _ _ (W6 _ _ _ _ _ _ _) _ _ _ from ?_);unfold W6;repeat (any_goals (first|assumption|wp_step))
 exact h _ _ _ hx'.of
end
open Sem (wp)
section
variable{prog:Rj}{w:Ro}{Kk:Type}[DecidableEq Kk]{knd:KeyKind prog w Kk}{A:Rw}{E:Q_->Rf->Prop}{s:Rf}
theorem B9{l:Ra}{n:Nat}{kvs:List (List Kk×Ra×Q_)}{items:Array Q_}{Q:Q_->Rf->Prop}(hx:s.heap.get? l=some o)(hc:o.cls=.type "list")(hdat:o.data=.seq items n)(hd:o.dict=none)(hA:A.handled=none)
  (hu:A.units+20<cLine) (hz:kvs.length<=sizeLine) (hsz:items.size=kvs.length) (hp:∀(j:Nat) x v,kvs[j]?=some x->items[j]?=some v->oC knd s.heap v x)
  (h:∀h' tk,(∀b o,s.heap.get? b=some o->h'.get? b=some o)->h'.DictOfH (Sl knd) s.heap.objs.size (putAll kvs)->Q (.ref s.heap.objs.size) {s with heap:=h',toks:=tk}) :
  Rh (Rn prog w) A (call (.type "dict") [.ref l]) Q E s:=by
 refine callType_codes (Q₁:=λobj s₁=>obj=.ref s.heap.objs.size/\s₁={s with heap:=s.heap.push { cls:=.type "dict",data:=.dict #[] } }) F.kt_called_dict (F.kt_typeCall_dict_1 _) F.entry_dict_init (kt_code_dict_new _ ⟨rfl,rfl⟩) ?_;rintro obj s₁ ⟨rfl,rfl⟩;have k1:∀b ob,s.heap.get? b=some ob->(s.heap.push { cls:=.type "dict",data:=.dict #[] }).get? b=some ob:=λb ob e=>Rg _ e;have hnew:(s.heap.push { cls:=.type "dict",data:=.dict #[] }).DictOfH (Sl knd) s.heap.objs.size []:=ZU s.heap;refine⟨hnew.typeIs,F.args_dict_init_2 _ _,?_⟩;unfold R9.«dict.__init__» YS;refine Q9 (Q9 (Tn hnew.typeIs (show Rh _ _ (pure (s.heap.objs.size,[Rz l])) _ _ _ from Rc ?_)));show Rh _ _ (VM "dict.__init__" s.heap.objs.size (.ref l) [] .none) _ _ _;unfold VM;have hT:({s with heap:=s.heap.push { cls:=.type "dict",data:=.dict #[] } }:Rf).TypeIs (.ref l) "list":=⟨o,k1 _ _ hx,hc⟩;refine Q9 (Ue hT ?_);rw[if_pos (by decide)];refine Q9 (BE (s:={s with heap:=s.heap.push { cls:=.type "dict",data:=.dict #[] } }) (k1 _ _ hx) hc hdat hd (by simp[hA]) λh2 tk2 e2 hx2=>?_);have k2:∀b ob,(s.heap.push { cls:=.type "dict",data:=.dict #[] }).get? b=some ob->h2.get? b=some ob:=hx2.keeps;have hl2:({s with heap:=h2,toks:=tk2}:Rf).heap.IsList l items:=⟨o,k2 _ _ (k1 _ _ hx),hc,n,hdat⟩;refine Q9 (Ss ?_);refine Q9 (Sh hl2 ?_);refine Rc ⟨S4 jr _,?_⟩;have k3:∀b ob,h2.get? b=some ob->(h2.push { cls:=.type "list_iterator",data:=.fields #[.ref l,.int 0 0] }).get? b=some ob:=λb ob e=>Rg _ e;refine xN (knd:=knd) h2.objs.size l s.heap.objs.size kvs items hz (by simp;lia) (by simp[hA]) hsz (kvs.length-0) 0 _ rfl (Me _) ⟨_,Ri _ rfl,rfl,rfl⟩ (hl2.push _)
  (λj x v e1 e2=>(hp j x v e1 e2).at λb ob _ e=>k3 _ _ (k2 _ _ (k1 _ _ e))) ?_ λs' kp eg ed eo dd=>?_
 ·obtain⟨o',es,ep,h1,h2',h3,h4,h5,h6⟩:=hnew;exact⟨o',es,ep,k3 _ _ (k2 _ _ h1),h2',h3,h4,λx hx=>absurd (show x∈([]:List (List Kk×Ra×Q_))from hx) (by simp),h6⟩
 obtain⟨h',g',d',tk',os'⟩:=s';simp only at eg ed eo;subst eg ed eo;refine⟨rfl,h h' tk' (λb ob e=>kp b ob ?_ ?_ (k3 _ _ (k2 _ _ (k1 _ _ e)))) dd⟩
 ·exact s_ (Rm e)
 exact s_ (Rm (k2 _ _ (k1 _ _ e)))
end
end ZG
namespace L2
open PySem PySem.Spec PyProof.Rows
noncomputable def kI(ns:List Int):List Key:=ns.map Tf
theorem HK(ns:List Int):(kI ns).map kV=ns.map V.int:=by
 unfold kI;rw[F']
 rfl
theorem Bi{ns ms:List Int}(h:kI ns=kI ms):ns=ms:=(List.map_inj_right λ_ _ z=>Y7 z).mp h
def yQ(kvs:List (List Key×V)):List (List Key×V):=kvs.foldl (λa x=>putK a x.1 x.2) []
abbrev xR(H:Hp):List V->List (List Key×V)->Prop:=Ts λv x=>∃a b,v=.ref a/\H a=some (.tup [.ref b,x.2])/\H b=some (.tup (x.1.map kV))
theorem AU{H:Hp}:∀{kvs:List (List Key×V)}{xs:List (List Key×Ra×Q_)}{k0:List (List Key×V)}{x0:List (List Key×Ra×Q_)},KT H k0 x0->KT H kvs xs->
  KT H (kvs.foldl (λa x=>putK a x.1 x.2) k0) (xs.foldl (λa x=>Uk a x.1 x.2.1 x.2.2) x0):=by
 intro kvs xs k0 x0 r x;induction x generalizing k0 x0 with
 |nil=>exact r
 | @cons p q _ _ h t ih=>
  obtain⟨h1,h2,h3⟩:=h;refine ih (k0:=putK _ p.1 p.2) (x0:=Uk _ q.1 q.2.1 q.2.2) ?_;rw[<-h1];exact r.put p.1 h2 h3
theorem B5(kvs:List (List Key×V)):(yQ kvs).length<=kvs.length:=by
 have g:∀(ys acc:List (List Key×V)),(ys.foldl (λa x=>putK a x.1 x.2) acc).length<=acc.length+ys.length:=by
  intro ys;induction ys with
  |nil=>intro acc;exact c_ _
  |cons y r ih=>
   intro acc;rw[MU,gV];have h1:=ih (putK acc y.1 y.2);have h2:=js acc y.1 y.2;lia
 have:=g kvs [];simpa[yQ]using this
section
variable{X:Cx}{ac:List (Ra×Obj)}{σ:St}{H:Hp}{s:Rf}
theorem Ab(I:Inv X ac σ H s):∀{ys:List V}{us:List Q_}{kvs:List (List Key×V)},Vals ys us->xR H ys kvs->∃xs:List (List Key×Ra×Q_),KT H kvs xs/\xs.length=kvs.length/\us.length=kvs.length/\∀(j:Nat) x v,xs[j]?=some x->us[j]?=some v->ZG.oC (br X.prog X.w) s.heap v x:=by
 intro ys us kvs x;induction x generalizing kvs with
 |nil=>intro y;cases y;exact⟨[],.nil,rfl,rfl,λj x v e=>by simp at e⟩
 |cons hv tv ih=>
  intro y;rcases y with _|⟨hp,tp⟩;rename_i p kvs;obtain⟨xs,k,l1,l2,q⟩:=ih tp;obtain⟨a,b,e,ha,hb⟩:=hp;subst e;cases hv;obtain⟨_,be,r,o,h1,h2,n,h3⟩:=(show cz X.prog X.w H s.heap a (.tup [.ref b,p.2])from I.hok a _ ha);obtain⟨u1,u2,eu,r1,r2⟩:=Vals.two r;cases r1;subst eu;have ky:=mD I.hok hb;refine⟨(p.1,b,u2)::xs,.cons ⟨rfl,hb,r2⟩ k,by rw[gV,gV,l1],by rw[gV,gV,l2],λj x v e1 e2=>?_⟩;cases j with
  |zero=>
   simp only[Nc,N5]at e1 e2;subst e1 e2;exact⟨a,o,n,rfl,h1,h2,h3,ky⟩
  |succ j=>
   simp only[MS]at e1 e2;exact q j x v e1 e2
theorem xv(hc:X.calm=true)(hu:X.A.units+20<cLine):de X (.type "dict") (λxs H Q=>∃l ys kvs,xs=[.ref l]/\H l=some (.lst ys)/\xR H ys kvs/\New (.dT (yQ kvs)) H Q):=by
 intro ac s σ H xs us Q I r h;obtain⟨l,ys,kvs,rfl,hl,hp,q⟩:=h;obtain⟨u,rfl,ru⟩:=vals1 r;cases ru;obtain⟨hz,be,n,rv,ho⟩:=(show cz X.prog X.w H s.heap l (.lst ys)from I.hok l _ hl);obtain⟨xs,kt,l1,l2,pr⟩:=Ab I rv hp;have hyl:=rv.length;have hz':xs.length<=sizeLine:=by lia
 refine ZG.B9 (knd:=br X.prog X.w) (kvs:=xs) ho rfl rfl rfl (I.ok.hd hc) hu hz' (by simp;lia) (λj x v e1 e2=>pr j x v e1 (by simpa using e2)) λh' tk kp dd=>?_
 obtain⟨o,es,ep,h1,h2,h3,h4,h5,h6⟩:=dd;refine⟨.ref s.heap.objs.size,_,I.laid (t':=tk) (a:=s.heap.objs.size) (o:=.dT (yQ kvs)) kp (c_ _) ⟨?_,beq_eq_false_iff_ne.mpr (Ti (s_ I.big)),_,(AU .nil kt).keeps λc zs ec=>?_,o,es,ep,h1,h2,h3,h4,h6⟩,rfl,q.at (I.hok.fresh (c_ _))⟩
 ·have:=B5 kvs;lia
 rw[aH (d7 ec (I.hok.fresh (c_ _)))];exact ec
end
theorem qH{α β:Type}{F:α->β->Prop}:∀{l:List α}{m:List β}{i:Nat}{b:β},Ts F l m->m[i]?=some b->∃a,l[i]?=some a/\F a b
 | _,_,_,_,.nil,e=>by simp at e
 | _,_,0,_,.cons h t,e=>by simp only[Nc,N5]at e;subst e;exact⟨_,rfl,h⟩
 | _,_,i+1,_,.cons h t,e=>by simp only[MS]at e ⊢;exact qH t e
theorem ES{X:Cx}{ac:List (Ra×Obj)}{σ:St}{H:Hp}{s:Rf}{o:Obj}{d:Ra}{kvs:List (List Key×V)}(I:Inv X ac σ H s)(e:H d=some (.frz o (.dT kvs))) :
  s.heap.get? d=some o/\(d == RI)=false/\∃xs es ep,KT H kvs xs/\o.ExactDict/\o.data=.dict es ep/\es.toList=xs.map (UE (Sl (br X.prog X.w)))/\es.size=kvs.length:=by
 obtain⟨h0,h1,h2,xs,kt,o',es,ep,g1,g2,g3,g4,g5⟩:=(show cz X.prog X.w H s.heap d (.frz o (.dT kvs))from I.hok d _ e);rw[h0]at g1;cases g1;refine⟨h0,h2,xs,es,ep,kt,g2,g3,g4,?_⟩;rw[<-l_,g4,a_];exact(Sg kt).symm
section
variable{X:Cx}
theorem Ai(hc:X.calm=true):de X (.builtin "min") (λxs H Q=>∃a ns,xs=[.ref a]/\SqT X.K H a (ns.map V.int)/\ns≠[]/\∀r,je ns r->Q (.int r) H):=by
 intro ac s σ H xs us Q I r h;obtain⟨a,ns,rfl,hq,ld,q⟩:=h;obtain⟨u,rfl,ru⟩:=vals1 r;cases ru;obtain⟨be,rv,p,z⟩:=I.tuple hq;obtain⟨ps,e1,e2⟩:=fR rv;have ei:R3 ps.toArray=be.toArray:=by simp[R3,e1]
 have hT:s.heap.IsTuple a (R3 ps.toArray):=by rw[ei];exact p
 have hlen:ps.length=ns.length:=by rw[<-e2];simp
 have hpos:0<ns.length:=Nf λz=>ld (Mi z);have hlt:a<s.heap.objs.size:=by obtain⟨o,e,_⟩:=p;exact Rm e
 have hh:X.A.in1.handled=none:=I.ok.hd hc;have W1:=Zd (prog:=X.prog) (w:=X.w) hh s.heap.objs.size a (s_ hlt) (R3 ps.toArray);refine call_min_walk (Sa hT ⟨s.heap.objs.size,_,_,_,_,_,_,rfl,W1,?_,λb hb=>?_,?_,CmpOf.ints_lt (TY ps.toArray) (λi v hv=>Ux hv),λv h' tk hv hk=>?_⟩)
 ·refine⟨⟨_,Ri _ rfl,rfl,rfl⟩,?_⟩;obtain⟨o,e,r⟩:=hT;exact⟨o,Rg _ e,r⟩
 ·show b<(s.heap.push _).objs.size;have e:(s.heap.push { cls:=.type "tuple_iterator",data:=.fields #[.ref a,.int 0 0] }).objs.size=s.heap.objs.size+1:=by simp[U8]
  rcases i_.mp hb with hb|hb
  ·rw[hb];simp[U8]
  rw[x_.mp hb];exact A' hlt (by simp[U8])
 ·simp[R3];lia
 obtain⟨tv,rfl⟩:=Ux hv;obtain⟨b1,b2⟩:=argBest_lt (TY ps.toArray) ((R3 ps.toArray).size-1);have es:(R3 ps.toArray).size=ns.length:=by simp[R3,hlen]
 have hi:Yk (λi j=>decide (TY ps.toArray i<TY ps.toArray j)) ((R3 ps.toArray).size-1)<ns.length:=by rw[es]at b1 ⊢;lia
 obtain⟨f0,f1,f2,f3,f4,f5⟩:=I.ve (b:=s.heap.objs.size) (c_ _) (I.hok.fresh (c_ _));have kk:∀b o,s.heap.get? b=some o->h'.get? b=some o:=λb o e=>hk b o (λz=>s_ (Rm e) (x_.mp z)) (Rg _ e);refine⟨.int _,H,I.kept (t':=tk) kk,⟨tv,rfl⟩,q _ ⟨?_,λx hx=>?_⟩⟩
 ·rw[iK e2 hi];exact MG hi
 obtain⟨j,hj,rfl⟩:=MH.mp hx;have:=b2 j (by rw[es];lia);rw[iK e2 hj]at this;exact this
theorem Au(hc:X.calm=true):de X (.builtin "max") (λxs H Q=>∃a ns,xs=[.ref a]/\SqT X.K H a (ns.map V.int)/\ns≠[]/\∀r,jd ns r->Q (.int r) H):=by
 intro ac s σ H xs us Q I r h;obtain⟨a,ns,rfl,hq,ld,q⟩:=h;obtain⟨u,rfl,ru⟩:=vals1 r;cases ru;obtain⟨be,rv,p,z⟩:=I.tuple hq;obtain⟨ps,e1,e2⟩:=fR rv;have ei:R3 ps.toArray=be.toArray:=by simp[R3,e1]
 have hT:s.heap.IsTuple a (R3 ps.toArray):=by rw[ei];exact p
 have hlen:ps.length=ns.length:=by rw[<-e2];simp
 have hpos:0<ns.length:=Nf λz=>ld (Mi z);have hlt:a<s.heap.objs.size:=by obtain⟨o,e,_⟩:=p;exact Rm e
 have hh:X.A.in1.handled=none:=I.ok.hd hc;have W1:=Zd (prog:=X.prog) (w:=X.w) hh s.heap.objs.size a (s_ hlt) (R3 ps.toArray);refine call_max_walk (Sa hT ⟨s.heap.objs.size,_,_,_,_,_,_,rfl,W1,?_,λb hb=>?_,?_,CmpOf.ints_gt (TY ps.toArray) (λi v hv=>Ux hv),λv h' tk hv hk=>?_⟩)
 ·refine⟨⟨_,Ri _ rfl,rfl,rfl⟩,?_⟩;obtain⟨o,e,r⟩:=hT;exact⟨o,Rg _ e,r⟩
 ·show b<(s.heap.push _).objs.size;have e:(s.heap.push { cls:=.type "tuple_iterator",data:=.fields #[.ref a,.int 0 0] }).objs.size=s.heap.objs.size+1:=by simp[U8]
  rcases i_.mp hb with hb|hb
  ·rw[hb];simp[U8]
  rw[x_.mp hb];exact A' hlt (by simp[U8])
 ·simp[R3];lia
 obtain⟨tv,rfl⟩:=Ux hv;obtain⟨b1,b2⟩:=argBest_gt (TY ps.toArray) ((R3 ps.toArray).size-1);have es:(R3 ps.toArray).size=ns.length:=by simp[R3,hlen]
 have hi:Yk (λi j=>decide (TY ps.toArray i > TY ps.toArray j)) ((R3 ps.toArray).size-1)<ns.length:=by rw[es]at b1 ⊢;lia
 obtain⟨f0,f1,f2,f3,f4,f5⟩:=I.ve (b:=s.heap.objs.size) (c_ _) (I.hok.fresh (c_ _));have kk:∀b o,s.heap.get? b=some o->h'.get? b=some o:=λb o e=>hk b o (λz=>s_ (Rm e) (x_.mp z)) (Rg _ e);refine⟨.int _,H,I.kept (t':=tk) kk,⟨tv,rfl⟩,q _ ⟨?_,λx hx=>?_⟩⟩
 ·rw[iK e2 hi];exact MG hi
 obtain⟨j,hj,rfl⟩:=MH.mp hx;have:=b2 j (by rw[es];lia);rw[iK e2 hj]at this;exact this
end
noncomputable def ij{α:Type}(xs:List α)(a k:Int):List α:=(Wy (max 0 (min a xs.length)) xs.length k).filterMap (xs[·]?)
theorem Fj(be:List Q_){i j:Int}(h0:0<=i)(h1:0<j):W5 be.toArray (some i) none (some j)=(ij be i j).toArray:=by
 unfold W5 ij;have e:Tr (some i) none (some j) be.toArray.size=(max 0 (min i be.length),(be.length:Int),j):=by unfold Tr;simp only[Qh,g_];rw[if_pos h1,if_neg (by omega),if_pos h1]
 rw[e];simp
theorem AW{xs:List V}{us:List Q_}(h:Vals xs us)(is:List Nat):Vals (is.filterMap (xs[·]?)) (is.filterMap (us[·]?)):=by
 have hl:=h.length;induction is with
 |nil=>exact .nil
 |cons i is ih=>
  by_cases hi:i<xs.length
  ·rw[M_ (b_ hi),M_ (b_ (by omega))];obtain⟨u,hu,ru⟩:=h.get (b_ hi);rw[b_ (by omega)]at hu;cases hu;exact .cons ru ih
  rw[Nq (Mj (by omega)),Nq (Mj (by omega))];exact ih
theorem DA{α:Type}(xs:List α){i j:Int}(h0:0<=i)(h1:0<j):(ij xs i j).length<=xs.length:=by
 unfold ij;refine G' (List.length_filterMap_le _ _) ?_;unfold Wy;rw[a_,B_,if_pos h1];split
 ·rename_i h;have:=ceilDiv_le ((xs.length:Int)-max 0 (min i xs.length)) j (by omega) (by omega);omega
 exact Me _
section
variable{X:Cx}{e a k:Rr}{te ta tk:TE}{pos p2:Pos}
theorem Ao(he:PE X e te)(ha:PE X a ta)(hk:PE X k tk):PE X (.Subscript e (.Slice (some a) none (some k) p2) pos) (λσ H Q=>te σ H λx H1=>ta σ H1 λy H2=>tk σ H2 λz H3=>∃i j l xs,y=.int i/\z=.int j/\0<=i/\0<j/\x=.ref l/\SqL X.K H3 l xs/\New (.lst (ij xs i j)) H3 Q):=by
 intro ac s σ H Q I h;refine Wt (thn (he ac s σ H _ I h) λv s1 ⟨x,H1,I1,r1,q1⟩=>?_);refine Y' ?_;rw[WJ];refine thn (ha ac s1 σ H1 _ I1 q1) λva s2 ⟨y,H2,I2,ry,q2⟩=>?_;rw[WI];refine Rc ?_;rw[WJ];refine thn (hk ac s2 σ H2 _ I2 q2) λvk s3 ⟨z,H3,I3,rz,q3⟩=>?_;obtain⟨i,j,l,xs,rfl,rfl,h0,h1,rfl,hx,q⟩:=q3;obtain⟨ti,rfl⟩:=ry;obtain⟨tj,rfl⟩:=rz;cases r1;have I4:Inv X ac σ H3 {s3 with heap:=s3.heap.push { cls:=.type "slice",data:=.fields #[.int i ti,.none,.int j tj] } }:=I3.kept (t':=s3.toks) λb ob q=>Rg _ q;show Rh (Rn X.prog X.w) X.A (T3 e (.Slice (some a) none (some k) p2) (.ref l) (.ref s3.heap.objs.size)) (EP X ac σ Q) X.xe {s3 with heap:=s3.heap.push { cls:=.type "slice",data:=.fields #[.int i ti,.none,.int j tj] } };obtain⟨be,r,ht,hz⟩:=I4.list hx;have hlen:=r.length;refine YM (ops:=[.ref l,.ref s3.heap.objs.size]) ht.isList.typeIs slot_list_getitem.lookup ?_ (by with_unfolding_all rfl);refine VC ht.isList (W0 ..) (.int _ _) .none (.int _ _) (λz=>by cases z;omega) ?_ (by rw[g_] <;> omega);rw[Fj be h0 h1];have hv:Vals (ij xs i j) (ij be i j):=by unfold ij;rw[hlen];exact AW r _
 refine⟨.ref _,_,I4.laid (t':=s3.toks) (o:=.lst (ij xs i j)) (λb ob q=>Rg _ q) (c_ _) ?_,rfl,q.at (I4.hok.fresh (c_ _))⟩;exact⟨G' (DA xs h0 h1) hz,_,0,hv,Ri _ rfl⟩
end
end L2
namespace ZS
open PySem PyProof.Rows
noncomputable def mC(M:Ui)(A:Rw)(E:Q_->Rf->Prop)(s:Rf)(kd:S0)(rk:RQ->Nat)(S:RQ->Prop):Prop:=
 ∀(x y:RQ) (st:RE) (Q:Option Bool->RE->Prop),S x->S y->kindOf st=kd->Q (some (decide (rk x<rk y))) st->wpS M A E s (lt' x y) Q st
section
variable{rk:RQ->Nat}
abbrev Srt(rk:RQ->Nat)(l:List RQ):Prop:=l.Pairwise λx y=>rk x<=rk y
end
variable {i:Nat}{st:RE}
section
variable{M:Ui}{A:Rw}{E:Q_->Rf->Prop}{s:Rf}{kd:S0}{rk:RQ->Nat}{S:RQ->Prop}
theorem zJ{ar:Array RQ}{p:RQ}{Q:RQ->RE->Prop}(h:ar[i]?=some p)(q:Q p st):wpS M A E s (elem' ar i) Q st:=by rw[elem'_eq,h];exact RV q
end
noncomputable def R(rk:RQ->Nat)(xs:Array RQ)(i:Nat):Nat:=match xs[i]? with
 |some p=>rk p
 |none=>0
structure Kp2 (st am:RE):Prop where
 k:kindOf am=kindOf st
 p:RW am=RW st
 f:S9 am=S9 st
 a:(Rk am).Perm (Rk st)
theorem Kp2.ip :Kp2 st st:=⟨rfl,rfl,rfl,O' _⟩
theorem Kp2.trans {s1 s2 s3:RE}(h:Kp2 s1 s2)(g:Kp2 s2 s3):Kp2 s1 s3:=⟨g.k.trans h.k,g.p.trans h.p,g.f.trans h.f,g.a.trans h.a⟩
theorem Kp2.size {am:RE}(h:Kp2 st am):(Rk am).size=(Rk st).size:=h.a.size_eq
variable {j:Nat}{xs:Array RQ}
section
variable{rk:RQ->Nat}
theorem nv{ys:Array RQ}(h:xs[i]?=ys[j]?):R rk xs i=R rk ys j:=by unfold R;rw[h]
theorem Co(hj:j<=xs.size)(k:Nat):R rk (mirror xs i j ((j-i)/2)) k=if i<=k/\k<j then R rk xs (i+j-1-k)else R rk xs k:=by
 have:=WO (i:=i) hj k;split at this <;> rename_i h
 ·rw[if_pos h];exact nv this
 rw[if_neg h];exact nv this
theorem Dc{src d:Nat}(hs:src<xs.size)(hd:d<=src)(k:Nat):R rk (X2 xs src d) k=if k=src-d then R rk xs src else if src-d<k/\k<=src then R rk xs (k-1)else R rk xs k:=by
 have:=X3 hs d hd k;split at this
 ·rename_i h;rw[if_pos h];exact nv this
 rename_i h;rw[if_neg h];split at this
 ·rename_i h2;rw[if_pos h2];exact nv this
 rename_i h2;rw[if_neg h2];exact nv this
def iQ(rk:RQ->Nat)(xs:Array RQ)(lo n:Nat):Prop:=∀i j,i<=j->j<n->R rk xs (lo+i)<=R rk xs (lo+j)
def vf(rk:RQ->Nat)(xs:Array RQ)(lo n:Nat):Prop:=∀i j,i<=j->j<n->R rk xs (lo+j)<=R rk xs (lo+i)
end
structure Within (st am:RE) (lo n:Nat):Prop where
 kp:Kp2 st am
 out:∀k,(k<lo\/lo+n<=k)->(Rk am)[k]?=(Rk st)[k]?
variable {lo n:Nat}
theorem Within.ip :Within st st lo n:=⟨.ip,λ_ _=>rfl⟩
theorem Within.trans {s1 s2 s3:RE}(h:Within s1 s2 lo n)(g:Within s2 s3 lo n):Within s1 s3 lo n:=⟨h.kp.trans g.kp,λk hk=>(g.out k hk).trans (h.out k hk)⟩
section
variable{M:Ui}{A:Rw}{E:Q_->Rf->Prop}{s:Rf}{kd:S0}{rk:RQ->Nat}{S:RQ->Prop}
noncomputable def m8(S:RQ->Prop)(st:RE):Prop:=∀p∈(Rk st).toList,S p
theorem m8.at {st:RE}(h:m8 S st){i:Nat}{p:RQ}(e:(Rk st)[i]?=some p):S p:=h p (by rw[<-A_]at e;exact F_ e)
theorem m8.kp {am:RE}(h:m8 S st)(k:Kp2 st am):m8 S am:=λp hp=>h p ((OM.mp k.a).mem_iff.mp hp)
theorem ji{Q:Option Bool->RE->Prop}(L:mC M A E s kd rk S)(hk:kindOf st=kd)(hS:m8 S st)(hi:i<(Rk st).size)(hj:j<(Rk st).size)(q:Q (some (decide (R rk (Rk st) i<R rk (Rk st) j))) st):wpS M A E s (X4 i j) Q st:=by rw[ltAt'_eq];refine RB (Wb ?_);have e1:(Rk st)[i]?=some (Rk st)[i]:=k_ hi;have e2:(Rk st)[j]?=some (Rk st)[j]:=k_ hj;refine RB (zJ e1 (RB (zJ e2 (L _ _ st _ (hS.at e1) (hS.at e2) hk ?_))));unfold R at q;rw[e1,e2]at q;exact q
theorem Be{Q:Unit->RE->Prop}(hl:lo<=i)(hj:j<=lo+n)(hsz:j<=(Rk st).size)(h:∀am,Within st am lo n->(∀k,R rk (Rk am) k=if i<=k/\k<j then R rk (Rk st) (i+j-1-k)else R rk (Rk st) k)->Q () am):wpS M A E s (T7 i j) Q st:=by rw[reverseSlice'_eq];refine X5 (h _ ⟨⟨rfl,rfl,rfl,mirror_perm _ _ _ _⟩,λk hk=>?_⟩ λk=>Co hsz k);show(mirror (Rk st) i j ((j-i)/2))[k]?=_;rw[WO hsz,if_neg (by lia)]
theorem Gn{ok:Nat}{Q:Bool->RE->Prop}(L:mC M A E s kd rk S)(hk:kindOf st=kd)(hS:m8 S st)(hn:lo+n<=(Rk st).size)(hok:ok<=n)(hs:iQ rk (Rk st) lo ok)
  (h:∀am,Within st am lo n->iQ rk (Rk am) lo n->Q true am):wpS M A E s (Ze lo n ok) Q st:=by
 rw[binarySort'_eq];refine RB (TZ (S3 (I:=λk c am=>c=(none,())/\Within st am lo n/\iQ rk (Rk am) lo k) (Q:=λc am=>c=(none,())/\Within st am lo n/\iQ rk (Rk am) lo (max (max ok 1) n)) ?_ (λc am z=>z) ⟨rfl,.ip,λi j h1 h2=>?_⟩) ?_)
 ·rintro k c io hk1 hk2 ⟨rfl,W,s1⟩;have sz1:=W.kp.size;have hS1:=hS.kp W.kp;refine RB (TZ (S3 (I:=λx c am=>am=io/\∃l r,c=(none,l,r)/\l<=r/\r<=k/\r-l<=k-x/\(∀i,i<l->R rk (Rk io) (lo+i)<=R rk (Rk io) (lo+k))/\(∀i,r<=i->i<k->R rk (Rk io) (lo+k)<R rk (Rk io) (lo+i)))
   (Q:=λc am=>am=io/\∃l,c=(none,l,l)/\l<=k/\(∀i,i<l->R rk (Rk io) (lo+i)<=R rk (Rk io) (lo+k))/\(∀i,l<=i->i<k->R rk (Rk io) (lo+k)<R rk (Rk io) (lo+i))) ?_ ?_ ⟨rfl,0,k,rfl,Me _,c_ _,by lia,λi hi=>by lia,λi h1 h2=>by lia⟩) ?_)
  ·rintro x c jp _ hx ⟨rfl,l,r,rfl,g1,g2,g3,g4,g5⟩;dsimp only;by_cases z:l>=r
   ·rw[if_pos z];have e:l=r:=by lia
    subst e;exact RV ⟨rfl,l,rfl,g2,g4,g5⟩
   rw[if_neg z];have m1:l<=(l+r)/2:=by omega
   have m2:(l+r)/2<r:=by omega
   generalize (l+r)/2=m at m1 m2 ⊢;have m3:=A' m2 g2;have sz:∀{y},y<=k->lo+y<(Rk jp).size:=λh=>by lia
   refine RB (ji L (W.kp.k.trans hk) hS1 (sz (c_ _)) (sz (Mt m3)) ?_);dsimp only;by_cases w:R rk (Rk jp) (lo+k)<R rk (Rk jp) (lo+m)
   ·rw[decide_eq_true w,if_pos rfl];exact RV ⟨rfl,l,m,rfl,m1,Mt m3,by lia,g4,λi h1 h2=>A' w (s1 m i h1 h2)⟩
   rw[decide_eq_false w,if_neg (by simp)];exact RV ⟨rfl,m+1,r,rfl,m2,g2,by lia,λi hi=>G' (s1 i m (P7 hi) m3) (MF w),g5⟩
  ·rintro c jp ⟨rfl,l,r,rfl,g1,g2,g3,g4,g5⟩;have e:l=r:=by lia
   subst e;exact⟨rfl,l,rfl,g2,g4,g5⟩
  rintro c jp ⟨rfl,l,rfl,g2,g4,g5⟩;dsimp only;rw[moveDown'_eq];have hk1:lo+k<(Rk jp).size:=by lia
  have e0:lo+k-(lo+k-(lo+l))=lo+l:=Nat.sub_sub_self (OB g2 lo);have hb:∀j,R rk (X2 (Rk jp) (lo+k) (lo+k-(lo+l))) (lo+j)=if j=l then R rk (Rk jp) (lo+k)else if l<j/\j<=k then R rk (Rk jp) (lo+(j-1))else R rk (Rk jp) (lo+j):=λj=>by
   rw[Dc hk1 (Ov ..),e0];by_cases c1:j=l
   ·rw[if_pos c1,if_pos (congrArg (lo+·) c1)]
   rw[if_neg c1,if_neg (λz=>c1 (Nat.add_left_cancel z))];by_cases c2:l<j/\j<=k
   ·rw[if_pos c2,if_pos ⟨OC c2.1 lo,OB c2.2 lo⟩,P8 (Nat.one_le_of_lt c2.1)]
   rw[if_neg c2,if_neg (λz=>c2 ⟨Nat.lt_of_add_lt_add_left z.1,Nat.le_of_add_le_add_left z.2⟩)]
  refine RB (X5 (RV ⟨rfl,W.trans ⟨⟨rfl,rfl,rfl,bubble_perm _ _ _⟩,λj hj=>?_⟩,λi j lf hj=>?_⟩))
  ·show(X2 (Rk jp) (lo+k) (lo+k-(lo+l)))[j]?=_;rw[X3 hk1 _ (Ov ..),e0,if_neg (by lia),if_neg (by lia)]
  show R rk (X2 (Rk jp) (lo+k) (lo+k-(lo+l))) (lo+i)<=R rk (X2 (Rk jp) (lo+k) (lo+k-(lo+l))) (lo+j);rw[hb,hb];have ss:∀p q,p<=q->q<k->R rk (Rk jp) (lo+p)<=R rk (Rk jp) (lo+q):=s1;have hj:j<=k:=P7 hj;have dn:∀{x},l<x->x<=k->x-1<k:=λa b=>A' (Nat.sub_one_lt_of_lt a) b;by_cases i1:i<l
  ·rw[if_neg (s_ i1),if_neg (λz=>Nat.lt_asymm z.1 i1)];by_cases j2:j=l
   ·rw[if_pos j2];exact g4 i i1
   rw[if_neg j2];by_cases j1:l<j
   ·rw[if_pos ⟨j1,hj⟩];exact ss i (j-1) (Ow (NX i1 j1)) (dn j1 hj)
   rw[if_neg (λz=>j1 z.1)];exact ss i j lf (A' (NY (MF j1) j2) g2)
  by_cases i2:i=l
  ·rw[if_pos i2];by_cases j2:j=l
   ·rw[if_pos j2];exact c_ _
   have j1:l<j:=NY (i2▸lf) (λz=>j2 z.symm);rw[if_neg j2,if_pos ⟨j1,hj⟩];exact Mt (g5 (j-1) (Ow j1) (dn j1 hj))
  have i3:l<i:=NY (MF i1) (λz=>i2 z.symm);have j1:=A' i3 lf;rw[if_neg i2,if_pos ⟨i3,G' lf hj⟩,if_neg (λz=>MW _ (z▸j1)),if_pos ⟨j1,hj⟩];exact ss (i-1) (j-1) (Nat.sub_le_sub_right lf 1) (dn j1 hj)
 ·by_cases z:1<=ok
  ·rw[Nat.max_eq_left z]at h2;exact hs i j h1 h2
  have:i=j:=by lia
  subst this;exact c_ _
 rintro c io ⟨rfl,W,s1⟩;exact RV (h io W λi j h1 h2=>s1 i j h1 (by lia))
end
theorem B1{l x:Nat}(h:1<=x):l+(x-1)=l+x-1:=(P8 h l).symm
theorem Ih{l k:Nat}(h:l<=k):l+(k-l)=k:=OD h
theorem KI{l a:Nat}(h:i<a):l+(l+a)-1-(l+i)=l+(a-1-i):=by lia
theorem IB{l x k:Nat}(h0:l<=k)(h:k<l+x):k-l<x:=Nat.sub_lt_left_of_lt_add h0 h
noncomputable def D4(l0 a0 q0:Nat):StateT RE Sem (Option Nat):=do
 let mut n:=a0
 for _ in [a0:q0]do
  let some sm <-X4 (l0+n) (l0+n-1) | return none
  if sm then break
  n:=n+1
 return some n
def uo(l0 a0 q0:Nat):StateT RE Sem (Option Nat):=do
 T7 l0 (l0+a0)
 D4 l0 a0 q0
def o8(l0 a0 q0:Nat):StateT RE Sem (Option Nat):=do
 rule "list.sort.descending-run"
 let mut n:=a0+1
 let mut eq:=0
 for _ in [n:q0]do
  let some sm <-X4 (l0+n) (l0+n-1) | return none
  if sm then
   if eq > 0 then T7 (l0+n-(eq+1)) (l0+n)
   eq:=0
  else
   let some la <-X4 (l0+n-1) (l0+n) | return none
   if la then break
   eq:=eq+1
  n:=n+1
 if eq > 0 then
  T7 (l0+n-(eq+1)) (l0+n)
  uo l0 n q0
 else uo l0 n q0
theorem DE(l0 q0:Nat):U9 l0 q0=(do
 let mut n:=1
 for _ in [1:q0]do
  let some sm <-X4 (l0+n) (l0+n-1) | return none
  if sm then break
  n:=n+1
 if n == q0 then return some n
 if n > 1 then
  let some ro <-X4 l0 (l0+n-1) | return none
  if ro then return some n
  T7 l0 (l0+n)
  o8 l0 n q0
 else o8 l0 n q0):=rfl
variable {Q:Option Nat->RE->Prop}{a0 l0 q0:Nat}
section
variable{M:Ui}{A:Rw}{E:Q_->Rf->Prop}{s:Rf}{kd:S0}{rk:RQ->Nat}{S:RQ->Prop}
theorem iQ.snoc (h:iQ rk xs lo n)(h1:1<=n)(k:R rk xs (lo+n-1)<=R rk xs (lo+n)):iQ rk xs lo (n+1):=λi j lf hj=>by
 by_cases z:j<n
 ·exact h i j lf z
 have e:j=n:=by lia
 subst e;by_cases w:i=j
 ·subst w;exact c_ _
 have:=h i (j-1) (by lia) (by lia);rw[B1 h1]at this;exact G' this k
theorem Dz(L:mC M A E s kd rk S)(hk:kindOf st=kd)(hS:m8 S st)(hsz:l0+q0<=(Rk st).size)(h1:1<=a0)(h2:a0<=q0)(hs:iQ rk (Rk st) l0 a0)
  (h:∀n,a0<=n->n<=q0->iQ rk (Rk st) l0 n->Q (some n) st):wpS M A E s (D4 l0 a0 q0) Q st:=by
 unfold D4;dsimp only;refine RB (TZ (S3 (I:=λx c am=>am=st/\c=(none,x)/\iQ rk (Rk st) l0 x) (Q:=λc am=>am=st/\∃n,c=(none,n)/\a0<=n/\n<=q0/\iQ rk (Rk st) l0 n) ?_ ?_ ⟨rfl,rfl,hs⟩) ?_)
 ·rintro x c io hx1 hx2 ⟨rfl,rfl,s1⟩;dsimp only;refine RB (ji L hk hS (by lia) (by lia) ?_);dsimp only;by_cases w:R rk (Rk io) (l0+x)<R rk (Rk io) (l0+x-1)
  ·rw[decide_eq_true w,if_pos rfl];exact RV ⟨rfl,x,rfl,hx1,by lia,s1⟩
  rw[decide_eq_false w,if_neg (by simp)];exact RV ⟨rfl,rfl,s1.snoc (by lia) (by lia)⟩
 ·rintro c io ⟨rfl,rfl,s1⟩;rw[NJ h2]at s1 ⊢;exact⟨rfl,q0,rfl,h2,c_ _,s1⟩
 rintro c io ⟨rfl,n,rfl,g1,g2,g3⟩;exact RV (h n g1 g2 g3)
theorem nN(L:mC M A E s kd rk S)(hk:kindOf st=kd)(hS:m8 S st)(hsz:l0+q0<=(Rk st).size)(h1:1<=a0)(h2:a0<=q0)(hs:vf rk (Rk st) l0 a0)
  (h:∀n am,a0<=n->n<=q0->Within st am l0 q0->iQ rk (Rk am) l0 n->Q (some n) am):wpS M A E s (uo l0 a0 q0) Q st:=by
 unfold uo;refine RB (Be (rk:=rk) (lo:=l0) (n:=q0) (c_ _) (by lia) (by lia) λio W1 r1=>?_);refine Dz L (W1.kp.k.trans hk) (hS.kp W1.kp) (by rw[W1.kp.size];exact hsz) h1 h2 (λi j lf hj=>?_) λn g1 g2 g3=>h n io g1 g2 W1 g3
 have hi:=MC lf hj;rw[r1,r1,if_pos ⟨Oh ..,OC hi l0⟩,if_pos ⟨Oh ..,OC hj l0⟩,KI hi,KI hj];exact hs (a0-1-j) (a0-1-i) (Nat.sub_le_sub_left lf _) (MC (Ov _ _) (Q3 h1 QW))
theorem qe{Q:Unit->RE->Prop}(hl:lo<=i)(hj:j<=lo+n)(hsz:j<=(Rk st).size)(heq:∀k,i<=k->k<j->R rk (Rk st) k=R rk (Rk st) (j-1))(h:∀am,Within st am lo n->(∀k,R rk (Rk am) k=R rk (Rk st) k)->Q () am):wpS M A E s (T7 i j) Q st:=by
 refine Be (rk:=rk) hl hj hsz λio W r1=>h io W λk=>?_;rw[r1];split
 ·rename_i z;rw[heq k z.1 z.2,heq (i+j-1-k) (by(clear r1 W h heq hsz hj hl;lia)) (by(clear r1 W h heq hsz hj hl;lia))]
 rfl
theorem vf.snoc (h:vf rk xs lo n)(h1:1<=n)(k:R rk xs (lo+n)<=R rk xs (lo+n-1)):vf rk xs lo (n+1):=λi j lf hj=>by
 by_cases z:j<n
 ·exact h i j lf z
 have e:j=n:=by lia
 subst e;by_cases w:i=j
 ·subst w;exact c_ _
 have:=h i (j-1) (by lia) (by lia);rw[show lo+(j-1)=lo+j-1 by lia]at this;exact G' k this
theorem rC(L:mC M A E s kd rk S)(hk:kindOf st=kd)(hS:m8 S st)(hsz:l0+q0<=(Rk st).size)(h2:a0+1<=q0)(hs:vf rk (Rk st) l0 (a0+1))(hr:∀x,Rh M A (rule x) (λ_ s'=>s'=s) E s)
  (h:∀n am,1<=n->n<=q0->Within st am l0 q0->iQ rk (Rk am) l0 n->Q (some n) am):wpS M A E s (o8 l0 a0 q0) Q st:=by
 unfold o8;refine RB (Wz (RL (hr _) (λ_ _ z=>⟨z,?_⟩) λ_ _ z=>z));dsimp only;refine RB (TZ (S3 (I:=λx c am=>∃eq,c=(none,x,eq)/\Within st am l0 q0/\vf rk (Rk am) l0 x/\eq+1<=x/\∀k,x-1-eq<=k->k<x->R rk (Rk am) (l0+k)=R rk (Rk am) (l0+(x-1)))
  (Q:=λc am=>∃n eq,c=(none,n,eq)/\a0+1<=n/\n<=q0/\Within st am l0 q0/\vf rk (Rk am) l0 n/\eq+1<=n/\∀k,n-1-eq<=k->k<n->R rk (Rk am) (l0+k)=R rk (Rk am) (l0+(n-1))) ?_ ?_ ⟨0,rfl,.ip,hs,by lia,λk h1 h2=>by rw[show k=a0+1-1 by lia]⟩) ?_)
 ·rintro x c io hx1 hx2 ⟨eq,rfl,W,d1,e1,ev⟩;dsimp only;have hk1:=W.kp.k.trans hk;have hS1:=hS.kp W.kp;have sz1:=W.kp.size;have x1:1<=x:=G' (Qs 1 eq) e1;have b1:l0+x<(Rk io).size:=by lia
  have b2:l0+x-1<(Rk io).size:=MC (Ov ..) b1;refine RB (ji L hk1 hS1 b1 b2 ?_);dsimp only;by_cases w:R rk (Rk io) (l0+x)<R rk (Rk io) (l0+x-1)
  ·rw[decide_eq_true w,if_pos rfl];have fin:∀jp,Within st jp l0 q0->(∀k,R rk (Rk jp) k=R rk (Rk io) k)->∃eq',((none,x+1,0):Option (Option Nat)×Nat×Nat)=(none,x+1,eq')/\Within st jp l0 q0/\vf rk (Rk jp) l0 (x+1)/\eq'+1<=x+1/\∀k,x+1-1-eq'<=k->k<x+1->R rk (Rk jp) (l0+k)=R rk (Rk jp) (l0+(x+1-1)):=λjp W2 r2=>by refine⟨0,rfl,W2,λi j lf hj=>?_,by lia,λk h1 h2=>by rw[show k=x+1-1 by lia]⟩;rw[r2,r2];exact d1.snoc x1 (Mt w) i j lf hj
   by_cases z:eq > 0
   ·rw[if_pos z];refine RB (qe (rk:=rk) (lo:=l0) (n:=q0) (by lia) (by lia) (by lia) (λk h1 h2=>?_) λjp W2 r2=>RV (fin jp (W.trans W2) r2));have k0:l0<=k:=by lia
    have:=ev (k-l0) (by lia) (IB k0 h2);rw[Ih k0,B1 x1]at this;exact this
   rw[if_neg z];exact RV (fin io W λ_=>rfl)
  rw[decide_eq_false w,if_neg (by simp)];refine RB (ji L hk1 hS1 b2 b1 ?_);dsimp only;by_cases v:R rk (Rk io) (l0+x-1)<R rk (Rk io) (l0+x)
  ·rw[decide_eq_true v,if_pos rfl];exact RV ⟨x,eq,rfl,hx1,by lia,W,d1,e1,ev⟩
  rw[decide_eq_false v,if_neg (by simp)];have ee:R rk (Rk io) (l0+x)=R rk (Rk io) (l0+x-1):=NQ (MF v) (MF w);refine RV ⟨eq+1,rfl,W,d1.snoc x1 (OW ee),by lia,λk h1 h2=>?_⟩;rw[show l0+(x+1-1)=l0+x by lia];by_cases y:k=x
  ·rw[y]
  have:=ev k (by lia) (by lia);rw[B1 x1]at this;exact this.trans ee.symm
 ·rintro c io ⟨eq,rfl,W,d1,e1,ev⟩;rw[NJ h2]at d1 e1 ev ⊢;exact⟨q0,eq,rfl,h2,c_ _,W,d1,e1,ev⟩
 rintro c io ⟨n,eq,rfl,g1,g2,W,d1,e1,ev⟩;have sz1:=W.kp.size;dsimp only;by_cases z:eq > 0
 ·rw[if_pos z];refine RB (qe (rk:=rk) (lo:=l0) (n:=q0) (by lia) (by lia) (by lia) (λk h1 h2=>?_) λjp W2 r2=>?_)
  ·have k0:l0<=k:=by lia
   have:=ev (k-l0) (by lia) (IB k0 h2);rw[Ih k0,B1 (G' (Qs 1 eq) e1)]at this;exact this
  refine nN L ((W.trans W2).kp.k.trans hk) (hS.kp (W.trans W2).kp) (by rw[(W.trans W2).kp.size];exact hsz) (by lia) g2 (λi j lf hj=>by rw[r2,r2];exact d1 i j lf hj) λm kw k1 k2 W3 s3=>h m kw (by lia) k2 ((W.trans W2).trans W3) s3
 rw[if_neg z];exact nN L (W.kp.k.trans hk) (hS.kp W.kp) (by rw[sz1];exact hsz) (by lia) g2 d1 λm kw k1 k2 W3 s3=>h m kw (by lia) k2 (W.trans W3) s3
theorem vm(L:mC M A E s kd rk S)(hk:kindOf st=kd)(hS:m8 S st)(hsz:l0+q0<=(Rk st).size)(h1:1<=q0)(hr:∀x,Rh M A (rule x) (λ_ s'=>s'=s) E s)
  (h:∀n am,1<=n->n<=q0->Within st am l0 q0->iQ rk (Rk am) l0 n->Q (some n) am):wpS M A E s (U9 l0 q0) Q st:=by
 rw[DE];dsimp only;refine RB (TZ (S3 (I:=λx c am=>am=st/\c=(none,x)/\iQ rk (Rk st) l0 x) (Q:=λc am=>am=st/\∃n,c=(none,n)/\1<=n/\n<=q0/\iQ rk (Rk st) l0 n/\(n=q0\/R rk (Rk st) (l0+n)<R rk (Rk st) (l0+n-1))) ?_ ?_ ⟨rfl,rfl,λi j h1 h2=>by rw[show i=j by lia];exact c_ _⟩) ?_)
 ·rintro x c io hx1 hx2 ⟨rfl,rfl,s1⟩;dsimp only;refine RB (ji L hk hS (by lia) (by lia) ?_);dsimp only;by_cases w:R rk (Rk io) (l0+x)<R rk (Rk io) (l0+x-1)
  ·rw[decide_eq_true w,if_pos rfl];exact RV ⟨rfl,x,rfl,hx1,by lia,s1,.inr w⟩
  rw[decide_eq_false w,if_neg (by simp)];exact RV ⟨rfl,rfl,s1.snoc (by(clear w s1 h hsz hS hk hx2 hr h1 L;omega)) (by lia)⟩
 ·rintro c io ⟨rfl,rfl,s1⟩;rw[NJ h1]at s1 ⊢;exact⟨rfl,q0,rfl,h1,c_ _,s1,.inl rfl⟩
 rintro c io ⟨rfl,n,rfl,g1,g2,g3,g4⟩;dsimp only;by_cases e:n=q0
 ·rw[if_pos (by rw[e];exact beq_self_eq_true _)];exact RV (h n io g1 g2 .ip g3)
 rw[if_neg (by simpa using e)];have lt:=g4.resolve_left e;by_cases z:n > 1
 ·rw[if_pos z];refine RB (ji L hk hS (by lia) (by(clear lt e g4 g3 g1 h hS hk hr h1 L;lia)) ?_);dsimp only;by_cases w:R rk (Rk io) l0<R rk (Rk io) (l0+n-1)
  ·rw[decide_eq_true w,if_pos rfl];exact RV (h n io g1 g2 .ip g3)
  rw[decide_eq_false w,if_neg (by simp)];have all:∀k,l0<=k->k<l0+n->R rk (Rk io) k=R rk (Rk io) (l0+n-1):=λk h1 h2=>by have kn:=IB h1 h2;have a:=g3 0 (k-l0) (Me _) kn;have b:=g3 (k-l0) (n-1) (Ow kn) (Q3 g1 QW);rw[Ih h1]at a b;rw[B1 g1]at b;rw[OX]at a;exact NQ b (G' (MF w) a)
  refine RB (qe (rk:=rk) (lo:=l0) (n:=q0) (c_ _) (by(clear all w z lt e g4 g3 g1 h hsz hS hk hr h1 L;lia)) (by(clear all w z lt e g4 g3 g1 h hS hk hr h1 L;lia)) all λjp W2 r2=>?_);refine rC L (W2.kp.k.trans hk) (hS.kp W2.kp) (by rw[W2.kp.size];exact hsz) (by lia) (λi j lf hj=>?_) hr λm kw k1 k2 W3 s3=>h m kw k1 k2 (W2.trans W3) s3
  rw[r2,r2];by_cases y:j<n
  ·rw[all (l0+i) (by lia) (by lia),all (l0+j) (by lia) (by(clear hj lf r2 W2 all w z lt e g4 g3 g2 g1 h hsz hS hk hr h1 L;lia))];exact c_ _
  rw[show j=n by lia];by_cases y2:i<n
  ·rw[all (l0+i) (by lia) (by(clear y hj lf r2 W2 all w z lt e g4 g3 g2 g1 h hsz hS hk hr h1 L;lia))];exact Mt lt
  rw[show i=n by(clear y r2 W2 all w z lt e g4 g3 g2 g1 h hsz hS hk hr h1 L;lia)];exact c_ _
 rw[if_neg z];have n1:n=1:=by lia
 subst n1;refine rC L hk hS hsz (by lia) (λi j lf hj=>?_) hr λm kw k1 k2 W3 s3=>h m kw k1 k2 W3 s3
 by_cases y:i=j
 ·rw[y];exact c_ _
 rw[show i=0 by lia,show j=1 by lia];exact Mt lt
end
section
variable{rk:RQ->Nat}
theorem Ha{p:RQ}(h:xs.toList[i]?=some p):R rk xs i=rk p:=by unfold R;rw[<-A_,h]
theorem BX(h:iQ rk xs lo n):Srt rk ((xs.toList.drop lo).take n):=by
 refine MN.mpr λi j hi hj lf=>?_;have hj':j<n:=by rw[L_]at hj;lia
 have ei:=b_ hi;have ej:=b_ hj;rw[List.getElem?_take,if_pos (by lia),List.getElem?_drop]at ei ej;have:=h i j (by lia) hj';rw[Ha ei,Ha ej]at this;exact this
end
abbrev CS:=Option Unit×Unit
abbrev LS:=Option Unit×Nat
noncomputable def zj(w0:Nat):StateT RE Sem (ForInStep CS):=do
 let g <-get
 match(if(RW g).size > 1 then(RW g)[(RW g).size-2]? else none)with
 |some (_,_,old)=>
  if old<=w0 then pure (SX (none,()))
  else do
   let b <-mergeAt' ((RW g).size-2)
   if(!b)=true then pure (SX (some (),()))else pure (Si (none,()))
 | _=>pure (SX (none,()))
noncomputable def tM(q0 n:Nat):StateT RE Sem (ForInStep LS):=do
 modify λz=>setPending z ((RW z).push (q0,n,0))
 pure (Si (none,q0+n))
def tl(sz q0 n:Nat):StateT RE Sem (ForInStep LS):=do
 let g <-get
 match(RW g).back? with
 |some (s1,n1,_)=>do
  let c <-forIn [0:sz] ((none,()):CS) λ_ _=>zj (power' sz (2*s1+n1) (2*s1+n1+n1+n) sz)
  match c.1 with
  |some r=>pure (SX (some r,q0))
  |none=>do
   modify λz=>setPending z ((RW z).modify ((RW z).size-1) λx=>(x.1,x.2.1,power' sz (2*s1+n1) (2*s1+n1+n1+n) sz))
   tM q0 n
 | _=>tM q0 n
def nB(sz q0:Nat):StateT RE Sem (ForInStep LS):=
 if q0>=sz then pure (SX (none,q0))else do
  let f <-U9 q0 (sz-q0)
  match f with
  |some n=>
   if n<Wc sz sz 0 then do
    rule "list.sort.binary-insertion"
    let b <-Ze q0 (min (sz-q0) (Wc sz sz 0)) n
    if(!b)=true then pure (SX (some (),q0))else tl sz q0 (min (sz-q0) (Wc sz sz 0))
   else tl sz q0 n
  | _=>pure (SX (some (),q0))
noncomputable def pick(ps:Array (Nat×Nat×Nat)):Nat:=
 if Option.any (λx=>decide (x<ps[ps.size-2+1]?.elim 0 λy=>y.2.1)) (if ps.size-2 > 0 then NK (λy=>y.2.1) ps[ps.size-2-1]? else none)=true then ps.size-2-1 else ps.size-2
def zm:StateT RE Sem (ForInStep CS):=do
 let g <-get
 if(RW g).size<=1 then pure (SX (none,()))
 else do
  let b <-mergeAt' (pick (RW g))
  if(!b)=true then pure (SX (some (),()))else pure (Si (none,()))
theorem JP:sortRuns'=(do
 let g <-get
 let c <-forIn [0:(Rk g).size] ((none,0):LS) λ_ c=>nB (Rk g).size c.2
 match c.1 with
 |some r=>pure r
 |none=>do
  let d <-forIn [0:(Rk g).size] ((none,()):CS) λ_ _=>zm
  match d.1 with
  |some r=>pure r
  |none=>pure ()):=by
 rw[sortRuns'_eq];dsimp only;refine congrArg (bind get) (funext λg=>?_);refine congr (congrArg bind ?_) (funext λc=>?_)
 ·refine congrArg (forIn _ _) (funext λ_=>funext λc=>?_);unfold nB;refine ite_congr rfl (λ_=>rfl) (λ_=>?_);refine congrArg (bind _) (funext λf=>?_);cases f with
  |none=>rfl
  |some n=>
   dsimp only;refine ite_congr rfl (λ_=>congrArg (bind _) (funext λ_=>congrArg (bind _) (funext λb=>ite_congr rfl (λ_=>rfl) (λ_=>?_)))) (λ_=>?_)
   all_goals
    unfold tl;refine congrArg (bind _) (funext λg=>?_);generalize (RW g).back?=bk;rcases bk with _|⟨s1,n1,z⟩
    ·rfl
    dsimp only;refine congr (congrArg bind ?_) (funext λc=>?_)
    ·refine congrArg (forIn _ _) (funext λ_=>funext λc=>?_);unfold zj;refine congrArg (bind _) (funext λg=>?_);generalize (if(RW g).size > 1 then(RW g)[(RW g).size-2]? else none)=o;rcases o with _|⟨_,_,_⟩ <;> rfl
    rcases c with⟨_ | _,_⟩ <;> rfl
 rcases c with⟨_ | _,_⟩
 ·dsimp only;refine congr (congrArg bind ?_) (funext λc=>?_)
  ·rfl
  rcases c with⟨_ | _,_⟩ <;> rfl
 rfl
section
variable{κ:Type}{lt:κ->κ->Bool}
noncomputable def rnk(lt:κ->κ->Bool)(ks:List κ)(k:κ):Nat:=ks.countP λy=>lt y k
theorem count_le{p q:κ->Bool}:∀{l:List κ},(∀x∈l,p x=true->q x=true)->l.countP p<=l.countP q
 | [],_=>c_ _
 |x::t,h=>by
  have ih:=count_le (l:=t) λy hy=>h y (.tail _ hy);have hx:=h x (.head _);rw[Oi,Oi];cases e:p x
  ·rw[if_neg (by simp)];lia
  rw[hx e,if_pos rfl];lia
theorem vM{p q:κ->Bool}:∀{l:List κ}{z:κ},(∀x∈l,p x=true->q x=true)->z∈l->p z=false->q z=true->l.countP p<l.countP q
 |x::t,z,h,hz,h1,h2=>by
  have ih:=count_le (l:=t) λy hy=>h y (.tail _ hy);have hx:=h x (.head _);rw[Oi,Oi];rcases i_.mp hz with e|e
  ·subst e;rw[h1,h2,if_neg (by simp),if_pos rfl];lia
  have:=vM (l:=t) (λy hy=>h y (.tail _ hy)) e h1 h2;cases e:p x
  ·rw[if_neg (by simp)];lia
  rw[hx e,if_pos rfl];lia
structure Tot (lt:κ->κ->Bool):Prop where
 irr:∀a,lt a a=false
 tr:∀a b c,lt a b=true->lt b c=true->lt a c=true
 tot:∀a b,lt a b=false->lt b a=false->a=b
theorem HU(T:Tot lt){ks:List κ}{a b:κ}(h:lt b a=false):rnk lt ks a<=rnk lt ks b:=by
 refine count_le λy _ hy=>?_;cases e:lt a b
 ·rw[<-T.tot a b e h];exact hy
 exact T.tr _ _ _ hy e
theorem nW(T:Tot lt){ks:List κ}{a b:κ}(ha:a∈ks)(h:lt a b=true):rnk lt ks a<rnk lt ks b:=vM (λy _ hy=>T.tr _ _ _ hy h) ha (T.irr a) h
theorem zU(T:Tot lt){ks:List κ}{a b:κ}(ha:a∈ks):decide (rnk lt ks a<rnk lt ks b)=lt a b:=by
 cases e:lt a b
 ·exact decide_eq_false (N1.mpr (HU T e))
 exact decide_eq_true (nW T ha e)
end
noncomputable def ltL:List Int->List Int->Bool
 | _,[]=>false
 | [],_::_=>true
 |a::x,b::y=>if a=b then ltL x y else decide (a<b)
theorem zM:∀x,ltL x x=false
 | []=>rfl
 |a::x=>by rw[ltL,if_pos rfl];exact zM x
theorem Bt:∀a b c,ltL a b=true->ltL b c=true->ltL a c=true
 | _,[],_,h,_=>by simp[ltL]at h
 | _,_::_,[],_,h=>by simp[ltL]at h
 | [],_::_,_::_,_,_=>rfl
 |a::x,b::y,c::z,h,g=>by
  rw[ltL]at h g ⊢;by_cases e1:a=b
  ·subst e1;rw[if_pos rfl]at h;by_cases e2:a=c
   ·subst e2;rw[if_pos rfl]at g ⊢;exact Bt x y z h g
   rw[if_neg e2]at g ⊢;exact g
  rw[if_neg e1]at h;have h:=of_decide_eq_true h;by_cases e2:b=c
  ·subst e2;rw[if_neg e1];exact decide_eq_true h
  rw[if_neg e2]at g;have g:=of_decide_eq_true g;rw[if_neg (by lia)];exact decide_eq_true (by lia)
theorem zL:∀a b,ltL a b=false->ltL b a=false->a=b
 | [],[],_,_=>rfl
 | [],_::_,h,_=>by simp[ltL]at h
 | _::_,[],_,h=>by simp[ltL]at h
 |a::x,b::y,h,g=>by
  rw[ltL]at h g;by_cases e:a=b
  ·subst e;rw[if_pos rfl]at h g;rw[zL x y h g]
  rw[if_neg e]at h;rw[if_neg (λz=>e z.symm)]at g;have h:=of_decide_eq_false h;have g:=of_decide_eq_false g;lia
theorem qT:Tot ltL:=⟨zM,Bt,zL⟩
noncomputable def kj:Q_->Int
 | .int i _=>i
 | _=>0
def jS(h:Rq):Q_->List Int
 | .ref a=>match h.get? a with
  |some o=>match o.data with
   | .seq xs _=>xs.toList.map kj
   | _=>[]
  |none=>[]
 | _=>[]
noncomputable def AllInt(l:List Q_):Prop:=∀v∈l,∃i t,v=.int i t
def Ei(h:Rq)(v:Q_):Prop:=∃a o xs n,v=.ref a/\h.get? a=some o/\o.cls=.type "tuple"/\o.data=.seq xs n/\AllInt xs.toList/\0<xs.size
theorem tD{h:Rq}{a:Ra}{o:Obj}{xs:Array Q_}(e:h.get? a=some o)(d:o.data=.seq xs n):jS h (.ref a)=xs.toList.map kj:=by unfold jS;dsimp only;rw[e];dsimp only;rw[d]
section
variable{prog:Rj}{w:Ro}{A:Rw}{E:Q_->Rf->Prop}{s:Rf}
theorem yc{Q:Bool->Rf->Prop}{fin:Bool}:∀(xs ys:List Q_) (i:Nat),AllInt xs->AllInt ys->fin=decide (xs.length<ys.length)->Q (ltL (xs.map kj) (ys.map kj)) s->PySem.W.KatLex prog w A true fin Q (xs.zip ys) i s
 | [],[],i,_,_,e,q=>by subst e;exact VU q
 | [],b::y,i,_,_,e,q=>by subst e;exact VU q
 |a::x,[],i,_,_,e,q=>by subst e;exact VU q
 |a::x,b::y,i,ha,hb,e,q=>by
  obtain⟨n,t,rfl⟩:=ha a (.head _);obtain⟨m,u,rfl⟩:=hb b (.head _);rw[d_,d_,ltL]at q;refine PySem.W.kat_cons (Xr ?_);by_cases z:n=m
  ·have q:Q (ltL (x.map kj) (y.map kj)) s:=by rw[if_pos (show kj (.int n t)=kj (.int m u)from z)]at q;exact q
   rw[show(n == m)=true by simpa using z];refine PySem.W.kat_yes (yc x y (i+1) (λv hv=>ha v (.tail _ hv)) (λv hv=>hb v (.tail _ hv)) ?_ q);rw[e,gV,gV];exact decide_eq_decide.mpr (by lia)
  have q:Q (decide (n<m)) s:=by rw[if_neg (show ¬kj (.int n t)=kj (.int m u)from z)]at q;exact q
  rw[show(n == m)=false by simpa using z];refine PySem.W.kat_no ?_;cases (true&&i == 0)
  ·exact PySem.W.kat_one _ _ (lt_int q)
  exact oneLt_int q
theorem uA{h0:Rq}{ks:List (List Int)}{S:RQ->Prop}(hS:∀x,S x->Ei h0 x.1/\jS h0 x.1∈ks)(hk:∀b o,h0.get? b=some o->(∃x n,o.cls=.type "tuple"/\o.data=.seq x n)->s.heap.get? b=some o) :
  mC (Rn prog w) A E s (Yl true) (λx=>rnk ltL ks (jS h0 x.1)) S:=by
 intro x y st Q sx sy kd q;obtain⟨⟨a,oa,xs,na,ea,ga,ca,da,ia,_⟩,ma⟩:=hS x sx;obtain⟨⟨b,ob,ys,nb,eb,gb,cb,db,ib,_⟩,mb⟩:=hS y sy;rw[lt'_eq];refine RB (Wb ?_);rw[kd,ea,eb];refine RB (Wz (SN (PySem.W.kat_lt (hk _ _ ga ⟨_,_,ca,da⟩) da (hk _ _ gb ⟨_,_,cb,db⟩) db (yc _ _ 0 ia ib (by rw[l_,l_]) ⟨rfl,?_⟩))));refine RV ?_;dsimp only at q;rw[zU qT ma,ea,eb,tD ga da,tD gb db]at q;exact q
theorem vJ{M:Ui}{h0:Rq}{vs:List Q_}{Q:S0->Rf->Prop}(hv:∀v∈vs,Ei h0 v)(hk:∀b o,h0.get? b=some o->(∃x n,o.cls=.type "tuple"/\o.data=.seq x n)->s.heap.get? b=some o)(ld:vs≠[])(q:Q (Yl true) s):Rh M A (VG vs.toArray) Q E s:=by
 have mk:∀(l:List Q_),(∀v∈l,Ei h0 v)->∃fs,PySem.W.KatTups s.heap l fs/\AllInt fs/\fs.length=l.length:=by
  intro l;induction l with
  |nil=>exact λ_=>⟨[],Zz,λv hv=>(nomatch hv),rfl⟩
  |cons v r ih=>
   intro hl;obtain⟨fs,k1,k2,k3⟩:=ih λv hv=>hl v (.tail _ hv);obtain⟨a,o,xs,n,rfl,g,c,d,i,z⟩:=hl v (.head _);obtain⟨f,hf⟩:∃f,xs[0]?=some f:=⟨_,k_ z⟩;refine⟨f::fs,Zr (hk _ _ g ⟨_,_,c,d⟩) c d hf k1,λv hv=>?_,by rw[gV,gV,k3]⟩;rcases i_.mp hv with e|e
   ·subst e;rw[<-A_]at hf;exact i _ (F_ hf)
   exact k2 v e
 obtain⟨fs,k1,k2,k3⟩:=mk vs hv;refine PySem.W.kat_kind (T:=.type "int") k1 ?_ (λv hv=>?_) rfl q
 ·rw[k3];exact PH.mpr ld
 obtain⟨i,t,rfl⟩:=k2 v hv;exact .now
theorem l9(vs:List Q_):(vs.toArray.zip vs.toArray).toList=vs.map λv=>(v,v):=by
 rw[Array.toList_zip];induction vs with
 |nil=>rfl
 |cons v r ih=>exact congrArg ((v,v)::·) ih
end
theorem yH:∀(f n r:Nat),Wc f n r<=n+r
 |0,n,r=>c_ _
 |f+1,n,r=>by
  rw[YT];split
  ·exact c_ _
  have:=yH f (n/2) (max r (n%2));lia
section
variable{M:Ui}{A:Rw}{E:Q_->Rf->Prop}{s:Rf}{kd:S0}{rk:RQ->Nat}{S:RQ->Prop}
theorem sU(L:mC M A E s kd rk S)(hk:kindOf st=kd)(hS:m8 S st)(hsz:l0+q0<=(Rk st).size)(h1:1<=q0)(o:iQ rk (Rk st) l0 q0)(h:Q (some q0) st):wpS M A E s (U9 l0 q0) Q st:=by
 rw[DE];dsimp only;refine RB (TZ (S3 (I:=λx c am=>am=st/\c=(none,x)) (Q:=λc am=>am=st/\c=(none,q0)) ?_ ?_ ⟨rfl,rfl⟩) ?_)
 ·rintro x c io hx1 hx2 ⟨rfl,rfl⟩;dsimp only;refine RB (ji L hk hS (by lia) (by lia) ?_);dsimp only;have:=o (x-1) x (Ov ..) hx2;rw[B1 hx1]at this;rw[decide_eq_false (N1.mpr this),if_neg (by simp)];exact RV ⟨rfl,rfl⟩
 ·rintro c io ⟨rfl,rfl⟩;rw[NJ h1];exact⟨rfl,rfl⟩
 rintro c io ⟨rfl,rfl⟩;dsimp only;rw[if_pos (beq_self_eq_true _)];exact RV h
end
end ZS
namespace PL
open PySem L2
inductive T where
 |any|hole (w:V)|bare|kp (G:Hp)
 |non|bl (b:Bool)|int (i:Int)|str (x:Str)|ty (n:String)
 |tup (ts:List T)|cst (ts:List T)
 |lst (o:Bool) (ts:List T)
 |dK (o:Bool) (kvs:List (Key×T))
 |dT (o:Bool) (kvs:List (List Key×T))
mutual
noncomputable def er:T->T
 | .tup ts=>.tup (erL ts)
 | .cst ts=>.cst (erL ts)
 | .lst _ ts=>.lst false (erL ts)
 | .dK _ kvs=>.dK false (erK kvs)
 | .dT _ kvs=>.dT false (erT kvs)
 | .bare=>.any
 |t=>t
noncomputable def erL:List T->List T
 | []=>[]
 |t::r=>er t::erL r
noncomputable def erK:List (Key×T)->List (Key×T)
 | []=>[]
 | (k,t)::r=>(k,er t)::erK r
noncomputable def erT:List (List Key×T)->List (List Key×T)
 | []=>[]
 | (k,t)::r=>(k,er t)::erT r
end
mutual
noncomputable def aK:T->Bool
 | .tup ts=>aY ts
 | .cst ts=>aY ts
 | .lst o ts=>!o&&aY ts
 | .dK o kvs=>!o&&sY kvs
 | .dT o kvs=>!o&&iF kvs
 | .bare=>false
 | _=>true
noncomputable def aY:List T->Bool
 | []=>true
 |t::r=>aK t&&aY r
noncomputable def sY:List (Key×T)->Bool
 | []=>true
 | (_,t)::r=>aK t&&sY r
noncomputable def iF:List (List Key×T)->Bool
 | []=>true
 | (_,t)::r=>aK t&&iF r
end
mutual
noncomputable def fE:T->Bool
 | .tup ts=>df ts
 | .cst ts=>df ts
 | .lst o ts=>o&&df ts
 | .dK o kvs=>o&&qO kvs
 | .dT o kvs=>o&&lT kvs
 | .kp _=>false
 | _=>true
noncomputable def df:List T->Bool
 | []=>true
 |t::r=>fE t&&df r
noncomputable def qO:List (Key×T)->Bool
 | []=>true
 | (_,t)::r=>fE t&&qO r
noncomputable def lT:List (List Key×T)->Bool
 | []=>true
 | (_,t)::r=>fE t&&lT r
end
theorem cw{α:Type}(g:α->T):∀l:List α,erL (l.map g)=l.map λx=>er (g x)
 | []=>rfl
 |x::r=>by rw[d_,erL,cw g r,d_]
theorem qI:∀l:List T,erL l=l.map er
 | []=>rfl
 |x::r=>by rw[erL,qI r,d_]
theorem pq(l:List T):(erL l).length=l.length:=by rw[qI,a_]
theorem fB(l m:List T):erL (l++m)=erL l++erL m:=by rw[qI,qI,qI,z_]
theorem mG:∀l:List T,aY l=l.all aK
 | []=>rfl
 |x::r=>by rw[aY,mG r,Of]
theorem jI:∀l:List T,df l=l.all fE
 | []=>rfl
 |x::r=>by rw[df,jI r,Of]
mutual
theorem aI:∀t:T,aK (er t)=true
 | .tup ts=>by rw[er,aK,lG ts]
 | .cst ts=>by rw[er,aK,lG ts]
 | .lst _ ts=>by rw[er,aK,lG ts];rfl
 | .dK _ ts=>by rw[er,aK,se ts];rfl
 | .dT _ ts=>by rw[er,aK,sh ts];rfl
 | .bare=>rfl
 | .any=>rfl
 | .hole _=>rfl
 | .kp _=>rfl
 | .non=>rfl
 | .bl _=>rfl
 | .int _=>rfl
 | .str _=>rfl
 | .ty _=>rfl
theorem lG:∀t:List T,aY (erL t)=true
 | []=>rfl
 |t::r=>by rw[erL,aY,aI t,lG r];rfl
theorem se:∀t:List (Key×T),sY (erK t)=true
 | []=>rfl
 | (_,t)::r=>by rw[erK,sY,aI t,se r];rfl
theorem sh:∀t:List (List Key×T),iF (erT t)=true
 | []=>rfl
 | (_,t)::r=>by rw[erT,iF,aI t,sh r];rfl
end
def Gr(G H:Hp):Prop:=∀b u,Rd G b u->Rd H b u
variable {H:Hp}
theorem Gr.ip :Gr H H:=λ_ _ h=>h
variable {G:Hp}
theorem Gr.trans {J:Hp}(a:Gr G H)(b:Gr H J):Gr G J:=λc u h=>b c u (a c u h)
theorem Gr.of (h:dh G H):Gr G H:=λb u r=>by
 rcases r with r|⟨o,r⟩
 ·exact .inl (h _ _ r)
 exact .inr ⟨o,h _ _ r⟩
theorem Rd.some {H:Hp}{a:Ra}{u:HO}(h:Rd H a u):∃w,H a=some w:=by
 rcases h with h|⟨o,h⟩
 ·exact⟨_,h⟩
 exact⟨_,h⟩
theorem Gr.none {G H:Hp}(h:Gr G H){a:Ra}(e:H a=none):G a=none:=by
 cases q:G a with
 |none=>rfl
 |some u=>
  obtain⟨w,z⟩:=Rd.some (h a u (.inl q));rw[e]at z;cases z
noncomputable def TK(H H':Hp):Prop:=∀b xs,H b=some (.tup xs)->H' b=some (.tup xs)
theorem dh.tk (h:dh G H):TK G H:=λb xs r=>h _ _ r
variable {H':Hp}{a:Ra}
theorem Put.tk {o:HO}(p:Put H a o H')(ht:∀xs,H a≠some (.tup xs)):TK H H':=λb xs r=>by have hb:b≠a:=λz=>ht xs (z▸r);rw[p.else_ b hb];exact r
section
variable(K:Rb)(Hz H:Hp)
mutual
inductive RepT:T->V->List Ra->Prop
 |any {v:V}:RepT .any v []
 |hole {w:V}:RepT (.hole w) w []
 |bare {a:Ra}{u:HO} (h:H a=some u) (ht:∀xs,H a≠some (.tup xs)):RepT .bare (.ref a) [a]
 |kp {G:Hp}{v:V} (h:Gr G Hz):RepT (.kp G) v []
 |non:RepT .non .non []
 |bl {b:Bool}:RepT (.bl b) (.bl b) []
 |int {i:Int}:RepT (.int i) (.int i) []
 |str {x:Str}:RepT (.str x) (.str x) []
 |ty {n:String}:RepT (.ty n) (.ty n) []
 |tup {a:Ra}{ts:List T}{vs:List V}{L:List Ra} (h:H a=some (.tup vs)) (c:RepTs ts vs L):RepT (.tup ts) (.ref a) L
 |cst {a:Ra}{ts:List T}{vs:List V} (h:SqT K (λ_=>none) a vs) (c:RepTs ts vs []):RepT (.cst ts) (.ref a) []
 |lstO {a:Ra}{ts:List T}{vs:List V}{L:List Ra} (h:H a=some (.lst vs)) (c:RepTs ts vs L):RepT (.lst true ts) (.ref a) (a::L)
 |lstZ {a:Ra}{ts:List T}{vs:List V} (h:Rd Hz a (.lst vs)) (c:RepTs ts vs []):RepT (.lst false ts) (.ref a) []
 |dKO {a:Ra}{ts:List (Key×T)}{vs:List (Key×V)}{L:List Ra} (h:H a=some (.dK vs)) (c:RepKs ts vs L):RepT (.dK true ts) (.ref a) (a::L)
 |dKZ {a:Ra}{ts:List (Key×T)}{vs:List (Key×V)} (h:Rd Hz a (.dK vs)) (c:RepKs ts vs []):RepT (.dK false ts) (.ref a) []
 |dTO {a:Ra}{ts:List (List Key×T)}{vs:List (List Key×V)}{L:List Ra} (h:H a=some (.dT vs)) (c:RepXs ts vs L):RepT (.dT true ts) (.ref a) (a::L)
 |dTZ {a:Ra}{ts:List (List Key×T)}{vs:List (List Key×V)} (h:Rd Hz a (.dT vs)) (c:RepXs ts vs []):RepT (.dT false ts) (.ref a) []
inductive RepTs:List T->List V->List Ra->Prop
 |nil:RepTs [] [] []
 |cons {t:T}{v:V}{L M N:List Ra}{ts:List T}{vs:List V} (e:N=L++M) (h:RepT t v L) (c:RepTs ts vs M):RepTs (t::ts) (v::vs) N
inductive RepKs:List (Key×T)->List (Key×V)->List Ra->Prop
 |nil:RepKs [] [] []
 |cons {k:Key}{t:T}{v:V}{L M N:List Ra}{ts:List (Key×T)}{vs:List (Key×V)} (e:N=L++M) (h:RepT t v L) (c:RepKs ts vs M):RepKs ((k,t)::ts) ((k,v)::vs) N
inductive RepXs:List (List Key×T)->List (List Key×V)->List Ra->Prop
 |nil:RepXs [] [] []
 |cons {k:List Key}{t:T}{v:V}{L M N:List Ra}{ts:List (List Key×T)}{vs:List (List Key×V)} (e:N=L++M) (h:RepT t v L) (c:RepXs ts vs M):RepXs ((k,t)::ts) ((k,v)::vs) N
end
end
variable {Hz Hz' Z:Hp}{L M:List Ra}{p:Ra}{t:T}{ts:List T}{v:V}{vs xs:List V}{x:Option V}{α:Type}
section
variable{K:Rb}
theorem ni{P:T->V->List Ra->Prop}{Ps:List T->List V->List Ra->Prop}{Pk:List (Key×T)->List (Key×V)->List Ra->Prop}{Px:List (List Key×T)->List (List Key×V)->List Ra->Prop}
  (c1:∀{v},P .any v []) (c2:∀{w},P (.hole w) w []) (c3:∀{a u},H a=some u->(∀xs,H a≠some (.tup xs))->P .bare (.ref a) [a]) (c4:∀{G v},Gr G Hz->P (.kp G) v [])
  (c5:P .non .non []) (c6:∀{b},P (.bl b) (.bl b) []) (c7:∀{i},P (.int i) (.int i) []) (c8:∀{x},P (.str x) (.str x) []) (c9:∀{n},P (.ty n) (.ty n) [])
  (c10:∀{a ts vs L},H a=some (.tup vs)->Ps ts vs L->P (.tup ts) (.ref a) L) (c11:∀{a ts vs},SqT K (λ_=>none) a vs->Ps ts vs []->P (.cst ts) (.ref a) [])
  (c12:∀{a ts vs L},H a=some (.lst vs)->Ps ts vs L->P (.lst true ts) (.ref a) (a::L)) (c13:∀{a ts vs},Rd Hz a (.lst vs)->Ps ts vs []->P (.lst false ts) (.ref a) [])
  (c14:∀{a ts vs L},H a=some (.dK vs)->Pk ts vs L->P (.dK true ts) (.ref a) (a::L)) (c15:∀{a ts vs},Rd Hz a (.dK vs)->Pk ts vs []->P (.dK false ts) (.ref a) [])
  (c16:∀{a ts vs L},H a=some (.dT vs)->Px ts vs L->P (.dT true ts) (.ref a) (a::L)) (c17:∀{a ts vs},Rd Hz a (.dT vs)->Px ts vs []->P (.dT false ts) (.ref a) [])
  (s0:Ps [] [] []) (s1:∀{t v L M ts vs},P t v L->Ps ts vs M->Ps (t::ts) (v::vs) (L++M))
  (k0:Pk [] [] []) (k1:∀{k t v L M ts vs},P t v L->Pk ts vs M->Pk ((k,t)::ts) ((k,v)::vs) (L++M))
  (x0:Px [] [] []) (x1:∀{k t v L M ts vs},P t v L->Px ts vs M->Px ((k,t)::ts) ((k,v)::vs) (L++M)) :
  (∀{t v L},RepT K Hz H t v L->P t v L)/\(∀{t v L},RepTs K Hz H t v L->Ps t v L)/\(∀{t v L},RepKs K Hz H t v L->Pk t v L)/\(∀{t v L},RepXs K Hz H t v L->Px t v L):=by
 have m1:∀{t v L},RepT K Hz H t v L->P t v L:=λh=>RepT.rec (motive_1:=λt v L _=>P t v L) (motive_2:=λt v L _=>Ps t v L) (motive_3:=λt v L _=>Pk t v L) (motive_4:=λt v L _=>Px t v L)
  c1 c2 c3 c4 c5 c6 c7 c8 c9 (λh _ i=>c10 h i) (λh _ i=>c11 h i) (λh _ i=>c12 h i) (λh _ i=>c13 h i) (λh _ i=>c14 h i) (λh _ i=>c15 h i) (λh _ i=>c16 h i) (λh _ i=>c17 h i)
  s0 (λe _ _ i j=>e▸s1 i j) k0 (λe _ _ i j=>e▸k1 i j) x0 (λe _ _ i j=>e▸x1 i j) h
 refine⟨m1,λh=>?_,λh=>?_,λh=>?_⟩
 ·exact RepTs.rec (motive_1:=λt v L _=>True) (motive_2:=λt v L _=>Ps t v L) (motive_3:=λt v L _=>True) (motive_4:=λt v L _=>True)
   trivial trivial (λ_ _=>trivial) (λ_=>trivial) trivial trivial trivial trivial trivial (λ_ _ _=>trivial) (λ_ _ _=>trivial) (λ_ _ _=>trivial) (λ_ _ _=>trivial) (λ_ _ _=>trivial) (λ_ _ _=>trivial) (λ_ _ _=>trivial) (λ_ _ _=>trivial)
   s0 (λe h _ _ j=>e▸s1 (m1 h) j) trivial (λ_ _ _ _ _=>trivial) trivial (λ_ _ _ _ _=>trivial) h
 ·exact RepKs.rec (motive_1:=λt v L _=>True) (motive_2:=λt v L _=>True) (motive_3:=λt v L _=>Pk t v L) (motive_4:=λt v L _=>True)
   trivial trivial (λ_ _=>trivial) (λ_=>trivial) trivial trivial trivial trivial trivial (λ_ _ _=>trivial) (λ_ _ _=>trivial) (λ_ _ _=>trivial) (λ_ _ _=>trivial) (λ_ _ _=>trivial) (λ_ _ _=>trivial) (λ_ _ _=>trivial) (λ_ _ _=>trivial)
   trivial (λ_ _ _ _ _=>trivial) k0 (λe h _ _ j=>e▸k1 (m1 h) j) trivial (λ_ _ _ _ _=>trivial) h
 exact RepXs.rec (motive_1:=λt v L _=>True) (motive_2:=λt v L _=>True) (motive_3:=λt v L _=>True) (motive_4:=λt v L _=>Px t v L)
  trivial trivial (λ_ _=>trivial) (λ_=>trivial) trivial trivial trivial trivial trivial (λ_ _ _=>trivial) (λ_ _ _=>trivial) (λ_ _ _=>trivial) (λ_ _ _=>trivial) (λ_ _ _=>trivial) (λ_ _ _=>trivial) (λ_ _ _=>trivial) (λ_ _ _=>trivial)
  trivial (λ_ _ _ _ _=>trivial) trivial (λ_ _ _ _ _=>trivial) x0 (λe h _ _ j=>e▸x1 (m1 h) j) h
noncomputable def Kps(H H':Hp)(L:List Ra):Prop:=∀a∈L,∀u,H a=some u->H' a=some u/\((∀xs,H a≠some (.tup xs))->∀xs,H' a≠some (.tup xs))
theorem Kps.hd (h:Kps H H' (a::L)){u:HO}(e:H a=some u):H' a=some u/\((∀xs,H a≠some (.tup xs))->∀xs,H' a≠some (.tup xs)):=h _ t_ _ e
theorem Kps.tl (h:Kps H H' (a::L)):Kps H H' L:=λa m=>h a (j_ _ m)
theorem Kps.l (h:Kps H H' (L++M)):Kps H H' L:=λa m=>h a (K' _ m)
theorem Kps.r (h:Kps H H' (L++M)):Kps H H' M:=λa m=>h a (u_ _ m)
theorem uO(ht:TK H H')(hz:Gr Hz Hz'):(∀{t v L},RepT K Hz H t v L->Kps H H' L->RepT K Hz' H' t v L)/\(∀{t v L},RepTs K Hz H t v L->Kps H H' L->RepTs K Hz' H' t v L)/\(∀{t v L},RepKs K Hz H t v L->Kps H H' L->RepKs K Hz' H' t v L)/\(∀{t v L},RepXs K Hz H t v L->Kps H H' L->RepXs K Hz' H' t v L):=
 ni (P:=λt v L=>Kps H H' L->RepT K Hz' H' t v L) (Ps:=λt v L=>Kps H H' L->RepTs K Hz' H' t v L) (Pk:=λt v L=>Kps H H' L->RepKs K Hz' H' t v L) (Px:=λt v L=>Kps H H' L->RepXs K Hz' H' t v L)
  (λ_=>.any) (λ_=>.hole) (λh t o=>.bare (o.hd h).1 ((o.hd h).2 t)) (λh _=>.kp (h.trans hz)) (λ_=>.non) (λ_=>.bl) (λ_=>.int) (λ_=>.str) (λ_=>.ty)
  (λh c o=>.tup (ht _ _ h) (c o)) (λh c o=>.cst h (c o)) (λh c o=>.lstO (o.hd h).1 (c o.tl)) (λh c o=>.lstZ (hz _ _ h) (c o)) (λh c o=>.dKO (o.hd h).1 (c o.tl)) (λh c o=>.dKZ (hz _ _ h) (c o)) (λh c o=>.dTO (o.hd h).1 (c o.tl)) (λh c o=>.dTZ (hz _ _ h) (c o))
  (λ_=>.nil) (λi j o=>.cons rfl (i o.l) (j o.r)) (λ_=>.nil) (λi j o=>.cons rfl (i o.l) (j o.r)) (λ_=>.nil) (λi j o=>.cons rfl (i o.l) (j o.r))
theorem RepT.move (ht:TK H H')(hz:Gr Hz Hz')(o:Kps H H' L)(h:RepT K Hz H t v L):RepT K Hz' H' t v L:=(uO ht hz).1 h o
theorem RepXs.move (ht:TK H H')(hz:Gr Hz Hz'){t:List (List Key×T)}{v:List (List Key×V)}(o:Kps H H' L)(h:RepXs K Hz H t v L):RepXs K Hz' H' t v L:=(uO ht hz).2.2.2 h o
noncomputable def Thr(H:Hp)(L:List Ra):Prop:=∀a∈L,(∃u,H a=some u)/\∀xs,H a≠some (.tup xs)
theorem Thr.nil :Thr H []:=λa m=>nomatch m
theorem Thr.cons {H:Hp}{a:Ra}{u:HO}{L:List Ra}(h:H a=some u)(t:∀xs,H a≠some (.tup xs))(c:Thr H L):Thr H (a::L):=λb m=>by
 rcases i_.mp m with rfl|m
 ·exact⟨⟨_,h⟩,t⟩
 exact c b m
theorem Thr.app (c:Thr H L)(d:Thr H M):Thr H (L++M):=λb m=>(C'.mp m).elim (c b) (d b)
theorem Ak:(∀{t v L},RepT K Hz H t v L->Thr H L)/\(∀{t v L},RepTs K Hz H t v L->Thr H L)/\(∀{t v L},RepKs K Hz H t v L->Thr H L)/\(∀{t v L},RepXs K Hz H t v L->Thr H L):=
 ni (P:=λt v L=>Thr H L) (Ps:=λt v L=>Thr H L) (Pk:=λt v L=>Thr H L) (Px:=λt v L=>Thr H L)
  .nil .nil (λh t=>.cons h t .nil) (λ_=>.nil) .nil .nil .nil .nil .nil (λ_ c=>c) (λ_ c=>c) (λh c=>.cons h (λxs r=>by rw[h]at r;cases r) c) (λ_ c=>c) (λh c=>.cons h (λxs r=>by rw[h]at r;cases r) c) (λ_ c=>c) (λh c=>.cons h (λxs r=>by rw[h]at r;cases r) c) (λ_ c=>c)
  .nil (λc d=>c.app d) .nil (λc d=>c.app d) .nil (λc d=>c.app d)
theorem RepT.there (h:RepT K Hz H t v L):Thr H L:=Ak.1 h
noncomputable def Fzn(H Z:Hp)(L:List Ra):Prop:=∀a∈L,Z a=H a
theorem Fzn.hd (h:Fzn H Z (a::L)){u:HO}(e:H a=some u):Rd Z a u:=.inl (by rw[h _ t_];exact e)
theorem Fzn.tl (h:Fzn H Z (a::L)):Fzn H Z L:=λa m=>h a (j_ _ m)
theorem Fzn.l (h:Fzn H Z (L++M)):Fzn H Z L:=λa m=>h a (K' _ m)
theorem Fzn.r (h:Fzn H Z (L++M)):Fzn H Z M:=λa m=>h a (u_ _ m)
theorem Ew(hz:Gr Hz Z):(∀{t v L},RepT K Hz H t v L->Fzn H Z L->RepT K Z H (er t) v [])/\(∀{t v L},RepTs K Hz H t v L->Fzn H Z L->RepTs K Z H (erL t) v [])/\(∀{t v L},RepKs K Hz H t v L->Fzn H Z L->RepKs K Z H (erK t) v [])/\(∀{t v L},RepXs K Hz H t v L->Fzn H Z L->RepXs K Z H (erT t) v []):=
 ni (P:=λt v L=>Fzn H Z L->RepT K Z H (er t) v []) (Ps:=λt v L=>Fzn H Z L->RepTs K Z H (erL t) v []) (Pk:=λt v L=>Fzn H Z L->RepKs K Z H (erK t) v []) (Px:=λt v L=>Fzn H Z L->RepXs K Z H (erT t) v [])
  (λ_=>.any) (λ_=>.hole) (λ_ _ _=>.any) (λh _=>.kp (h.trans hz)) (λ_=>.non) (λ_=>.bl) (λ_=>.int) (λ_=>.str) (λ_=>.ty)
  (λh c o=>.tup h (c o)) (λh c o=>.cst h (c o)) (λh c o=>.lstZ (o.hd h) (c o.tl)) (λh c o=>.lstZ (hz _ _ h) (c o)) (λh c o=>.dKZ (o.hd h) (c o.tl)) (λh c o=>.dKZ (hz _ _ h) (c o)) (λh c o=>.dTZ (o.hd h) (c o.tl)) (λh c o=>.dTZ (hz _ _ h) (c o))
  (λ_=>.nil) (λi j o=>.cons rfl (i o.l) (j o.r)) (λ_=>.nil) (λi j o=>.cons rfl (i o.l) (j o.r)) (λ_=>.nil) (λi j o=>.cons rfl (i o.l) (j o.r))
theorem RepT.frz (hz:Gr Hz Z)(o:Fzn H Z L)(h:RepT K Hz H t v L):RepT K Z H (er t) v []:=(Ew hz).1 h o
theorem EB:(∀{t v L},RepT K Hz H t v L->aK t=true->L=[])/\(∀{t v L},RepTs K Hz H t v L->aY t=true->L=[])/\(∀{t v L},RepKs K Hz H t v L->True)/\(∀{t v L},RepXs K Hz H t v L->True):=
 ni (P:=λt v L=>aK t=true->L=[]) (Ps:=λt v L=>aY t=true->L=[]) (Pk:=λt v L=>True) (Px:=λt v L=>True)
  (λ_=>rfl) (λ_=>rfl) (λ_ _ n=>nomatch n) (λ_ _=>rfl) (λ_=>rfl) (λ_=>rfl) (λ_=>rfl) (λ_=>rfl) (λ_=>rfl)
  (λ_ c n=>c (by rw[aK]at n;exact n)) (λ_ _ _=>rfl) (λ_ _ n=>nomatch n) (λ_ _ _=>rfl) (λ_ _ n=>nomatch n) (λ_ _ _=>rfl) (λ_ _ n=>nomatch n) (λ_ _ _=>rfl)
  (λ_=>rfl) (λi j n=>by
   rw[aY,K_]at n;rw[i n.1,j n.2]
   rfl) trivial (λ_ _=>trivial) trivial (λ_ _=>trivial)
theorem RepT.nil_of (n:aK t=true)(h:RepT K Hz H t v L):L=[]:=EB.1 h n
theorem De(ht:TK H H'):(∀{t v L},RepT K Hz H t v L->fE t=true->Kps H H' L->RepT K Z H' t v L)/\(∀{t v L},RepTs K Hz H t v L->df t=true->Kps H H' L->RepTs K Z H' t v L)/\(∀{t v L},RepKs K Hz H t v L->qO t=true->Kps H H' L->RepKs K Z H' t v L)/\(∀{t v L},RepXs K Hz H t v L->lT t=true->Kps H H' L->RepXs K Z H' t v L):=
 ni (P:=λt v L=>fE t=true->Kps H H' L->RepT K Z H' t v L) (Ps:=λt v L=>df t=true->Kps H H' L->RepTs K Z H' t v L) (Pk:=λt v L=>qO t=true->Kps H H' L->RepKs K Z H' t v L) (Px:=λt v L=>lT t=true->Kps H H' L->RepXs K Z H' t v L)
  (λ_ _=>.any) (λ_ _=>.hole) (λh t _ o=>.bare (o.hd h).1 ((o.hd h).2 t)) (λ_ n=>nomatch n) (λ_ _=>.non) (λ_ _=>.bl) (λ_ _=>.int) (λ_ _=>.str) (λ_ _=>.ty)
  (λh c n o=>.tup (ht _ _ h) (c (by rw[fE]at n;exact n) o)) (λh c n o=>.cst h (c (by rw[fE]at n;exact n) o)) (λh c n o=>.lstO (o.hd h).1 (c (by rw[fE,MJ]at n;exact n) o.tl)) (λ_ _ n=>nomatch n) (λh c n o=>.dKO (o.hd h).1 (c (by rw[fE,MJ]at n;exact n) o.tl)) (λ_ _ n=>nomatch n) (λh c n o=>.dTO (o.hd h).1 (c (by rw[fE,MJ]at n;exact n) o.tl)) (λ_ _ n=>nomatch n)
  (λ_ _=>.nil) (λi j n o=>.cons rfl (i (by rw[df,K_]at n;exact n.1) o.l) (j (by rw[df,K_]at n;exact n.2) o.r)) (λ_ _=>.nil) (λi j n o=>.cons rfl (i (by rw[qO,K_]at n;exact n.1) o.l) (j (by rw[qO,K_]at n;exact n.2) o.r)) (λ_ _=>.nil) (λi j n o=>.cons rfl (i (by rw[lT,K_]at n;exact n.1) o.l) (j (by rw[lT,K_]at n;exact n.2) o.r))
theorem RepT.LF (ht:TK H H')(n:fE t=true)(o:Kps H H' L)(h:RepT K Hz H t v L):RepT K Z H' t v L:=(De ht).1 h n o
abbrev Ev:=List T
abbrev Fm:=List (T×Option V)
noncomputable def qV(K:Rb)(Hz H:Hp)(t:T)(x:Option V)(L:List Ra):Prop:=(t=.any/\L=[])\/∃v,x=some v/\RepT K Hz H t v L
inductive RepL (K:Rb) (Hz H:Hp):Fm->List Ra->Prop
 |nil:RepL K Hz H [] []
 |cons {t:T}{x:Option V}{L M N:List Ra}{r:Fm} (e:N=L++M) (h:qV K Hz H t x L) (c:RepL K Hz H r M):RepL K Hz H ((t,x)::r) N
def Rp(K:Rb)(H:Hp)(Γ:Fm):Prop:=∃Hz L,RepL K Hz H Γ L/\L.Nodup/\Gr Hz H/\∀b∈L,Hz b=none
theorem qV.move (ht:TK H H')(hz:Gr Hz Hz')(ho:∀a∈L,∀u,H a=some u->H' a=some u/\((∀xs,H a≠some (.tup xs))->∀xs,H' a≠some (.tup xs)))(h:qV K Hz H t x L):qV K Hz' H' t x L:=by
 rcases h with⟨rfl,rfl⟩|⟨v,rfl,h⟩
 ·exact .inl ⟨rfl,rfl⟩
 exact .inr ⟨v,rfl,h.move ht hz ho⟩
theorem qV.there (h:qV K Hz H t x L):∀a∈L,(∃u,H a=some u)/\∀xs,H a≠some (.tup xs):=by
 rcases h with⟨rfl,rfl⟩|⟨v,rfl,h⟩
 ·intro a m;cases m
 exact h.there
theorem RepL.move (ht:TK H H')(hz:Gr Hz Hz'):∀{Γ:Fm}{L:List Ra},(∀a∈L,∀u,H a=some u->H' a=some u/\((∀xs,H a≠some (.tup xs))->∀xs,H' a≠some (.tup xs)))->RepL K Hz H Γ L->RepL K Hz' H' Γ L:=by
 intro Γ L ho x;induction x with
 |nil=>exact .nil
 |cons e h c ih=>exact .cons e (h.move ht hz λa m=>ho a (by rw[e];exact K' _ m)) (ih λa m=>ho a (by rw[e];exact u_ _ m))
theorem RepL.there :∀{Γ:Fm}{L:List Ra},RepL K Hz H Γ L->∀a∈L,(∃u,H a=some u)/\∀xs,H a≠some (.tup xs):=by
 intro Γ L x;induction x with
 |nil=>intro a m;cases m
 |cons e h c ih=>
  intro a m;rw[e]at m;rcases C'.mp m with m|m
  ·exact h.there a m
  exact ih a m
theorem RepL.app :∀{Γ Δ:Fm}{L M:List Ra},RepL K Hz H Γ L->RepL K Hz H Δ M->RepL K Hz H (Γ++Δ) (L++M):=by
 intro Γ Δ L M x d;induction x with
 |nil=>exact d
 |cons e h c ih=>exact .cons (by rw[e,w_]) h ih
theorem RepL.split :∀{Γ Δ:Fm}{N:List Ra},RepL K Hz H (Γ++Δ) N->∃L M,N=L++M/\RepL K Hz H Γ L/\RepL K Hz H Δ M
 | [],_,N,h=>⟨[],N,rfl,.nil,h⟩
 | (t,x)::r,_,N,.cons e h c=>by obtain⟨L,M,rfl,h1,h2⟩:=c.split;exact⟨_,M,by rw[e,w_],.cons rfl h h1,h2⟩
theorem RepL.perm {Γ Δ:Fm}(p:Γ.Perm Δ):∀{L:List Ra},RepL K Hz H Γ L->∃M,L.Perm M/\RepL K Hz H Δ M:=by
 induction p with
 |nil=>intro L h;exact⟨L,.refl _,h⟩
 |cons x q ih=>
  intro L h;cases h with
  |cons e h c=>
   obtain⟨M,p1,h1⟩:=ih c;exact⟨_,by rw[e];exact p1.append_left _,.cons rfl h h1⟩
 |swap x y l=>
  intro L h;cases h with
  |cons e h c=>
   cases c with
   |cons e' h' c'=>
    refine⟨_,?_,.cons rfl h' (.cons rfl h c')⟩;rw[e,e',<-w_,<-w_];exact ND.append_right _
 |trans p q ih1 ih2=>
  intro L h;obtain⟨M,p1,h1⟩:=ih1 h;obtain⟨N,p2,h2⟩:=ih2 h1;exact⟨N,p1.trans p2,h2⟩
theorem Rp.perm {Γ Δ:Fm}(h:Rp K H Γ)(p:Γ.Perm Δ):Rp K H Δ:=by obtain⟨Hz,L,h,nd,g,d⟩:=h;obtain⟨M,q,h'⟩:=h.perm p;exact⟨Hz,M,h',q.nodup_iff.mp nd,g,λb m=>d b (q.mem_iff.mpr m)⟩
theorem Rp.part {Γ Δ:Fm}(h:Rp K H (Γ++Δ)):Rp K H Δ:=by obtain⟨Hz,L,h,nd,g,d⟩:=h;obtain⟨L1,L2,rfl,_,h2⟩:=h.split;exact⟨Hz,L2,h2,(MT.mp nd).2.1,g,λb m=>d b (u_ _ m)⟩
theorem Rp.tail {x:T×Option V}{Γ:Fm}(h:Rp K H (x::Γ)):Rp K H Γ:=Rp.part (Γ:=[x]) h
theorem jN(s:dh H H')(a:Ra)(u:HO)(e:H a=some u):H' a=some u/\((∀xs,H a≠some (.tup xs))->∀xs,H' a≠some (.tup xs)):=
 ⟨s _ _ e,λn xs r=>n xs (by rw[s _ _ e]at r;exact e.trans r)⟩
theorem Rp.same {Γ:Fm}(h:Rp K H Γ)(s:dh H H'):Rp K H' Γ:=by obtain⟨Hz,L,h,nd,g,d⟩:=h;exact⟨Hz,L,h.move (dh.tk s) .ip (λa m u e=>jN s a u e),nd,g.trans (.of s),d⟩
theorem vE{o:HO}(s:Put H p o H')(a:Ra)(n:a≠p)(u:HO)(e:H a=some u):H' a=some u/\((∀xs,H a≠some (.tup xs))->∀xs,H' a≠some (.tup xs)):=
 ⟨by rw[s.else_ a n];exact e,λm xs r=>m xs (by rw[s.else_ a n]at r;exact r)⟩
theorem RepTs.len :∀{ts:List T}{vs:List V}{L:List Ra},RepTs K Hz H ts vs L->ts.length=vs.length:=λ{ts}=>by
 induction ts with
 |nil=>intro vs L h;cases h;rfl
 |cons t ts ih=>
  intro vs L h;cases h with
  |cons _ _ c=>rw[gV,gV,ih c]
abbrev zz(ts:List T)(vs:List V):Fm:=ts.zip (vs.map some)
theorem RepTs.toL :∀{ts:List T}{vs:List V}{L:List Ra},RepTs K Hz H ts vs L->RepL K Hz H (zz ts vs) L:=λ{ts}=>by
 induction ts with
 |nil=>intro vs L h;cases h;exact .nil
 |cons t ts ih=>
  intro vs L h;cases h with
  |cons e h c=>exact .cons e (.inr ⟨_,rfl,h⟩) (ih c)
theorem RepL.sN :∀{ts:List T}{vs:List V}{L:List Ra},ts.length=vs.length->RepL K Hz H (zz ts vs) L->RepTs K Hz H ts vs L
 | [],[],_,_,.nil=>.nil
 | [],v::vs,_,l,_=>by simp at l
 |t::ts,[],_,l,_=>by simp at l
 |t::ts,v::vs,L,l,h=>by
  have h:RepL K Hz H ((t,some v)::zz ts vs) L:=h;cases h with
  |cons e h c=>
   refine .cons e ?_ (c.sN (by simpa using l));rcases h with⟨rfl,rfl⟩|⟨w,e2,h⟩
   ·exact .any
   cases e2;exact h
theorem RepKs.toL :∀{ts:List (Key×T)}{vs:List (Key×V)}{L:List Ra},RepKs K Hz H ts vs L->ts.map (·.1)=vs.map (·.1)/\RepTs K Hz H (ts.map (·.2)) (vs.map (·.2)) L:=λ{ts}=>by
 induction ts with
 |nil=>intro vs L h;cases h;exact⟨rfl,.nil⟩
 |cons t ts ih=>
  intro vs L h;cases h with
  |cons e h c=>exact⟨by rw[d_,d_,(ih c).1],.cons e h (ih c).2⟩
theorem RepKs.ofL :∀{ts:List (Key×T)}{vs:List (Key×V)}{L:List Ra},ts.map (·.1)=vs.map (·.1)->RepTs K Hz H (ts.map (·.2)) (vs.map (·.2)) L->RepKs K Hz H ts vs L:=λ{ts}=>by
 induction ts with
 |nil=>
  intro vs L e h;cases vs with
  |nil=>cases h;exact .nil
  |cons v vs=>cases e
 |cons t ts ih=>
  intro vs L e h;cases vs with
  |nil=>cases e
  |cons v vs=>
   obtain⟨k,t⟩:=t;obtain⟨k',v⟩:=v;cases h with
   |cons e2 h c=>
    rw[d_,d_,Mu]at e;have e0:k=k':=e.1;subst e0;exact .cons e2 h (ih e.2 c)
theorem RepXs.toL :∀{ts:List (List Key×T)}{vs:List (List Key×V)}{L:List Ra},RepXs K Hz H ts vs L->ts.map (·.1)=vs.map (·.1)/\RepTs K Hz H (ts.map (·.2)) (vs.map (·.2)) L:=λ{ts}=>by
 induction ts with
 |nil=>intro vs L h;cases h;exact⟨rfl,.nil⟩
 |cons t ts ih=>
  intro vs L h;cases h with
  |cons e h c=>exact⟨by rw[d_,d_,(ih c).1],.cons e h (ih c).2⟩
theorem RepXs.ofL :∀{ts:List (List Key×T)}{vs:List (List Key×V)}{L:List Ra},ts.map (·.1)=vs.map (·.1)->RepTs K Hz H (ts.map (·.2)) (vs.map (·.2)) L->RepXs K Hz H ts vs L:=λ{ts}=>by
 induction ts with
 |nil=>
  intro vs L e h;cases vs with
  |nil=>cases h;exact .nil
  |cons v vs=>cases e
 |cons t ts ih=>
  intro vs L e h;cases vs with
  |nil=>cases e
  |cons v vs=>
   obtain⟨k,t⟩:=t;obtain⟨k',v⟩:=v;cases h with
   |cons e2 h c=>
    rw[d_,d_,Mu]at e;have e0:k=k':=e.1;subst e0;exact .cons e2 h (ih e.2 c)
theorem E7{o:HO}{Γ Δ:Fm}(h:Rp K H (Γ++Δ))(hp:H p=none)(s:dh H H')(hn:H' p=some o)
  (mk:∀Hz L,RepL K Hz H' Γ L->RepT K Hz H' t (.ref p) (p::L)):Rp K H' ((t,some (.ref p))::Δ):=by
 obtain⟨Hz,N,h,nd,g,d⟩:=h;obtain⟨L,M,rfl,h1,h2⟩:=h.split;have mv:∀a∈L++M,∀u,H a=some u->H' a=some u/\((∀xs,H a≠some (.tup xs))->∀xs,H' a≠some (.tup xs)):=λa _ u e=>jN s a u e;have h1':=h1.move (dh.tk s) .ip λa m=>mv a (K' _ m);have h2':=h2.move (dh.tk s) .ip λa m=>mv a (u_ _ m);refine⟨Hz,(p::L)++M,.cons rfl (.inr ⟨_,rfl,mk Hz L h1'⟩) h2',?_,g.trans (.of s),?_⟩
 ·rw[Ml,E_];refine⟨λm=>?_,nd⟩;obtain⟨⟨u,e⟩,_⟩:=h.there p m;rw[hp]at e;cases e
 intro b m;rcases i_.mp m with rfl|m
 ·exact g.none hp
 exact d b m
theorem jm{Δ:Fm}(h:Rp K H (zz ts vs++Δ))(l:ts.length=vs.length)(hp:H p=none)(s:dh H H')(hn:H' p=some (.lst vs)):Rp K H' ((.lst true ts,some (.ref p))::Δ):=
 E7 h hp s hn λ_ _ q=>.lstO hn (q.sN l)
theorem jD{Δ:Fm}(h:Rp K H (zz ts vs++Δ))(l:ts.length=vs.length)(s:dh H H')(hn:H' p=some (.tup vs)):Rp K H' ((.tup ts,some (.ref p))::Δ):=by obtain⟨Hz,N,h,nd,g,d⟩:=h.same s;obtain⟨L,M,rfl,h1,h2⟩:=h.split;exact⟨Hz,L++M,.cons rfl (.inr ⟨_,rfl,.tup hn (h1.sN l)⟩) h2,nd,g,d⟩
theorem jj{Γ:Fm}(h:Rp K H ((.lst true ts,x)::Γ)):∃a vs,x=some (.ref a)/\H a=some (.lst vs)/\ts.length=vs.length/\Rp K H ((.bare,some (.ref a))::(zz ts vs++Γ)):=by
 obtain⟨Hz,N,h,nd,g,d⟩:=h;cases h with
 |cons e h c=>
  rcases h with⟨h,_⟩|⟨v,rfl,h⟩
  ·cases h
  cases h with
  |lstO h1 c1=>
   refine⟨_,_,rfl,h1,c1.len,Hz,N,.cons (L:=[_]) (M:=_++_) (by rw[e];rfl) (.inr ⟨_,rfl,.bare h1 λxs r=>?_⟩) (c1.toL.app c),nd,g,d⟩;rw[h1]at r;cases r
theorem u7{o:HO}{Γ Δ:Fm}(h:Rp K H ((.bare,some (.ref a))::(Γ++Δ)))(p:Put H a o H')
  (mk:∀Hz L,RepL K Hz H' Γ L->RepT K Hz H' t (.ref a) (a::L)):Rp K H' ((t,some (.ref a))::Δ):=by
 obtain⟨Hz,N,h,nd,g,d⟩:=h;cases h with
 |cons e h c=>
  rcases h with⟨h,_⟩|⟨v,ev,h⟩
  ·cases h
  cases ev;cases h with
  |bare h1 nt=>
   obtain⟨L,M,e2,h2,h3⟩:=c.split;subst e;subst e2;rw[Om,E_]at nd;have tk:TK H H':=Put.tk p nt;have ne:∀b∈L++M,b≠a:=λb m z=>nd.1 (z▸m);have g':Gr Hz H':=λb u r=>by
    have hb:b≠a:=λz=>by obtain⟨w,q⟩:=Rd.some r;rw[z,d a (by rw[Om];exact t_)]at q;cases q
    rcases g b u r with r|⟨o,r⟩
    ·exact .inl (by rw[p.else_ b hb];exact r)
    exact .inr ⟨o,by rw[p.else_ b hb];exact r⟩
   refine⟨Hz,(a::L)++M,.cons rfl (.inr ⟨_,rfl,mk Hz L ?_⟩) ?_,?_,g',?_⟩
   ·exact h2.move tk .ip λb m=>vE p b (ne b (K' _ m))
   ·exact h3.move tk .ip λb m=>vE p b (ne b (u_ _ m))
   ·rw[Ml,E_];exact nd
   exact d
theorem jK{Γ:Fm}(h:Rp K H ((.bare,some (.ref a))::(zz ts vs++Γ)))(l:ts.length=vs.length)(p:Put H a (.lst vs) H'):Rp K H' ((.lst true ts,some (.ref a))::Γ):=
 u7 h p λ_ _ q=>.lstO p.at_ (q.sN l)
theorem uZ{ts:List (Key×T)}{Γ:Fm}(h:Rp K H ((.dK true ts,x)::Γ)):∃a vs,x=some (.ref a)/\H a=some (.dK vs)/\ts.map (·.1)=vs.map (·.1)/\Rp K H ((.bare,some (.ref a))::(zz (ts.map (·.2)) (vs.map (·.2))++Γ)):=by
 obtain⟨Hz,N,h,nd,g,d⟩:=h;cases h with
 |cons e h c=>
  rcases h with⟨h,_⟩|⟨v,rfl,h⟩
  ·cases h
  cases h with
  |dKO h1 c1=>
   obtain⟨e1,c2⟩:=c1.toL;refine⟨_,_,rfl,h1,e1,Hz,N,.cons (L:=[_]) (M:=_++_) (by rw[e];rfl) (.inr ⟨_,rfl,.bare h1 λxs r=>?_⟩) (c2.toL.app c),nd,g,d⟩;rw[h1]at r;cases r
theorem qS{ts:List (List Key×T)}{Γ:Fm}(h:Rp K H ((.dT true ts,x)::Γ)):∃a vs,x=some (.ref a)/\H a=some (.dT vs)/\ts.map (·.1)=vs.map (·.1)/\Rp K H ((.bare,some (.ref a))::(zz (ts.map (·.2)) (vs.map (·.2))++Γ)):=by
 obtain⟨Hz,N,h,nd,g,d⟩:=h;cases h with
 |cons e h c=>
  rcases h with⟨h,_⟩|⟨v,rfl,h⟩
  ·cases h
  cases h with
  |dTO h1 c1=>
   obtain⟨e1,c2⟩:=c1.toL;refine⟨_,_,rfl,h1,e1,Hz,N,.cons (L:=[_]) (M:=_++_) (by rw[e];rfl) (.inr ⟨_,rfl,.bare h1 λxs r=>?_⟩) (c2.toL.app c),nd,g,d⟩;rw[h1]at r;cases r
theorem fP{κ β:Type}{ts:List (κ×α)}{vs:List (κ×β)}(e:ts.map (·.1)=vs.map (·.1)):ts.length=vs.length:=by have:=congrArg Qa e;rwa[a_,a_]at this
theorem rn{ts:List (Key×T)}{vs:List (Key×V)}{Γ:Fm}(h:Rp K H ((.bare,some (.ref a))::(zz (ts.map (·.2)) (vs.map (·.2))++Γ)))(l:ts.map (·.1)=vs.map (·.1))(p:Put H a (.dK vs) H'):Rp K H' ((.dK true ts,some (.ref a))::Γ):=
 u7 h p λ_ _ q=>.dKO p.at_ (RepKs.ofL l (q.sN (by rw[a_,a_];exact fP l)))
theorem rQ{ts:List (List Key×T)}{vs:List (List Key×V)}{Γ:Fm}(h:Rp K H ((.bare,some (.ref a))::(zz (ts.map (·.2)) (vs.map (·.2))++Γ)))(l:ts.map (·.1)=vs.map (·.1))(p:Put H a (.dT vs) H'):Rp K H' ((.dT true ts,some (.ref a))::Γ):=
 u7 h p λ_ _ q=>.dTO p.at_ (RepXs.ofL l (q.sN (by rw[a_,a_];exact fP l)))
theorem G5{Δ:Fm}(h:Rp K H Δ)(hp:H p=none)(s:dh H H')(hn:H' p=some (.dT [])):Rp K H' ((.dT true [],some (.ref p))::Δ):=
 E7 (Γ:=[]) h hp s hn λ_ _ q=>by cases q;exact .dTO hn .nil
theorem mE{Γ:Fm}(h:Rp K H ((t,x)::Γ)):Rp K H ((er t,x)::Γ):=by
 obtain⟨Hz,N,h,nd,g,d⟩:=h;cases h with
 | @cons _ _ L M _ _ e h c=>
  rcases h with⟨rfl,rfl⟩|⟨v,rfl,h⟩
  ·exact⟨Hz,N,.cons e (.inl ⟨rfl,rfl⟩) c,nd,g,d⟩
  subst e;have dz:∀b∈L,Hz b=none:=λb m=>d b (K' _ m)
  let Z:Hp:=λb=>if b∈L then H b else Hz b
  have hz:Gr Hz Z:=λb u r=>by
   have nb:b ∉ L:=λm=>by obtain⟨w,q⟩:=Rd.some r;rw[dz b m]at q;cases q
   rcases r with r|⟨o,r⟩
   ·exact .inl (by show(if b∈L then H b else Hz b)=_;rw[if_neg nb];exact r)
   exact .inr ⟨o,by show(if b∈L then H b else Hz b)=_;rw[if_neg nb];exact r⟩
  have zh:Gr Z H:=λb u r=>by
   by_cases nb:b∈L
   ·rcases r with r|⟨o,r⟩
    ·exact .inl (by have r:(if b∈L then H b else Hz b)=_:=r;rw[if_pos nb]at r;exact r)
    exact .inr ⟨o,by have r:(if b∈L then H b else Hz b)=_:=r;rw[if_pos nb]at r;exact r⟩
   refine g b u ?_;rcases r with r|⟨o,r⟩
   ·exact .inl (by have r:(if b∈L then H b else Hz b)=_:=r;rw[if_neg nb]at r;exact r)
   exact .inr ⟨o,by have r:(if b∈L then H b else Hz b)=_:=r;rw[if_neg nb]at r;exact r⟩
  have nd2:=MT.mp nd;refine⟨Z,[]++M,.cons rfl (.inr ⟨v,rfl,h.frz hz λb m=>?_⟩) (c.move (λ_ _ r=>r) hz λb m u e=>⟨e,λn=>n⟩),nd2.2.1,zh,λb m=>?_⟩
  ·show(if b∈L then H b else Hz b)=_;rw[if_pos m]
  show(if b∈L then H b else Hz b)=_;rw[if_neg (λz=>nd2.2.2 b z b m rfl)];exact d b (u_ _ m)
theorem jB{Γ:Fm}(h:Rp K H ((t,x)::Γ))(n:aK t=true):Rp K H ((t,x)::(t,x)::Γ):=by
 obtain⟨Hz,N,h,nd,g,d⟩:=h;cases h with
 | @cons _ _ L M _ _ e h c=>
  have hL:L=[]:=by
   rcases h with⟨_,rfl⟩|⟨v,_,h⟩
   ·rfl
   exact h.nil_of n
  subst hL;exact⟨Hz,N,.cons (L:=[]) (M:=N) rfl h (.cons e h c),nd,g,d⟩
theorem qV.view (g:Gr Hz H)(h:qV K Hz H t x L):qV K H H (er t) x []:=by
 rcases h with⟨rfl,rfl⟩|⟨v,rfl,h⟩
 ·exact .inl ⟨rfl,rfl⟩
 exact .inr ⟨v,rfl,h.frz g λ_ _=>rfl⟩
theorem RepL.view (g:Gr Hz H):∀{Γ:Fm}{L:List Ra},RepL K Hz H Γ L->RepL K H H (Γ.map λp=>(er p.1,p.2)) []:=by
 intro Γ L x;induction x with
 |nil=>exact .nil
 |cons e h c ih=>exact .cons rfl (h.view g) ih
theorem tK{Γ:Fm}(h:Rp K H Γ):Rp K H ((Γ.map λp=>(er p.1,p.2))++[(.kp H,some .non)]):=by obtain⟨Hz,N,h,nd,g,d⟩:=h;refine⟨H,[]++[],(h.view g).app (.cons rfl (.inr ⟨_,rfl,.kp .ip⟩) .nil),NC,.ip,λb m=>by cases m⟩
noncomputable def over(H H':Hp):Hp:=λb=>match H b with
 |some u=>some u
 |none=>H' b
theorem jM{b:Ra}{u:HO}(e:H b=some u):over H H' b=some u:=by unfold over;rw[e]
theorem nQ{b:Ra}(e:H b=none):over H H' b=H' b:=by unfold over;rw[e]
theorem AF(H H':Hp):dh H (over H H'):=λb u e=>jM e
theorem tG(g:Gr H H'){b:Ra}:over H H' b=H' b\/∃o u,H' b=some (.frz o u)/\over H H' b=some u:=by
 cases q:H b with
 |none=>exact .inl (nQ q)
 |some u=>
  rw[jM q];rcases g b u (.inl q)with r|⟨o,r⟩
  ·exact .inl r.symm
  exact .inr ⟨o,u,r,rfl⟩
theorem vh(g:Gr H H'){b:Ra}(r:H' b=some (.tup xs)):over H H' b=some (.tup xs):=by
 rcases tG g (b:=b)with e|⟨o,u,e,_⟩
 ·rw[e];exact r
 rw[r]at e;cases e
theorem sM{Γ Δ:Fm}(h:Rp K H Γ)(q:Rp K H' ((t,x)::(Δ++[(.kp H,some .non)])))(n:fE t=true):Gr H H'/\Rp K (over H H') ((t,x)::Γ):=by
 obtain⟨Hy,N',q,nd',g',d'⟩:=q;cases q with
 | @cons _ _ L M _ _ e h1 c=>
  have hkp:Gr H Hy:=by
   obtain⟨_,_,_,_,c2⟩:=c.split;cases c2 with
   |cons _ h2 _=>
    rcases h2 with⟨z,_⟩|⟨_,_,h2⟩
    ·cases z
    cases h2 with
    |kp z=>exact z
  have gr:=hkp.trans g';refine⟨gr,?_⟩;subst e;have nd2:=MT.mp nd';have hL:∀b∈L,H b=none:=λb m=>hkp.none (d' b (K' _ m));obtain⟨Hz,N,h,nd,g,d⟩:=h;have so:=AF H H';have tk:TK H' (over H H'):=λb xs r=>vh gr r;have h1':qV K Hz (over H H') t x L:=by
   rcases h1 with⟨rfl,rfl⟩|⟨v,rfl,h1⟩
   ·exact .inl ⟨rfl,rfl⟩
   refine .inr ⟨v,rfl,h1.LF tk n λb m u e=>?_⟩;have eo:=nQ (H':=H') (hL b m);exact⟨eo.trans e,λnt xs r=>nt xs (by rw[<-eo];exact r)⟩
  refine⟨Hz,L++N,.cons rfl h1' (h.move (dh.tk so) .ip λb m u e=>jN so b u e),?_,g.trans (.of so),?_⟩
  ·rw[MT];refine⟨nd2.1,nd,λb m b' m' z=>?_⟩;subst z;obtain⟨⟨u,e⟩,_⟩:=h.there b m';rw[hL b m]at e;cases e
  intro b m;rcases C'.mp m with m|m
  ·exact g.none (hL b m)
  exact d b m
theorem pP:∀{ts:List T}{vs:List V}{i:Nat}{t:T},ts.length=vs.length->ts[i]?=some t->∃w,vs[i]?=some w
 |ts,vs,i,t,l,e=>by have h:i<ts.length:=(e_.mp e).1;exact⟨vs[i]'(by omega),b_ (by omega)⟩
theorem nk{α:Type}:∀{l:List α}{i:Nat}{x y:α},l[i]?=some y->(l.set i x).set i y=l
 | [],i,x,y,e=>by simp at e
 |a::l,0,x,y,e=>by simp at e;subst e;rfl
 |a::l,i+1,x,y,e=>by simp only[MS]at e;rw[OH,OH,nk e]
end
theorem pB{α β:Type}:∀{l:List α}{m:List β}{i:Nat}{a:α}{b:β} (t:α) (y:β),l[i]?=some a->m[i]?=some b->((a,b)::(l.set i t).zip (m.set i y)).Perm ((t,y)::l.zip m)
 | [],m,i,a,b,t,y,h,_=>by simp at h
 |x::l,[],i,a,b,t,y,_,h=>by simp at h
 |x::l,z::m,0,a,b,t,y,h,g=>by simp only[Nc,N5]at h g;subst h;subst g;exact .swap _ _ _
 |x::l,z::m,i+1,a,b,t,y,h,g=>by simp only[MS]at h g;have p:=pB t y h g;show QD ((a,b)::(x,z)::(l.set i t).zip (m.set i y)) ((t,y)::(x,z)::l.zip m);exact(Nd _ _ _).trans ((p.cons _).trans (.swap _ _ _))
variable {i:Nat}
theorem set_same{l:List α}{x:α}(h:l[i]?=some x):l.set i x=l:=by have:=nk (x:=x) h;rw[Ox]at this;exact this
variable {Fr Γ:Fm}{env:Ev}{σ:St}
section
variable{K:Rb}
def Rs(K:Rb)(H:Hp)(env:Ev)(σ:St)(Fr:Fm):Prop:=env.length=σ.length/\Rp K H (env.zip σ++Fr)
theorem kX(h:Rp K H Γ):Rp K H ((.any,x)::Γ):=by obtain⟨Hz,N,h,nd,g,d⟩:=h;exact⟨Hz,N,.cons (L:=[]) rfl (.inl ⟨rfl,rfl⟩) h,nd,g,d⟩
theorem Rs.perm {Gr:Fm}(h:Rs K H env σ Fr)(p:Fr.Perm Gr):Rs K H env σ Gr:=⟨h.1,h.2.perm (p.append_left _)⟩
theorem Rs.drop {x:T×Option V}(h:Rs K H env σ (x::Fr)):Rs K H env σ Fr:=⟨h.1,(h.2.perm f').tail⟩
theorem Rs.head {x:T×Option V}(h:Rs K H env σ (x::Fr)):Rp K H (x::(env.zip σ++Fr)):=h.2.perm f'
theorem Rs.of {x:T×Option V}(l:env.length=σ.length)(h:Rp K H (x::(env.zip σ++Fr))):Rs K H env σ (x::Fr):=⟨l,h.perm f'.symm⟩
theorem Rs.chg {Δ Δ':Fm}(h:Rs K H env σ (Δ++Fr))(f:∀ Γ,Rp K H (Δ++Γ)->Rp K H' (Δ'++Γ)):Rs K H' env σ (Δ'++Fr):=by
 refine⟨h.1,?_⟩;have p:∀A:Fm,(A++(env.zip σ++Fr)).Perm (env.zip σ++(A++Fr)):=λA=>by rw[<-w_,<-w_];exact ND.append_right _
 exact(f _ (h.2.perm (p Δ).symm)).perm (p Δ')
theorem Rs.slot (h:Rs K H env σ Fr)(e:env[i]?=some t):∃x,σ[i]?=some x/\Rs K H (env.set i .any) σ ((t,x)::Fr):=by
 have hi:i<env.length:=(e_.mp e).1;have hs:i<σ.length:=by rw[<-h.1];exact hi
 have ex:σ[i]?=some σ[i]:=b_ hs;refine⟨σ[i],ex,by rw[Mc];exact h.1,?_⟩;have p:=pB (T.any) σ[i] e ex;rw[set_same ex]at p;refine(kX (x:=σ[i]) h.2).perm ?_;refine r_ ?_ f'.symm;exact(p.symm.append_right Fr)
theorem Rs.kU (h:Rs K H env σ ((t,x)::Fr))(hi:i<env.length)(ex:σ[i]?=some x):Rs K H (env.set i t) σ Fr:=by have e:env[i]?=some env[i]:=b_ hi;refine⟨by rw[Mc];exact h.1,?_⟩;have p:=pB t x e ex;rw[set_same ex]at p;refine Rp.tail (x:=(env[i],x)) (h.2.perm ?_);refine f'.trans ?_;exact(p.symm.append_right Fr)
theorem Rs.store (h:Rs K H env σ ((t,some v)::Fr))(hi:i<env.length):Rs K H (env.set i t) (σ.set i (some v)) Fr:=by
 have e:env[i]?=some env[i]:=b_ hi;have hs:i<σ.length:=by rw[<-h.1];exact hi
 have ex:σ[i]?=some σ[i]:=b_ hs;refine⟨by rw[Mc,Mc];exact h.1,?_⟩;have p:=pB t (some v) e ex;refine Rp.tail (x:=(env[i],σ[i])) (h.2.perm ?_);refine f'.trans ?_;exact(p.symm.append_right Fr)
end
variable {X:Cx}{ac:List (Ra×Obj)}{s:Rf}
theorem qc{f8:St}{s':Rf}(I:Inv X ac σ H s)(J:Inv X ac f8 H' s')(g:Gr H H'):Inv X ac f8 (over H H') s':=by
 have nn:∀b,H' b=none->over H H' b=none:=λb e=>by rw[nQ (g.none e)];exact e
 refine⟨J.ok,J.os,J.bare,⟨J.base.keep,J.base.slot,?_,J.base.there,?_,?_,?_⟩,J.loc,J.cell,nn _ J.free,λx c e=>nn _ (J.freeC x c e),λp hp=>?_,?_,J.len⟩
 ·exact λb o e1 e2 e3=>nn _ (J.base.free b o e1 e2 e3)
 ·exact λb xs e=>jM (I.base.tups b xs e)
 ·exact λb o u e=>jM (I.base.frzs b o u e)
 ·exact λb ps e=>by obtain⟨m,em⟩:=I.base.tbls b ps e;exact⟨m,jM em⟩
 ·obtain⟨h1,h2,h3⟩:=J.pin p hp;exact⟨h1,nn _ h2,h3⟩
 intro b u e;have ho:∀c y,H' c=some (.own y)->over H H' c=some (.own y):=λc y q=>by
  rcases tG g (b:=c)with z|⟨o,w,z,_⟩
  ·rw[z];exact q
  rw[q]at z;cases z
 have ht:∀c xs,H' c=some (.tup xs)->over H H' c=some (.tup xs):=λc xs q=>vh g q;have key:cz X.prog X.w H' s'.heap b u:=by
  rcases tG g (b:=b)with z|⟨o,w,z,zw⟩
  ·rw[z]at e;exact J.hok b u e
  rw[zw]at e;cases e;exact(J.hok b _ z).2
 exact key.pL (λc v _ q=>q) (λc=>ho c b) ht
variable {e:Rr}
theorem EA{t:TE}(h:PE X e t):PE X e (λσ H Q=>t σ H λv H'=>Gr H H'/\Q v (over H H')):=λac s σ H Q I q=>
 thn (h ac s σ H _ I q) λu s' ⟨v,H',I',r,g,q'⟩=>⟨v,over H H',qc I I' g,r,q'⟩
theorem EJ{t:TT}(h:PT X e t):PT X e (λσ H Q=>t σ H λb H'=>Gr H H'/\Q b (over H H')):=λac s σ H Q I q=>
 thn (h ac s σ H _ I q) λb s' ⟨H',I',g,q'⟩=>⟨over H H',qc I I' g,q'⟩
abbrev PF:=Ev->(T->Ev->Prop)->Prop
abbrev PB:=Ev->(Bool->Ev->Prop)->Prop
abbrev PFs:=Ev->(List T->Ev->Prop)->Prop
def wE(K:Rb)(f:PF):TE:=λσ H Q=>∃env Fr k,Rs K H env σ Fr/\f env k/\∀t bm v H',k t bm->Rs K H' bm σ ((t,some v)::Fr)->Q v H'
def wB(K:Rb)(f:PB):TT:=λσ H Q=>∃env Fr k,Rs K H env σ Fr/\f env k/\∀b bm H',k b bm->Rs K H' bm σ Fr->Q b H'
def wA(K:Rb)(f:PFs):TA:=λσ H Q=>∃env Fr k,Rs K H env σ Fr/\f env k/\∀ts bm vs H',k ts bm->ts.length=vs.length->Rs K H' bm σ (zz ts vs++Fr)->Q vs H'
def GE(X:Cx)(e:Rr)(f:PF):Prop:=PE X e (wE X.K f)
def GT(X:Cx)(e:Rr)(f:PB):Prop:=PT X e (wB X.K f)
def GW(X:Cx)(e:Rr)(f:PB):Prop:=PW X e (wB X.K f)
def GA(X:Cx)(es:List Rr)(f:PFs):Prop:=PA X es (wA X.K f)
theorem PE.imp {t t':TE}(h:PE X e t)(k:∀ σ H Q,t' σ H Q->t σ H Q):PE X e t':=λac s σ H Q I q=>h ac s σ H Q I (k _ _ _ q)
theorem PT.imp {t t':TT}(h:PT X e t)(k:∀ σ H Q,t' σ H Q->t σ H Q):PT X e t':=λac s σ H Q I q=>h ac s σ H Q I (k _ _ _ q)
theorem PW.imp {t t':TT}(h:PW X e t)(k:∀ σ H Q,t' σ H Q->t σ H Q):PW X e t':=λwh ac s σ H Q I q=>h wh ac s σ H Q I (k _ _ _ q)
variable {es:List Rr}
theorem PA.imp {t t':TA}(h:PA X es t)(k:∀ σ H Q,t' σ H Q->t σ H Q):PA X es t':=λpos ac s σ H Q I q=>h pos ac s σ H Q I (k _ _ _ q)
def fQ(f:PF):PF:=λenv k=>f (erL env) λt _=>fE t=true/\k t env
def fQT(f:PB):PB:=λenv k=>f (erL env) λb _=>k b env
theorem pA:∀(env:Ev) (σ:St),(env.zip σ).map (λp=>(er p.1,p.2))=(erL env).zip σ
 | [],σ=>by simp[erL]
 |t::env,[]=>by simp
 |t::env,x::σ=>by rw[erL,PQ,d_,PQ,pA env σ]
theorem aB{X:Cx}{e:Rr}{f:PF}(h:GE X e f):GE X e (fQ f):=by
 refine PE.imp (EA h) ?_;rintro σ H Q ⟨env,Fr,k,rs,q,c⟩;have rv:Rs X.K H (erL env) σ ((Fr.map λp=>(er p.1,p.2))++[(.kp H,some .non)]):=by refine⟨by rw[pq];exact rs.1,?_⟩;have:=tK rs.2;rw[z_,pA,w_]at this;exact this
 refine⟨erL env,_,_,rv,q,?_⟩;rintro t bm v H' ⟨n,kt⟩ rs';obtain⟨g,r2⟩:=sM rs.2 (Δ:=bm.zip σ++(Fr.map λp=>(er p.1,p.2))) (by rw[w_];exact rs'.head) n;exact⟨g,c t env v _ kt (.of rs.1 r2)⟩
variable {K:Rb}
theorem CT{Δ:Fm}(h:Rp K H Γ)(q:Rp K H' (Δ++[(.kp H,some .non)])):Gr H H'/\Rp K (over H H') Γ:=by obtain⟨g,r⟩:=sM (t:=.any) (x:=none) h (kX q) rfl;exact⟨g,r.tail⟩
theorem kC{f:PB}(h:GT X e f):GT X e (fQT f):=by
 refine PT.imp (EJ h) ?_;rintro σ H Q ⟨env,Fr,k,rs,q,c⟩;have rv:Rs X.K H (erL env) σ ((Fr.map λp=>(er p.1,p.2))++[(.kp H,some .non)]):=by refine⟨by rw[pq];exact rs.1,?_⟩;have:=tK rs.2;rw[z_,pA,w_]at this;exact this
 refine⟨erL env,_,_,rv,q,?_⟩;rintro b bm H' kt rs';obtain⟨g,r2⟩:=CT rs.2 (Δ:=bm.zip σ++(Fr.map λp=>(er p.1,p.2))) (by rw[w_];exact rs'.2);exact⟨g,c b env _ kt ⟨rs.1,r2⟩⟩
noncomputable def fK(t:T):PF:=λenv k=>k t env
variable {b:Bool}{j:Nat}
section
variable{X:Cx}{pos:Pos}
theorem kE(h:Rs K H env σ Fr)(r:∀Hz,RepT K Hz H t v []):Rs K H env σ ((t,some v)::Fr):=by refine .of h.1 ?_;obtain⟨Hz,N,q,nd,g,d⟩:=h.2;exact⟨Hz,N,.cons (L:=[]) rfl (.inr ⟨v,rfl,r Hz⟩) q,nd,g,d⟩
theorem ge_int{i:Int}{j:Nat}:GE X (.Constant (.int i) j pos) (fK (.int i)):=PE.imp fO (by rintro σ H Q ⟨env,Fr,k,rs,q,c⟩;exact c _ _ _ _ q (kE rs λ_=>.int))
theorem iL:GE X (.Constant (.bool b) j pos) (fK (.bl b)):=PE.imp JS (by rintro σ H Q ⟨env,Fr,k,rs,q,c⟩;exact c _ _ _ _ q (kE rs λ_=>.bl))
theorem DS:GE X (.Constant .none j pos) (fK .non):=PE.imp HA (by rintro σ H Q ⟨env,Fr,k,rs,q,c⟩;exact c _ _ _ _ q (kE rs λ_=>.non))
theorem ET{x:Str}{u:Q_}(hg:Gl X x)(hm:X.mg x=some u)(r:RelV v u)(ht:∀Hz H,RepT X.K Hz H t v [])(hd:(x ==("__debug__":Str))=false:=by decide):GE X (.Name x pos) (fK t):=
 PE.imp (FH hg hm r hd) λσ H Q ⟨env,Fr,k,rs,q,c⟩=>c _ _ _ _ q (kE rs λHz=>ht Hz H)
noncomputable def isAny:T->Bool
 | .any=>true
 | _=>false
def EI(i:Nat):PF:=λenv k=>match env[i]? with
 |some t=>isAny t=false/\aK t=true/\k t env
 |none=>False
def fFz(i:Nat):PF:=λenv k=>match env[i]? with
 |some t=>isAny t=false/\k (er t) (env.set i (er t))
 |none=>False
def fMv(i:Nat):PF:=λenv k=>match env[i]? with
 |some t=>isAny t=false/\k t (env.set i .any)
 |none=>False
theorem ik(h:Rs K H env σ ((t,x)::Fr))(n:isAny t=false):∃v,x=some v:=by
 obtain⟨Hz,N,q,_⟩:=h.head;cases q with
 |cons e h c=>
  rcases h with⟨rfl,_⟩|⟨v,e,_⟩
  ·cases n
  exact⟨v,e⟩
theorem ae(i:Nat){x:Str}(hN:X.N[i]?=some x:=by rfl)(hv:Vis X.env.scope x:=by first|exact f_ rfl|exact m_ (f_ rfl)|exact m_ (m_ rfl))(hd:(x ==("__debug__":Str))=false:=by decide)(hcd:(x ==("__classdict__":Str))=false:=by decide):GE X (.Name x pos) (EI i):=by
 refine PE.imp (jq hN hv hd hcd) ?_;rintro σ H Q ⟨env,Fr,k,rs,q,c⟩;unfold EI at q;split at q
 ·rename_i t e;obtain⟨na,no,q⟩:=q;obtain⟨y,ey,rs2⟩:=rs.slot e;obtain⟨v,rfl⟩:=ik rs2 na;refine⟨v,ey,c _ _ _ _ q ?_⟩;have hi:i<env.length:=(e_.mp e).1;have r3:Rs X.K H (env.set i .any) σ ((t,some v)::(t,some v)::Fr):=.of rs2.1 ((jB rs2.head no).perm (by refine N2 _ ?_;exact f'.symm))
  have r4:=Rs.kU (i:=i) r3 (by rw[Mc];exact hi) ey;rw[nk e]at r4;exact r4
 exact q.elim
theorem bx(i:Nat){x:Str}(hN:X.N[i]?=some x:=by rfl)(hv:Vis X.env.scope x:=by first|exact f_ rfl|exact m_ (f_ rfl)|exact m_ (m_ rfl))(hd:(x ==("__debug__":Str))=false:=by decide)(hcd:(x ==("__classdict__":Str))=false:=by decide):GE X (.Name x pos) (fFz i):=by
 refine PE.imp (jq hN hv hd hcd) ?_;rintro σ H Q ⟨env,Fr,k,rs,q,c⟩;unfold fFz at q;split at q
 ·rename_i t e;obtain⟨na,q⟩:=q;obtain⟨y,ey,rs2⟩:=rs.slot e;obtain⟨v,rfl⟩:=ik rs2 na;refine⟨v,ey,c _ _ _ _ q ?_⟩;have hi:i<env.length:=(e_.mp e).1;have no:aK (er t)=true:=aI t;have r3:Rs X.K H (env.set i .any) σ ((er t,some v)::(er t,some v)::Fr):=.of rs2.1 ((jB (mE rs2.head) no).perm (by refine N2 _ ?_;exact f'.symm))
  have r4:=Rs.kU (i:=i) r3 (by rw[Mc];exact hi) ey;rw[Ox]at r4;exact r4
 exact q.elim
theorem kZ(i:Nat){x:Str}(hN:X.N[i]?=some x:=by rfl)(hv:Vis X.env.scope x:=by first|exact f_ rfl|exact m_ (f_ rfl)|exact m_ (m_ rfl))(hd:(x ==("__debug__":Str))=false:=by decide)(hcd:(x ==("__classdict__":Str))=false:=by decide):GE X (.Name x pos) (fMv i):=by
 refine PE.imp (jq hN hv hd hcd) ?_;rintro σ H Q ⟨env,Fr,k,rs,q,c⟩;unfold fMv at q;split at q
 ·rename_i t e;obtain⟨na,q⟩:=q;obtain⟨y,ey,rs2⟩:=rs.slot e;obtain⟨v,rfl⟩:=ik rs2 na;exact⟨v,ey,c _ _ _ _ q rs2⟩
 exact q.elim
end
variable {y:V}
section
variable{K:Rb}{H:Hp}{Γ:Fm}
theorem ox(h:Rp K H ((t,some y)::Γ))(n:isAny t=false):∃Hz L,RepT K Hz H t y L/\Gr Hz H:=by
 obtain⟨Hz,N,h,nd,g,d⟩:=h;cases h with
 |cons e h c=>
  rcases h with⟨rfl,_⟩|⟨v,e2,h⟩
  ·cases n
  cases e2;exact⟨Hz,_,h,g⟩
theorem aM{i:Int}(h:Rp K H ((.int i,some y)::Γ)):y=.int i:=by obtain⟨_,_,r,_⟩:=ox h rfl;cases r;rfl
theorem kA{i:Bool}(h:Rp K H ((.bl i,some y)::Γ)):y=.bl i:=by obtain⟨_,_,r,_⟩:=ox h rfl;cases r;rfl
theorem kO{i:Str}(h:Rp K H ((.str i,some y)::Γ)):y=.str i:=by obtain⟨_,_,r,_⟩:=ox h rfl;cases r;rfl
theorem Cv(h:Rp K H ((.non,some y)::Γ)):y=.non:=by obtain⟨_,_,r,_⟩:=ox h rfl;cases r;rfl
theorem dk(h:Rp K H Γ)(r:∀Hz,RepT K Hz H t v []):Rp K H ((t,some v)::Γ):=by obtain⟨Hz,N,q,nd,g,d⟩:=h;exact⟨Hz,N,.cons (L:=[]) rfl (.inr ⟨v,rfl,r Hz⟩) q,nd,g,d⟩
noncomputable def items:T->Option (List T)
 | .tup ts=>some ts
 | .cst ts=>some ts
 | .lst _ ts=>some ts
 | _=>none
noncomputable def kD:T->Bool
 | .tup _=>true
 | .cst _=>true
 | _=>false
theorem FY(h:SqT K (λ_=>none) a vs)(H:Hp):SqT K H a vs:=by
 rcases h with (h|⟨_,h⟩)|h
 ·cases h
 ·cases h
 exact .inr h
theorem aD(e:items t=some ts)(h:Rp K H ((t,some y)::Γ)):∃a vs,y=.ref a/\SqG (kD t) K H a vs/\ts.length=vs.length/\Rp K H (zz ts vs++Γ):=by
 obtain⟨Hz,N,h,nd,g,d⟩:=h;cases h with
 |cons e1 h c=>
  rcases h with⟨rfl,_⟩|⟨v,e2,h⟩
  ·cases e
  cases e2;cases h <;> cases e
  ·rename_i a vs h c1;exact⟨a,vs,rfl,SqT.of h,c1.len,Hz,_,c1.toL.app c,by rw[<-e1];exact nd,g,λb m=>d b (by rw[e1];exact m)⟩
  ·rename_i a vs h c1;exact⟨a,vs,rfl,FY h H,c1.len,Hz,_,c1.toL.app c,by rw[<-e1];exact nd,g,λb m=>d b (by rw[e1];exact m)⟩
  ·rename_i a vs L h c1;rw[e1,Ml,E_]at nd;exact⟨a,vs,rfl,SqL.of h,c1.len,Hz,_,c1.toL.app c,nd.2,g,λb m=>d b (by rw[e1,Ml];exact j_ _ m)⟩
  rename_i a vs h c1;exact⟨a,vs,rfl,.inl (g _ _ h),c1.len,Hz,_,c1.toL.app c,by rw[<-e1];exact nd,g,λb m=>d b (by rw[e1];exact m)⟩
theorem tX:∀{ts:List T}{vs:List V}{i:Nat}{t:T}{w:V},ts[i]?=some t->vs[i]?=some w->∃r,(zz ts vs).Perm ((t,some w)::r)
 | [],vs,i,t,w,e,f=>by simp at e
 |t::ts,[],i,_,w,e,f=>by simp at f
 |t::ts,v::vs,0,u,w,e,f=>by simp only[Nc,N5]at e f;subst e;subst f;exact⟨_,.refl _⟩
 |t::ts,v::vs,i+1,u,w,e,f=>by simp only[MS]at e f;obtain⟨r,h⟩:=tX (ts:=ts) (vs:=vs) e f;exact⟨(t,some v)::r,(h.cons _).trans (.swap _ _ _)⟩
theorem kc{w:V}(h:Rp K H (zz ts vs++Γ))(e:ts[i]?=some t)(f:vs[i]?=some w):Rp K H ((t,some w)::Γ):=by obtain⟨r,p⟩:=tX e f;refine Rp.part (Γ:=r) (h.perm ?_);refine(p.append_right Γ).trans ?_;exact f'.symm
theorem BF{i:Int}(l:ts.length=vs.length)(e:atI ts i=some t)(h:Rp K H (zz ts vs++Γ)):∃w,atI vs i=some w/\Rp K H ((t,some w)::Γ):=by
 unfold atI at e ⊢;rw[l]at e;cases q:ixN vs.length i with
 |none=>rw[q]at e;cases e
 |some j=>
  rw[q]at e;have e:ts[j]?=some t:=e;obtain⟨w,f⟩:=pP l e;exact⟨w,f,kc h e f⟩
end
noncomputable def got(o:Option α)(k:α->Prop):Prop:=match o with
 |some u=>k u
 |none=>False
theorem II{o:Option α}{u:α}{k:α->Prop}(e:o=some u)(h:k u):got o k:=by rw[e];exact h
theorem aF{o:Option α}{k:α->Prop}(h:got o k):∃u,o=some u/\k u:=by
 cases o with
 |none=>exact h.elim
 |some u=>exact⟨u,rfl,h⟩
noncomputable def cnd(b:Bool)(A B:Prop):Prop:=(b=true->A)/\(b=false->B)
theorem GQ{A B:Prop}(h:A):cnd true A B:=⟨λ_=>h,λe=>by cases e⟩
theorem H0{A B:Prop}(h:B):cnd false A B:=⟨λe=>(by cases e),λ_=>h⟩
theorem kg{A B:Prop}(h:cnd b A B):if b=true then A else B:=by
 cases b with
 |true=>rw[if_pos rfl];exact h.1 rfl
 |false=>rw[if_neg (by decide)];exact h.2 rfl
abbrev P2:=T->T->(T->Prop)->Prop
def w2(K:Rb)(g:P2):R2:=λx y H Q=>∃tx ty Γ k,Rp K H ((ty,some y)::(tx,some x)::Γ)/\g tx ty k/\∀t v H',k t->Rp K H' ((t,some v)::Γ)->Q v H'
def OpP(X:Cx)(f:Q_->Q_->Sem Q_)(g:P2):Prop:=OpR X f (w2 X.K g)
variable {f:Q_->Q_->Sem Q_}{g:P2}
theorem OpP.of {r:R2}(h:OpR X f r)(k:∀tx ty x y H Γ (k:T->Prop) (Q:VK),Rp X.K H ((ty,some y)::(tx,some x)::Γ)->g tx ty k->(∀t v H',k t->Rp X.K H' ((t,some v)::Γ)->Q v H')->r x y H Q):OpP X f g:=
 λac s σ H x y v u Q I rx ry ⟨tx,ty,Γ,kk,rp,g,c⟩=>h ac s σ H x y v u Q I rx ry (k tx ty x y H Γ kk Q rp g c)
noncomputable def As(g:P2)(a b:PF):PF:=λenv k=>a env λx al=>b al λy bn=>g x y λt=>k t bn
variable {fa:PF}
theorem zg{fb:PF}:∀ σ H Q,wE X.K (As g fa fb) σ H Q->tOp (w2 X.K g) (wE X.K fa) (wE X.K fb) σ H Q:=by rintro σ H Q ⟨env,Fr,k,rs,q,c⟩;refine⟨env,Fr,_,rs,q,λtx al x H1 q1 ii=>⟨al,_,_,ii,q1,λty bn y H2 q2 rs2=>?_⟩⟩;refine⟨tx,ty,bn.zip σ++Fr,_,?_,q2,λt v H' kt rp=>c _ _ _ _ kt (.of rs2.1 rp)⟩;exact rs2.head.perm (.cons _ f')
variable {g':P2}{op:VP}
section
variable{X:Cx}{a b c d:Rr}{fa fb fc fd:PF}{pos:Pos}
theorem ah{op:Vz}{g:P2}(ho:OpP X (Sf op) g)(ha:GE X a fa)(hb:GE X b fb):GE X (.BinOp a op b pos) (As g fa fb):=PE.imp (il ho ha hb) zg
theorem kL{op:VP}{g:P2}(ho:OpP X (RJ op) g)(ha:GE X a fa)(hb:GE X b fb)(hm:T2 op b=false):GE X (.Compare a [op] [b] pos) (As g fa fb):=PE.imp (Er ho ha hb hm) zg
noncomputable def Et(f:PF):PB:=λenv k=>f env λt bm=>match t with
 | .bl b=>k b bm
 | _=>False
theorem C6{f:PF}:∀ σ H Q,wB K (Et f) σ H Q->Ck (wE K f) σ H Q:=by
 rintro σ H Q ⟨env,Fr,k,rs,q,c⟩;refine⟨env,Fr,_,rs,q,λt bm v H' q1 ii=>?_⟩;cases t <;> first|exact q1.elim|skip
 rename_i b;exact⟨b,kA ii.head,c _ _ _ q1 ii.drop⟩
theorem fC(ho:OpP X (RJ op) g)(ha:GE X a fa)(hb:GE X b fb)(hm:T2 op b=false):GT X (.Compare a [op] [b] pos) (Et (As g fa fb)):=by refine PT.imp (uw ho ha hb hm) λσ H Q h=>?_;obtain⟨env,Fr,k,rs,q,c⟩:=C6 σ H Q h;exact zg σ H _ ⟨env,Fr,k,rs,q,c⟩
def tP(g g':P2)(fa fb fc:PF):PF:=λenv k=>fa env λx al=>fb al λy bn=>aK y=true/\g x y λz=>match z with
 | .bl b=>cnd b (fc bn λu dL=>g' y u λt=>k t dL) (k (.bl false) bn)
 | _=>False
theorem uI{X:Cx}{fa fb fc:PF}:∀ σ H Q,wE X.K (tP g g' fa fb fc) σ H Q->wV (w2 X.K g) (w2 X.K g') (wE X.K fa) (wE X.K fb) (wE X.K fc) σ H Q:=by
 rintro σ H Q ⟨env,Fr,k,rs,q,c⟩;refine⟨env,Fr,_,rs,q,λtx al x H1 q1 ii=>⟨al,_,_,ii,q1,λty bn y H2 ⟨no,q2⟩ rs2=>?_⟩⟩;have rd:=jB rs2.head no;refine⟨tx,ty,(ty,some y)::(bn.zip σ++Fr),_,?_,q2,λt v H' kt rp=>?_⟩
 ·refine rd.perm (.cons _ ?_);refine r_ (.cons _ f') (.swap _ _ _)
 cases t <;> first|exact kt.elim|skip
 rename_i bb;refine⟨bb,kA rp,kg ⟨λhb=>?_,λhb=>?_⟩⟩
 ·refine⟨bn,(ty,some y)::Fr,_,.of rs2.1 rp.tail,kt.1 hb,λtu dL u H3 q3 rs3=>?_⟩;refine⟨ty,tu,dL.zip σ++Fr,_,?_,q3,λt v H' kt rp=>c _ _ _ _ kt (.of rs3.1 rp)⟩;exact rs3.head.perm (.cons _ f')
 exact c _ _ _ _ (kt.2 hb) (kE ⟨rs2.1,rp.tail.tail⟩ λ_=>.bl)
theorem nz{op':VP}(ho:OpP X (RJ op) g)(ho':OpP X (RJ op') g')(ha:GE X a fa)(hb:GE X b fb)(hc:GE X c fc)(hm:WW [op,op'] [b,c]=false:=by with_unfolding_all rfl) :
  GE X (.Compare a [op,op'] [b,c] pos) (tP g g' fa fb fc):=PE.imp (DG ho ho' ha hb hc hm) uI
theorem BV{op':VP}(ho:OpP X (RJ op) g)(ho':OpP X (RJ op') g')(ha:GE X a fa)(hb:GE X b fb)(hc:GE X c fc)(hm:WW [op,op'] [b,c]=false:=by with_unfolding_all rfl) :
  GT X (.Compare a [op,op'] [b,c] pos) (Et (tP g g' fa fb fc)):=by
 refine PT.imp (E5 ho ho' ha hb hc hm) λσ H Q h=>?_;obtain⟨env,Fr,k,rs,q,c⟩:=C6 σ H Q h;exact uI σ H _ ⟨env,Fr,k,rs,q,c⟩
noncomputable def Fn:T->(Bool->Prop)->Prop
 | .non,k=>k false
 | .bl b,k=>k b
 | .int i,k=>k (i != 0)
 | .str x,k=>x.length<=sizeLine/\k ((x.length:Int) != 0)
 | .tup ts,k=>k (!ts.isEmpty)
 | .cst ts,k=>k (!ts.isEmpty)
 | .lst _ ts,k=>k (!ts.isEmpty)
 | _,_=>False
def Ku(f:PF):PB:=λenv k=>f env λt bm=>Fn t λb=>k b bm
theorem vC{β:Type}{l:List α}{m:List β}(h:l.length=m.length):l.isEmpty=m.isEmpty:=by cases l <;> cases m <;> first|rfl|simp at h
theorem kT(ha:GE X a fa)(he:∀whole,WT a X.env whole=(do let v <-whole;Yc a.pos;TC [v] (truthy v)):=by intro _;rfl):GT X a (Ku fa):=by
 refine PT.imp (BP ha he) ?_;rintro σ H Q ⟨env,Fr,k,rs,q,c⟩;refine⟨env,Fr,_,rs,q,λt bm v H' q1 ii=>?_⟩;have fin:∀b,k b bm->Q b H':=λb kb=>c _ _ _ kb ii.drop;have sq:∀ts b,items t=some ts->b=(!ts.isEmpty)->k b bm->∃b,JB X.K v H' b/\Q b H':=λts b e eb kb=>by
  obtain⟨a,vs,rfl,hq,l,_⟩:=aD e ii.head;refine⟨b,?_,fin b kb⟩;rw[vC l]at eb;revert hq;cases kD t with
  |true=>exact λhq=>.inr (.inl ⟨vs,hq,eb⟩)
  |false=>exact λhq=>.inl ⟨vs,hq,eb⟩
 cases t with
 |non=>rw[Cv ii.head];exact⟨_,rfl,fin _ q1⟩
 |bl b=>rw[kA ii.head];exact⟨_,rfl,fin _ q1⟩
 |int i=>rw[aM ii.head];exact⟨_,rfl,fin _ q1⟩
 |str x=>rw[kO ii.head];exact⟨_,⟨q1.1,rfl⟩,fin _ q1.2⟩
 |tup ts=>exact sq _ _ rfl rfl q1
 |cst ts=>exact sq _ _ rfl rfl q1
 |lst o ts=>exact sq _ _ rfl rfl q1
 | _=>exact q1.elim
def Kg(ta tb:PB):PB:=λenv k=>ta env λb al=>cnd b (k true al) (tb al k)
noncomputable def GD(ta:PB):PB:=λenv k=>ta env λb al=>k (!b) al
variable{ta tb:PB}{rest:List Rr}
theorem HW(ha:GT X a ta):GW X (.BoolOp .Or [a] pos) ta:=Ju ha
theorem L7(ha:GT X a ta)(hb:GW X (.BoolOp .Or (b::rest) pos) tb):GW X (.BoolOp .Or (a::b::rest) pos) (Kg ta tb):=by
 refine PW.imp (K2 ha hb) ?_;rintro σ H Q ⟨env,Fr,k,rs,q,c⟩;refine⟨env,Fr,_,rs,q,λb bm H' q1 ii=>kg ⟨λe=>?_,λe=>?_⟩⟩
 ·exact c _ _ _ (q1.1 e) ii
 exact⟨bm,Fr,k,ii,q1.2 e,c⟩
theorem LG{f:PB}(h:GW X a f):GT X a f:=PW.pt h
theorem IC(ha:GT X a ta):GT X (.UnaryOp .Not a pos) (GD ta):=by refine PT.imp (Iu ha) ?_;rintro σ H Q ⟨env,Fr,k,rs,q,c⟩;exact⟨env,Fr,_,rs,q,λb bm H' q1 ii=>c _ _ _ q1 ii⟩
def JW(fa fb:PF):PF:=λenv k=>fa env λt al=>match t with
 | .bl b=>cnd b (fb al k) (k (.bl false) al)
 | _=>False
def fOr(fa fb:PF):PF:=λenv k=>fa env λt al=>match t with
 | .bl b=>cnd b (k (.bl true) al) (fb al k)
 | _=>False
theorem Bh{op}(h:GE X a fa):GE X (.BoolOp op [a] pos) fa:=Jd h
theorem xY(ha:GE X a fa)(hb:GE X (.BoolOp .And (b::rest) pos) fb):GE X (.BoolOp .And (a::b::rest) pos) (JW fa fb):=by
 refine PE.imp (J7 ha hb) ?_;rintro σ H Q ⟨env,Fr,k,rs,q,c⟩;refine⟨env,Fr,_,rs,q,λt bm v H' q1 ii=>?_⟩;cases t <;> first|exact q1.elim|skip
 rename_i bb;refine⟨bb,kA ii.head,kg ⟨λe=>?_,λe=>?_⟩⟩
 ·exact⟨bm,Fr,k,ii.drop,q1.1 e,c⟩
 exact c _ _ _ _ (q1.2 e) (kE ii.drop λ_=>.bl)
theorem DH(ha:GE X a fa)(hb:GE X (.BoolOp .Or (b::rest) pos) fb):GE X (.BoolOp .Or (a::b::rest) pos) (fOr fa fb):=by
 refine PE.imp (JR ha hb) ?_;rintro σ H Q ⟨env,Fr,k,rs,q,c⟩;refine⟨env,Fr,_,rs,q,λt bm v H' q1 ii=>?_⟩;cases t <;> first|exact q1.elim|skip
 rename_i bb;refine⟨bb,kA ii.head,kg ⟨λe=>?_,λe=>?_⟩⟩
 ·exact c _ _ _ _ (q1.1 e) (kE ii.drop λ_=>.bl)
 exact⟨bm,Fr,k,ii.drop,q1.2 e,c⟩
noncomputable def HF:PFs:=λenv k=>k [] env
noncomputable def GX(f:PF)(r:PFs):PFs:=λenv k=>f env λt al=>r al λts bn=>k (t::ts) bn
variable{es:List Rr}{fr:PFs}
theorem af:GA X [] HF:=PA.imp lX (by rintro σ H Q ⟨env,Fr,k,rs,q,c⟩;exact c [] env [] H q rfl rs)
theorem aa(ha:GE X a fa)(hr:GA X es fr)(hs:Ru (a::es) X.env=(false,RF a X.env)::Ru es X.env:=by rfl):GA X (a::es) (GX fa fr):=by refine PA.imp (jw ha hr hs) ?_;rintro σ H Q ⟨env,Fr,k,rs,q,c⟩;refine⟨env,Fr,_,rs,q,λt al v H1 q1 ii=>⟨al,_,_,ii,q1,λts bn vs H2 q2 l rs2=>c _ _ _ _ q2 (by rw[gV,gV,l]) ?_⟩⟩;exact rs2.perm f'
noncomputable def Ka(fr:PFs):PF:=λenv k=>fr env λts al=>ts.length<=sizeLine/\k (.tup ts) al
noncomputable def Lb(fr:PFs):PF:=λenv k=>fr env λts al=>ts.length<=sizeLine/\k (.lst true ts) al
theorem ax{x1}(h:GA X es fr):GE X (.Tuple es x1 pos) (Ka fr):=by refine PE.imp (FC h) ?_;rintro σ H Q ⟨env,Fr,k,rs,q,c⟩;refine⟨env,Fr,_,rs,q,λts al vs H1 ⟨z,q1⟩ l ii=>⟨by rw[<-l];exact z,λp H2 hp g e=>c _ _ _ _ q1 ?_⟩⟩;exact Rs.chg (Δ:=zz ts vs) (Δ':=[(.tup ts,some (.ref p))]) ii λΓ r=>jD r l g e
theorem cn(h:GA X es fr):GE X (.List es pos) (Lb fr):=by refine PE.imp (F4 h) ?_;rintro σ H Q ⟨env,Fr,k,rs,q,c⟩;refine⟨env,Fr,_,rs,q,λts al vs H1 ⟨z,q1⟩ l ii=>⟨by rw[<-l];exact z,λp H2 hp g e=>c _ _ _ _ q1 ?_⟩⟩;exact Rs.chg (Δ:=zz ts vs) (Δ':=[(.lst true ts,some (.ref p))]) ii λΓ r=>jm r l hp g e
end
open PySem PySem.Spec PyProof.Rows L2
noncomputable def Jc:P2
 | .int i,.int j,k=>k (.int (i+j))
 | .str x,.str y,k=>x.length+y.length<=sizeLine/\k (.str (x++y))
 | .lst _ ts,.lst _ us,k=>ts.length+us.length<=sizeLine/\k (.lst true (ts++us))
 | .tup ts,.tup us,k=>ts.length+us.length<=sizeLine/\k (.tup (ts++us))
 | _,_,_=>False
noncomputable def K7:P2
 | .int i,.int j,k=>k (.int (i-j))
 | _,_,_=>False
def K5:P2
 | .int i,.int j,k=>xS i j/\k (.int (i*j))
 | _,_,_=>False
def JM:P2
 | .int i,.int j,k=>Ff i j/\k (.int (i/j))
 | _,_,_=>False
noncomputable def K8:P2
 | .int i,.int j,k=>0<j/\k (.int (i%j))
 | _,_,_=>False
noncomputable def IF(p:Int->Int->Bool):P2
 | .int i,.int j,k=>k (.bl (p i j))
 | _,_,_=>False
def ltT:P2:=IF λi j=>decide (i<j)
def leT:P2:=IF λi j=>decide (i<=j)
def gtT:P2:=IF λi j=>decide (j<i)
variable {n:Nat}{o:Bool}{r':Int->Int->V}
section
variable{X:Cx}
theorem sQ{C:Int->Int->Prop}{r:Int->Int->T}(h:OpR X f (rI C r'))(hr:∀i j K Hz H,RepT K Hz H (r i j) (r' i j) []):OpP X f (λt u k=>match t,u with | .int i,.int j=>C i j/\k (r i j) | _,_=>False):=by
 refine .of h ?_;intro tx ty x y H Γ k Q rp g c;cases tx <;> cases ty <;> first|exact g.elim|skip
 rename_i i j;rw[aM rp,aM rp.tail];exact⟨i,j,rfl,rfl,g.1,c _ _ _ g.2 (dk rp.tail.tail λHz=>hr i j _ _ _)⟩
theorem nG{r:Int->Int->T}(h:OpR X f (rI0 r'))(hr:∀i j K Hz H,RepT K Hz H (r i j) (r' i j) []):OpP X f (λt u k=>match t,u with | .int i,.int j=>k (r i j) | _,_=>False):=by
 refine .of h ?_;intro tx ty x y H Γ k Q rp g c;cases tx <;> cases ty <;> first|exact g.elim|skip
 rename_i i j;rw[aM rp,aM rp.tail];exact⟨i,j,rfl,rfl,c _ _ _ g (dk rp.tail.tail λHz=>hr i j _ _ _)⟩
theorem OpP.imp (h:OpP X f g)(k:∀tx ty k,g' tx ty k->g tx ty k):OpP X f g':=OpR.imp h (by rintro x y H Q ⟨tx,ty,Γ,kk,rp,gg,c⟩;exact⟨tx,ty,Γ,kk,rp,k _ _ _ gg,c⟩)
theorem Inv.KG {σ:L2.St}{l:Ra}(I:Inv X ac σ H s)(hH:Rd H l (.lst xs)):xs.length<=sizeLine/\∃(be:List Q_) (n:Nat),Vals xs be/\xs.length=be.length/\s.heap.get? l=some { cls:=.type "list",data:=.seq be.toArray n}:=by obtain⟨z,be,n,r,e⟩:=hH.ok I.hok;exact⟨z,be,n,r,r.length,e⟩
theorem Fw:OpR X (Sf .Add) (λx y H Q=>∃l b xs zs,x=.ref l/\y=.ref b/\Rd H l (.lst xs)/\Rd H b (.lst zs)/\xs.length+zs.length<=sizeLine/\New (.lst (xs++zs)) H Q):=by
 intro ac s σ H x y v u Q I rx ry h;obtain⟨l,b,xs,zs,rfl,rfl,hH,hB,hz,q⟩:=h;cases rx;cases ry;obtain⟨z,be,n,r,hl,e⟩:=Inv.KG I hH;obtain⟨z2,its2,n2,r2,hl2,e2⟩:=Inv.KG I hB;refine PySem.P.add_list e e2 ?_ (by rw[g_,g_];lia);have ea:be.toArray++its2.toArray=(be++its2).toArray:=by simp
 rw[ea];exact⟨.ref _,_,I.JD (t':=s.toks) (r.append r2) (by rw[n_];omega),rfl,q.at I.fresh⟩
theorem mS(h:Rp K H ((.lst o ts,some y)::Γ)):∃a vs,y=.ref a/\Rd H a (.lst vs)/\ts.length=vs.length/\Rp K H (zz ts vs++Γ):=by
 obtain⟨Hz,N,h,nd,g,d⟩:=h;cases h with
 |cons e1 h c=>
  rcases h with⟨z,_⟩|⟨v,e2,h⟩
  ·cases z
  cases e2;cases h
  ·rename_i a vs L h c1;rw[e1,Ml,E_]at nd;exact⟨a,vs,rfl,.inl h,c1.len,Hz,_,c1.toL.app c,nd.2,g,λb m=>d b (by rw[e1,Ml];exact j_ _ m)⟩
  rename_i a vs h c1;exact⟨a,vs,rfl,g _ _ h,c1.len,Hz,_,c1.toL.app c,by rw[<-e1];exact nd,g,λb m=>d b (by rw[e1];exact m)⟩
theorem sJ(h:Rp K H ((.tup ts,some y)::Γ)):∃a vs,y=.ref a/\H a=some (.tup vs)/\ts.length=vs.length/\Rp K H (zz ts vs++Γ):=by
 obtain⟨Hz,N,h,nd,g,d⟩:=h;cases h with
 |cons e1 h c=>
  rcases h with⟨z,_⟩|⟨v,e2,h⟩
  ·cases z
  cases e2;cases h with
  |tup h c1=>exact⟨_,_,rfl,h,c1.len,Hz,_,c1.toL.app c,by rw[<-e1];exact nd,g,λb m=>d b (by rw[e1];exact m)⟩
theorem m5{us:List T}{ws:List V}(l:ts.length=vs.length):zz (ts++us) (vs++ws)=zz ts vs++zz us ws:=by show(ts++us).zip ((vs++ws).map some)=_;rw[z_,Qu (by rw[a_];exact l)]
theorem F2:OpR X (Sf .Add) (λx y H Q=>∃a b ys,x=.ref a/\y=.ref b/\SqT X.K H a []/\SqT X.K H b ys/\Q (.ref b) H):=by
 intro ac s σ H x y v u Q I rx ry h;obtain⟨a,b,ys,rfl,rfl,ha,hb,q⟩:=h;cases rx;cases ry;obtain⟨be,r1,p1,_⟩:=I.tuple ha;obtain⟨its2,r2,p2,_⟩:=I.tuple hb;cases r1;obtain⟨⟨cls,dd,data,sl⟩,ho,hc,n,hd⟩:=id p1;obtain⟨⟨cls2,dd2,data2,sl2⟩,ho2,hc2,n2,hd2⟩:=id p2;simp only at hc hd hc2 hd2;subst hc hd hc2 hd2;exact WZ ⟨_,ho,rfl⟩ ⟨_,ho2,rfl⟩ VA WH Uu Ul (Ud _ _)
  (tuple_addW0 a b _ its2.toArray n n2 dd dd2 sl sl2 (by simp)) ⟨ho,ho2,⟨.ref b,H,I,rfl,q⟩⟩
theorem au:OpP X (Sf .Add) Jc:=by
 rintro ac s σ H x y v u Q I rx ry ⟨tx,ty,Γ,k,rp,g,c⟩;cases tx <;> cases ty <;> first|exact Rt g|skip
 ·rename_i i j;rw[aM rp]at ry;rw[aM rp.tail]at rx;exact qt ac s σ H _ _ v u Q I rx ry ⟨i,j,rfl,rfl,c _ _ _ g (dk rp.tail.tail λ_=>.int)⟩
 ·rename_i i j;rw[kO rp]at ry;rw[kO rp.tail]at rx;exact wN ac s σ H _ _ v u Q I rx ry ⟨i,j,rfl,rfl,g.1,c _ _ _ g.2 (dk rp.tail.tail λ_=>.str)⟩
 ·rename_i ts us;obtain⟨b,ws,rfl,hb,lb,ge⟩:=sJ rp;obtain⟨a,vs,rfl,ha,la,gl⟩:=sJ (ge.perm f');have lz:vs.length+ws.length<=sizeLine:=by rw[<-la,<-lb];exact g.1
  have rp4:Rp X.K H (zz (ts++us) (vs++ws)++Γ):=by rw[m5 la,w_];exact gl
  by_cases hx:vs=[]
  ·subst hx;refine F2 ac s σ H _ _ v u Q I rx ry ⟨a,b,ws,rfl,rfl,SqT.of ha,SqT.of hb,?_⟩;refine c _ _ _ g.2 (jD rp4 (by rw[n_,n_,la,lb]) .ip ?_);rw[MZ];exact hb
  refine Fu ac s σ H _ _ v u Q I rx ry ⟨a,b,vs,ws,rfl,rfl,SqT.of ha,SqT.of hb,hx,lz,λe=>?_,λ_ p hp=>c _ _ _ g.2 (jD rp4 (by rw[n_,n_,la,lb]) (dg hp _) aU)⟩;refine c _ _ _ g.2 (jD rp4 (by rw[n_,n_,la,lb]) .ip ?_);rw[e,L'];exact ha
 rename_i o ts o' us;obtain⟨b,ws,rfl,hb,lb,ge⟩:=mS rp;obtain⟨a,vs,rfl,ha,la,gl⟩:=mS (ge.perm f');have lz:vs.length+ws.length<=sizeLine:=by rw[<-la,<-lb];exact g.1
 have rp4:Rp X.K H (zz (ts++us) (vs++ws)++Γ):=by rw[m5 la,w_];exact gl
 exact Fw ac s σ H _ _ v u Q I rx ry ⟨a,b,vs,ws,rfl,rfl,ha,hb,lz,λp H' hp g' e=>c _ _ _ g.2 (jm rp4 (by rw[n_,n_,la,lb]) hp g' e)⟩
theorem aO:OpP X (Sf .Sub) K7:=(nG (r:=λi j=>.int (i-j)) J0 λ_ _ _ _ _=>.int).imp λtx ty k g=>by cases tx <;> cases ty <;> exact g
theorem cq:OpP X (Sf .Mult) K5:=(sQ (r:=λi j=>.int (i*j)) mn λ_ _ _ _ _=>.int).imp λtx ty k g=>by cases tx <;> cases ty <;> exact g
theorem jX:OpP X (Sf .FloorDiv) JM:=(sQ (r:=λi j=>.int (i/j)) yi λ_ _ _ _ _=>.int).imp λtx ty k g=>by cases tx <;> cases ty <;> exact g
theorem Gg:OpP X (Sf .Mod) K8:=(sQ (r:=λi j=>.int (i%j)) lY λ_ _ _ _ _=>.int).imp λtx ty k g=>by cases tx <;> cases ty <;> exact g
theorem iN:OpP X (RJ .Lt) ltT:=(nG (r:=λi j=>.bl (decide (i<j))) JL λ_ _ _ _ _=>.bl).imp λtx ty k g=>by cases tx <;> cases ty <;> exact g
theorem xU:OpP X (RJ .LtE) leT:=(nG (r:=λi j=>.bl (decide (i<=j))) KS λ_ _ _ _ _=>.bl).imp λtx ty k g=>by cases tx <;> cases ty <;> exact g
theorem Hw:OpP X (RJ .Gt) gtT:=(nG (r:=λi j=>.bl (decide (j<i))) KH λ_ _ _ _ _=>.bl).imp λtx ty k g=>by cases tx <;> cases ty <;> exact g
theorem Hi{k:Nat}{A:Rw}(r:Room k A)(h:n<190):A.units+n<cLine:=by have:=r.un;lia
end
open PySem PySem.Spec PyProof.Rows L2
noncomputable def xq:T->Option Key
 | .int i=>some (.inl i)
 | .str x=>some (.inr x)
 | .non=>some (.inr none)
 | _=>none
def iJ:List T->Option (List Key)
 | []=>some []
 |t::r=>match xq t,iJ r with
  |some k,some ks=>some (k::ks)
  | _,_=>none
section
variable{κ:Type}[DecidableEq κ]
noncomputable def jL(kvs:List (κ×T))(k:κ):Option T:=(kvs.find? λkv=>decide (kv.1=k)).map (·.2)
noncomputable def iw(kvs:List (κ×T))(k:κ)(v:T):List (κ×T):=
 if(kvs.any λkv=>decide (kv.1=k))=true then kvs.map (λkv=>if kv.1=k then(kv.1,v)else kv)else kvs++[(k,v)]
theorem oG:∀{ts:List (κ×T)}{vs:List (κ×V)}{q:κ}{u:T},ts.map (·.1)=vs.map (·.1)->jL ts q=some u->∃(w:V) (i:Nat),iP vs q=some w/\(ts.map (·.2))[i]?=some u/\(vs.map (·.2))[i]?=some w
 | [],vs,q,u,e,h=>by cases h
 | (k,t)::ts,[],q,u,e,h=>by cases e
 | (k,t)::ts,(k',v)::vs,q,u,e,h=>by
  rw[d_,d_,Mu]at e;have e0:k=k':=e.1;subst e0;unfold jL at h;rw[Mq]at h;unfold iP;rw[Mq];by_cases hk:k=q
  ·have hk':decide (k=q)=true:=decide_eq_true hk;rw[show decide ((k,t).1=q)=true from hk']at h;rw[show decide ((k,v).1=q)=true from hk'];cases h;exact⟨v,0,rfl,rfl,rfl⟩
  have hk':decide (k=q)=false:=decide_eq_false hk;rw[show decide ((k,t).1=q)=false from hk']at h;rw[show decide ((k,v).1=q)=false from hk'];obtain⟨w,i,h1,h2,h3⟩:=oG (ts:=ts) (vs:=vs) e.2 h;exact⟨w,i+1,h1,by simpa using h2,by simpa using h3⟩
theorem rl:∀{ts:List (κ×T)}{vs:List (κ×V)} (q:κ),ts.map (·.1)=vs.map (·.1)->(jL ts q).isSome=(iP vs q).isSome
 | [],[],q,e=>rfl
 | [],_::_,q,e=>by cases e
 | (k,t)::ts,[],q,e=>by cases e
 | (k,t)::ts,(k',v)::vs,q,e=>by
  rw[d_,d_,Mu]at e;have e0:k=k':=e.1;subst e0;have ih:=rl (ts:=ts) (vs:=vs) q e.2;unfold jL iP at ih ⊢;rw[Mq,Mq];by_cases hk:k=q
  ·have hk':decide (k=q)=true:=decide_eq_true hk;rw[show decide ((k,t).1=q)=true from hk']
   rfl
  have hk':decide (k=q)=false:=decide_eq_false hk;rw[show decide ((k,t).1=q)=false from hk'];exact ih
end
section
variable{K:Rb}{H:Hp}{Γ:Fm}
theorem xA{ts:List (Key×T)}(h:Rp K H ((.dK o ts,some y)::Γ)):∃a vs,y=.ref a/\Rd H a (.dK vs)/\ts.map (·.1)=vs.map (·.1)/\Rp K H (zz (ts.map (·.2)) (vs.map (·.2))++Γ):=by
 obtain⟨Hz,N,h,nd,g,d⟩:=h;cases h with
 |cons e1 h c=>
  rcases h with⟨z,_⟩|⟨v,e2,h⟩
  ·cases z
  cases e2;cases h
  ·rename_i a vs L h c1;obtain⟨ek,c2⟩:=c1.toL;rw[e1,Ml,E_]at nd;exact⟨a,vs,rfl,.inl h,ek,Hz,_,c2.toL.app c,nd.2,g,λb m=>d b (by rw[e1,Ml];exact j_ _ m)⟩
  rename_i a vs h c1;obtain⟨ek,c2⟩:=c1.toL;exact⟨a,vs,rfl,g _ _ h,ek,Hz,_,c2.toL.app c,by rw[<-e1];exact nd,g,λb m=>d b (by rw[e1];exact m)⟩
theorem jV{ts:List (List Key×T)}(h:Rp K H ((.dT o ts,some y)::Γ)):∃a vs,y=.ref a/\Rd H a (.dT vs)/\ts.map (·.1)=vs.map (·.1)/\Rp K H (zz (ts.map (·.2)) (vs.map (·.2))++Γ):=by
 obtain⟨Hz,N,h,nd,g,d⟩:=h;cases h with
 |cons e1 h c=>
  rcases h with⟨z,_⟩|⟨v,e2,h⟩
  ·cases z
  cases e2;cases h
  ·rename_i a vs L h c1;obtain⟨ek,c2⟩:=c1.toL;rw[e1,Ml,E_]at nd;exact⟨a,vs,rfl,.inl h,ek,Hz,_,c2.toL.app c,nd.2,g,λb m=>d b (by rw[e1,Ml];exact j_ _ m)⟩
  rename_i a vs h c1;obtain⟨ek,c2⟩:=c1.toL;exact⟨a,vs,rfl,g _ _ h,ek,Hz,_,c2.toL.app c,by rw[<-e1];exact nd,g,λb m=>d b (by rw[e1];exact m)⟩
theorem yd{k:Key}(e:xq t=some k)(h:Rp K H ((t,some y)::Γ)):y=kV k:=by
 cases t <;> cases e
 ·rw[Cv h];rfl
 ·rw[aM h];rfl
 rw[kO h];rfl
theorem Dx{k:Key}(e:xq t=some k)(h:RepT K Hz H t v L):v=kV k:=by
 cases t <;> cases e
 ·cases h;rfl
 ·cases h;rfl
 cases h;rfl
theorem nJ{Hz:Hp}:∀{ts:List T}{ks:List Key}{vs:List V}{L:List Ra},iJ ts=some ks->RepTs K Hz H ts vs L->vs=ks.map kV
 | [],ks,_,_,e,r=>by cases r;cases e;rfl
 |t::ts,ks,_,_,e,r=>by
  cases r with
  |cons _ h c=>
   rw[iJ]at e;split at e
   ·rename_i k r e1 e2;cases e;rw[Dx e1 h,nJ e2 c]
    rfl
   cases e
theorem mY{ks:List Key}(e:iJ ts=some ks)(h:Rp K H ((.tup ts,some y)::Γ)):∃b,y=.ref b/\H b=some (.tup (ks.map kV)):=by
 obtain⟨Hz,L,r,g⟩:=ox h rfl;cases r with
 |tup h1 c1=>exact⟨_,rfl,by rw[h1,nJ e c1]⟩
end
def ixT:P2
 | .tup ts,.int i,k=>got (atI ts i) k
 | .cst ts,.int i,k=>got (atI ts i) k
 | .lst _ ts,.int i,k=>got (atI ts i) k
 | .str x,.int i,k=>x.length<=sizeLine/\got (atI x.cps.toList i) λc=>k (.str ⟨#[c]⟩)
 | .dK _ kvs,y,k=>got (xq y) λq=>got (jL kvs q) k
 | .dT _ kvs,.tup ts,k=>got (iJ ts) λq=>got (jL kvs q) k
 | _,_,_=>False
variable {kr:Nat}{pos:Pos}
section
variable{X:Cx}
theorem yB(hu:X.A.units+1<cLine):IxR X (λx y H Q=>∃a v,x=.ref a/\o7 H a y (some v)/\Q v H):=by
 intro value slice ac s σ H x y v u Q I rx ry h hs;obtain⟨a,z,rfl,g,q⟩:=h;cases rx;have hT:=oO I g;unfold T3;refine Q9 ?_;rw[V' hT.not_modules];refine Q9 (UK hT Vq.lookup ?_);have fin:Rh (Rn X.prog X.w) X.A (U5 slice false (.ref a) u) (λr s₃=>Rh (Rn X.prog X.w) X.A (Yi value (.ref a) r >>= λ_=>pure r) (EP X ac σ Q) X.xe s₃) X.xe s:=by rw[hs];refine XX (rW hu I g ry λw' s' I' r'=>Q9 (Wv (Rc ⟨z,H,I',r',q⟩)))
 first
  |exact Rc (Q9 fin)
  |exact Q9 (Rc (Q9 fin))
  |exact Q9 fin
theorem LM(hr:Room kr X.A):IxR X (w2 X.K ixT):=by
 rintro value slice ac s σ H x y v u Q I rx ry ⟨tx,ty,Γ,k,rp,g,c⟩ hs;have sq:∀ts i,items tx=some ts->ty=.int i->got (atI ts i) k->Rh (Rn X.prog X.w) X.A (T3 value slice v u) (EP X ac σ Q) X.xe s:=λts i e1 e2 g=>by obtain⟨t,et,kt⟩:=aF g;subst e2;rw[aM rp]at ry;obtain⟨a,vs,rfl,hq,l,ge⟩:=aD e1 rp.tail;obtain⟨w,ew,gl⟩:=BF l et ge;exact LC value slice ac s σ H _ _ v u Q I rx ry ⟨_,a,vs,i,w,rfl,rfl,hq,ew,c _ _ _ kt gl⟩ hs
 cases tx with
 |tup ts=>cases ty <;> first|exact Rt g|exact sq _ _ rfl rfl g
 |cst ts=>cases ty <;> first|exact Rt g|exact sq _ _ rfl rfl g
 |lst o ts=>cases ty <;> first|exact Rt g|exact sq _ _ rfl rfl g
 |str z=>
  cases ty <;> first|exact Rt g|skip
  rename_i i;obtain⟨hz,g⟩:=g;obtain⟨t,et,kt⟩:=aF g;rw[aM rp]at ry;rw[kO rp.tail]at rx;exact CY value slice ac s σ H _ _ v u Q I rx ry ⟨z,i,t,rfl,rfl,hz,et,c _ _ _ kt (dk rp.tail.tail λ_=>.str)⟩ hs
 |dK o kvs=>
  have g:got (xq ty) λq=>got (jL kvs q) k:=by cases ty <;> exact g
  obtain⟨q,eq,g⟩:=aF g;obtain⟨t,et,kt⟩:=aF g;rw[yd eq rp]at ry;obtain⟨a,vs,rfl,hq,ek,ge⟩:=xA rp.tail;obtain⟨w,i,ew,e1,e2⟩:=oG ek et;exact yB (lU hr) value slice ac s σ H _ _ v u Q I rx ry ⟨a,w,rfl,.inl ⟨vs,q,hq,rfl,ew.symm⟩,c _ _ _ kt (kc ge e1 e2)⟩ hs
 |dT o kvs=>
  cases ty <;> first|exact Rt g|skip
  rename_i ts;obtain⟨q,eq,g⟩:=aF g;obtain⟨t,et,kt⟩:=aF g;obtain⟨b,rfl,hb⟩:=mY eq rp;obtain⟨a,vs,rfl,hq,ek,ge⟩:=jV rp.tail;obtain⟨w,i,ew,e1,e2⟩:=oG ek et;exact yB (lU hr) value slice ac s σ H _ _ v u Q I rx ry ⟨a,w,rfl,.inr ⟨vs,q,b,hq,rfl,hb,ew.symm⟩,c _ _ _ kt (kc ge e1 e2)⟩ hs
 | _=>cases ty <;> exact Rt g
theorem aw{kr:Nat}{a b:Rr}{fa fb:PF}{pos:Pos}(hr:Room kr X.A)(ha:GE X a fa)(hb:GE X b fb)(hs:tm b:=by intro _ _;rfl):GE X (.Subscript a b pos) (As ixT fa fb):=PE.imp (Ec (LM hr) ha hb hs) zg
noncomputable def fUn(g:T->(T->Prop)->Prop)(fa:PF):PF:=λenv k=>fa env λt al=>g t λu=>k u al
noncomputable def KZ:T->(T->Prop)->Prop
 | .int i,k=>k (.int (-i))
 | _,_=>False
theorem mF{a:Rr}(ha:GE X a fa):GE X (.UnaryOp .USub a pos) (fUn KZ fa):=by
 refine PE.imp (Ll Jr ha) ?_;rintro σ H Q ⟨env,Fr,k,rs,q,c⟩;refine⟨env,Fr,_,rs,q,λt al v H1 q1 ii=>?_⟩;cases t <;> first|exact Rt q1|skip
 rename_i i;exact⟨i,aM ii.head,c _ _ _ _ q1 (kE ii.drop λ_=>.int)⟩
end
open PySem PySem.Spec PyProof.Rows L2
abbrev P1s:=List T->(T->Prop)->Prop
def w1s(K:Rb)(g:P1s):List V->Hp->VK->Prop:=λxs H Q=>∃ts Γ k,ts.length=xs.length/\Rp K H (zz ts xs++Γ)/\g ts k/\∀t v H',k t->Rp K H' ((t,some v)::Γ)->Q v H'
def jJ(X:Cx)(f:Q_)(g:P1s):Prop:=de X f (w1s X.K g)
noncomputable def fCl(g:P1s)(fr:PFs):PF:=λenv k=>fr env λts al=>g ts λt=>k t al
section
variable{X:Cx}{e:Rr}{es:List Rr}{fr:PFs}{pos p:Pos}{x:Str}{g:P1s}
theorem Hk:∀ σ H Q,wE X.K (fCl g fr) σ H Q->tCB (w1s X.K g) (wA X.K fr) σ H Q:=by rintro σ H Q ⟨env,Fr,k,rs,q,c⟩;refine⟨env,Fr,_,rs,q,λts al vs H1 q1 l ii=>?_⟩;refine⟨ts,al.zip σ++Fr,_,l,?_,q1,λt v H' kt rp=>c _ _ _ _ kt (.of ii.1 rp)⟩;refine ii.2.perm ?_;rw[<-w_,<-w_];exact ND.append_right _
theorem aE{id:String}(hc:jJ X (.builtin id) g)(hg:Gl X x)(hm:X.mg x=none)(hv:TR x=some (.builtin id))(ha:GA X (e::es) fr)(hn:x≠"__name__":=by decide)(hdb:(x ==("__debug__":Str))=false:=by decide)
  (he:Ru (e::es) X.env=(false,RF e X.env)::Ru es X.env:=by rfl) (hpl:(Ta pos (Ru es X.env)).any (·.1)=false:=by rfl):GE X (.Call (.Name x p) (e::es) [] pos) (fCl g fr):=PE.imp (qb hc hg hm hv ha hn hdb he hpl) Hk
theorem fT{id:String}(hc:jJ X (.type id) g)(hg:Gl X x)(hm:X.mg x=none)(hv:TR x=some (.type id))(ha:GA X (e::es) fr)(hn:x≠"__name__":=by decide)(hdb:(x ==("__debug__":Str))=false:=by decide)
  (he:Ru (e::es) X.env=(false,RF e X.env)::Ru es X.env:=by rfl) (hpl:(Ta pos (Ru es X.env)).any (·.1)=false:=by rfl):GE X (.Call (.Name x p) (e::es) [] pos) (fCl g fr):=PE.imp (rA hc hg hm hv ha hn hdb he hpl) Hk
end
variable {E Q:Q_->Rf->Prop}{kvs:List (List Key×V)}{u:T}{w:Ro}
section
variable{X:Cx}
theorem zz1(l:ts.length=xs.length)(e:ts=[t]):∃x,xs=[x]:=by
 subst e;rcases xs with _|⟨x,_|⟨y,xs⟩⟩
 ·cases l
 ·exact⟨x,rfl⟩
 cases l
theorem zz2(l:ts.length=xs.length)(e:ts=[t,u]):∃x y,xs=[x,y]:=by
 subst e;rcases xs with _|⟨x,xs⟩
 ·cases l
 obtain⟨y,rfl⟩:=zz1 (ts:=[u]) (Nr l) rfl;exact⟨x,y,rfl⟩
theorem zz3{w:T}(l:ts.length=xs.length)(e:ts=[t,u,w]):∃x y z,xs=[x,y,z]:=by
 subst e;rcases xs with _|⟨x,xs⟩
 ·cases l
 obtain⟨y,z,rfl⟩:=zz2 (ts:=[u,w]) (Nr l) rfl;exact⟨x,y,z,rfl⟩
theorem xF{prog:Rj}(d:Ra)(nd:(d == RI)=false) :
  Zm prog w (R9.«dict.__len__» ⟨[.ref d],[]⟩) (λ_ R s=>∃o es ep,s.heap.get? d=some o/\o.data=.dict es ep/\R (.ok (.ret (.int es.size s.toks))) {s with toks:=s.toks+1}):=
 .of_wp λA R s ⟨o,es,ep,ho,hdat,q⟩=>by show Rh _ _ (dictSize d >>= _) _ _ s;unfold dictSize;refine Q9 (Q9 (RY ho hdat (Rc ?_)));show Rh _ _ (YJ d >>= _) _ _ s;exact Q9 (wpAny_pendingCount_other nd (wpAny_ret_mkInt (by rw[OX];exact q)))
theorem G0{prog:Rj}{A:Rw}{d:Ra}{o:Obj}{es:Array Td}{ep:Nat}(nd:(d == RI)=false)(ho:s.heap.get? d=some o)(hc:o.ExactDict)(hdat:o.data=.dict es ep)
  (fit:(es.size:Int)<2 ^ 63) (q:∀t tk,Q (.int es.size t) {s with toks:=tk}):Rh (Rn prog w) A (call (.builtin "len") [.ref d]) Q E s:=by
 have ty:s.TypeIs (.ref d) "dict":=⟨_,ho,hc.1⟩;refine Tq kind_len plain_len entry_len (args_len1 _) ?_;unfold R9.«len»;refine Q9 (m:=oneArg "len" _) (Rc ?_);refine Q9 (m:=callSpecial? (.ref d) (SJ "__len__")) (RS (name:=SJ "__len__") ty Wd
  (W7 Wd ty PySem.F.entry_dict_len (PySem.F.args_dict_len_1 _) (xF d nd) ⟨o,es,ep,ho,hdat,?_⟩))
 show Rh _ _ _ _ _ {s with toks:=s.toks+1};refine Q9 (Ry (Rc (Q9 (Uw ?_))));show Rh _ _ (if((es.size:Nat):Int)<0 then _ else _) _ _ _;rw[if_neg (by lia)];show Rh _ _ (if((es.size:Nat):Int)>=2 ^ 63 then _ else _) _ _ _;rw[if_neg (by lia)];exact Q9 (Y8 (Rc ⟨_,rfl,q _ _⟩))
theorem Ig{σ:L2.St}(I:Inv X ac σ H s)(e:Rd H a (.dT kvs))(q:∀t s',Inv X ac σ H s'->Q (.int kvs.length t) s'):Rh (Rn X.prog X.w) X.A (call (.builtin "len") [.ref a]) Q E s:=by
 obtain⟨z,hd,xs,rel,o,es,ep,h1,h2,h3,h4,_⟩:=oT I.hok e;have hs:es.size=kvs.length:=by have:=congrArg Qa h4;rw[a_]at this;rw[<-l_,this];exact(Sg rel).symm
 refine G0 hd h1 h2 h3 (by rw[sizeLine_eq]at z;lia) λt tk=>?_
 rw[hs];exact q _ _ (I.tok _)
def JV:P1s
 | [t],k=>match t with
  | .str x=>x.length<=sizeLine/\k (.int x.length)
  | .dK _ kvs=>k (.int kvs.length)
  | .dT _ kvs=>k (.int kvs.length)
  |t=>got (items t) λts=>k (.int ts.length)
 | _,_=>False
theorem jO:jJ X (.builtin "len") JV:=by
 rintro ac s σ H xs us Q I r ⟨ts,Γ,k,l,rp,g,c⟩
 match ts,l,g with
 | [t],l,g=>
  obtain⟨x,rfl⟩:=zz1 l rfl;have rp:Rp X.K H ((t,some x)::Γ):=rp;have sq:(got (items t) λts=>k (.int ts.length))->Rh (Rn X.prog X.w) X.A (call (.builtin "len") us) (EP X ac σ Q) X.xe s:=λg=>by obtain⟨us',e,kt⟩:=aF g;obtain⟨a,vs,rfl,hq,l2,ge⟩:=aD e rp;rw[l2]at kt;exact B7 ac s σ H _ us Q I r ⟨_,a,vs,rfl,hq,c _ _ _ kt (dk rp.tail λ_=>.int)⟩
  cases t with
  |str z=>
   rw[kO rp]at r;exact sR ac s σ H _ us Q I r ⟨z,rfl,g.1,c _ _ _ g.2 (dk rp.tail λ_=>.int)⟩
  |dK o kvs=>
   obtain⟨a,vs,rfl,hq,ek,ge⟩:=xA rp;obtain⟨u,rfl,ru⟩:=vals1 r;cases ru;have g:k (.int kvs.length):=g;rw[fP ek]at g;exact Lu I hq λt s' I'=>⟨.int vs.length,H,I',⟨t,rfl⟩,c _ _ _ g (dk rp.tail λ_=>.int)⟩
  |dT o kvs=>
   obtain⟨a,vs,rfl,hq,ek,ge⟩:=jV rp;obtain⟨u,rfl,ru⟩:=vals1 r;cases ru;have g:k (.int kvs.length):=g;rw[fP ek]at g;exact Ig I hq λt s' I'=>⟨.int vs.length,H,I',⟨t,rfl⟩,c _ _ _ g (dk rp.tail λ_=>.int)⟩
  | _=>exact sq g
 | [],_,g=>exact Rt g
 | _::_::_,_,g=>exact Rt g
noncomputable def Kn:P1s
 | [.int i],k=>k (.int i.natAbs)
 | _,_=>False
theorem jT:jJ X (.builtin "abs") Kn:=by
 rintro ac s σ H xs us Q I r ⟨ts,Γ,k,l,rp,g,c⟩;rcases ts with _|⟨t,_|⟨u,ts⟩⟩
 ·exact g.elim
 rotate_left
 ·cases t <;> exact g.elim
 cases t <;> try exact g.elim
 rename_i i;obtain⟨x,rfl⟩:=zz1 l rfl;have rp:Rp X.K H ((.int i,some x)::Γ):=rp;rw[aM rp]at r;refine Cq ac s σ H _ us Q I r ⟨i,rfl,?_⟩;have e:(if i<0 then -i else i)=(i.natAbs:Int):=by split <;> lia
 rw[e];exact c _ _ _ g (dk rp.tail λ_=>.int)
noncomputable def intsOf:List T->Option (List Int)
 | []=>some []
 | .int i::r=>match intsOf r with
  |some ns=>some (i::ns)
  |none=>none
 | _::_=>none
theorem wX(ns:List Int):intsOf (ns.map T.int)=some ns:=by
 induction ns with
 |nil=>rfl
 |cons n r ih=>rw[d_,intsOf,ih]
theorem iE:∀{ts:List T}{ns:List Int},intsOf ts=some ns->ts=ns.map T.int
 | [],ns,e=>by cases e;rfl
 |t::ts,ns,e=>by
  cases t <;> first|cases e|skip
  rename_i i;rw[intsOf]at e;split at e
  ·rename_i ms em;cases e;rw[d_,iE em]
  cases e
theorem jg{K:Rb}{H:Hp}{Γ:Fm}:∀{ns:List Int}{vs:List V},(ns.map T.int).length=vs.length->Rp K H (zz (ns.map T.int) vs++Γ)->vs=ns.map V.int
 | [],[],_,_=>rfl
 | [],_::_,l,_=>by simp at l
 | _::_,[],l,_=>by simp at l
 |n::ns,v::vs,l,h=>by
  have h:Rp K H ((.int n,some v)::(zz (ns.map T.int) vs++Γ)):=h;rw[aM h,jg (by simpa using l) h.tail]
  rfl
def DF:P1s
 | [.int i,.int j],k=>k (.int (max i j))
 | [.int i,.int j,.int l],k=>k (.int (max (max i j) l))
 | [t],k=>got (items t) λts=>got (intsOf ts) λns=>ns≠[]/\∀r,jd ns r->k (.int r)
 | _,_=>False
def C3:P1s
 | [.int i,.int j],k=>k (.int (min i j))
 | [.int i,.int j,.int l],k=>k (.int (min (min i j) l))
 | [t],k=>got (items t) λts=>got (intsOf ts) λns=>ns≠[]/\∀r,je ns r->k (.int r)
 | _,_=>False
theorem iC(hc:X.calm=true):jJ X (.builtin "max") DF:=by
 rintro ac s σ H xs us Q I r ⟨ts,Γ,k,l,rp,g,c⟩;unfold DF at g;split at g
 ·rename_i k i j;obtain⟨x,y,rfl⟩:=zz2 l rfl;have rp:Rp X.K H ((.int i,some x)::(.int j,some y)::Γ):=rp;rw[aM rp,aM rp.tail]at r;refine AN hc ac s σ H _ us Q I r ⟨i,j,rfl,?_⟩;have e:(if j > i then j else i)=max i j:=by split <;> lia
  rw[e];exact c _ _ _ g (dk rp.tail.tail λ_=>.int)
 ·rename_i k i j m;obtain⟨x,y,z,rfl⟩:=zz3 l rfl;have rp:Rp X.K H ((.int i,some x)::(.int j,some y)::(.int m,some z)::Γ):=rp;rw[aM rp,aM rp.tail,aM rp.tail.tail]at r;refine AA hc ac s σ H _ us Q I r ⟨i,j,m,rfl,λw h1 h2 h3 h4=>?_⟩;have e:w=max (max i j) m:=by lia
  rw[e];exact c _ _ _ g (dk rp.tail.tail.tail λ_=>.int)
 ·rename_i k t;obtain⟨x,rfl⟩:=zz1 l rfl;have rp:Rp X.K H ((t,some x)::Γ):=rp;obtain⟨us',e,g⟩:=aF g;obtain⟨ns,en,ne,kt⟩:=aF g;have:=iE en;subst this;obtain⟨a,vs,rfl,hq,l2,ge⟩:=aD e rp;have:=jg l2 ge;subst this;revert hq;cases kD t with
  |true=>exact λhq=>Au hc ac s σ H _ us Q I r ⟨a,ns,rfl,hq,ne,λw hw=>c _ _ _ (kt w hw) (dk rp.tail λ_=>.int)⟩
  |false=>exact λhq=>An hc ac s σ H _ us Q I r ⟨a,ns,rfl,hq,ne,λw hw=>c _ _ _ (kt w hw) (dk rp.tail λ_=>.int)⟩
 exact Rt g
theorem i9(hc:X.calm=true):jJ X (.builtin "min") C3:=by
 rintro ac s σ H xs us Q I r ⟨ts,Γ,k,l,rp,g,c⟩;unfold C3 at g;split at g
 ·rename_i k i j;obtain⟨x,y,rfl⟩:=zz2 l rfl;have rp:Rp X.K H ((.int i,some x)::(.int j,some y)::Γ):=rp;rw[aM rp,aM rp.tail]at r;refine AO hc ac s σ H _ us Q I r ⟨i,j,rfl,?_⟩;have e:(if j<i then j else i)=min i j:=by split <;> lia
  rw[e];exact c _ _ _ g (dk rp.tail.tail λ_=>.int)
 ·rename_i k i j m;obtain⟨x,y,z,rfl⟩:=zz3 l rfl;have rp:Rp X.K H ((.int i,some x)::(.int j,some y)::(.int m,some z)::Γ):=rp;rw[aM rp,aM rp.tail,aM rp.tail.tail]at r;refine AS hc ac s σ H _ us Q I r ⟨i,j,m,rfl,λw h1 h2 h3 h4=>?_⟩;have e:w=min (min i j) m:=by lia
  rw[e];exact c _ _ _ g (dk rp.tail.tail.tail λ_=>.int)
 ·rename_i k t;obtain⟨x,rfl⟩:=zz1 l rfl;have rp:Rp X.K H ((t,some x)::Γ):=rp;obtain⟨us',e,g⟩:=aF g;obtain⟨ns,en,ne,kt⟩:=aF g;have:=iE en;subst this;obtain⟨a,vs,rfl,hq,l2,ge⟩:=aD e rp;have:=jg l2 ge;subst this;revert hq;cases kD t with
  |true=>exact λhq=>Ai hc ac s σ H _ us Q I r ⟨a,ns,rfl,hq,ne,λw hw=>c _ _ _ (kt w hw) (dk rp.tail λ_=>.int)⟩
  |false=>exact λhq=>Ac hc ac s σ H _ us Q I r ⟨a,ns,rfl,hq,ne,λw hw=>c _ _ _ (kt w hw) (dk rp.tail λ_=>.int)⟩
 exact Rt g
noncomputable def IL:P1s
 | [.int i],k=>k (.int i)
 | [.bl b],k=>k (.int (if b then 1 else 0))
 | _,_=>False
theorem rY:jJ X (.type "int") IL:=by
 rintro ac s σ H xs us Q I r ⟨ts,Γ,k,l,rp,g,c⟩;unfold IL at g;split at g
 ·rename_i k i;obtain⟨x,rfl⟩:=zz1 l rfl;have rp:Rp X.K H ((.int i,some x)::Γ):=rp;rw[aM rp]at r;exact si ac s σ H _ us Q I r (.inl ⟨i,rfl,c _ _ _ g (dk rp.tail λ_=>.int)⟩)
 ·rename_i k i;obtain⟨x,rfl⟩:=zz1 l rfl;have rp:Rp X.K H ((.bl i,some x)::Γ):=rp;rw[kA rp]at r;exact si ac s σ H _ us Q I r (.inr ⟨i,rfl,c _ _ _ g (dk rp.tail λ_=>.int)⟩)
 exact Rt g
def BH:P1s
 | [t],k=>got (items t) λts=>k (.lst true ts)
 | _,_=>False
theorem xc:jJ X (.type "list") BH:=by
 rintro ac s σ H xs us Q I r ⟨ts,Γ,k,l,rp,g,c⟩;unfold BH at g;split at g
 ·rename_i k t;obtain⟨x,rfl⟩:=zz1 l rfl;have rp:Rp X.K H ((t,some x)::Γ):=rp;obtain⟨us',e,kt⟩:=aF g;obtain⟨a,vs,rfl,hq,l2,ge⟩:=aD e rp;exact xu ac s σ H _ us Q I r ⟨_,a,vs,rfl,hq,λp H' hp g' e'=>c _ _ _ kt (jm ge l2 hp g' e')⟩
 exact Rt g
noncomputable def sG:P1s
 | [.tup ts],k=>k (.tup ts)
 | [.cst ts],k=>k (.cst ts)
 | [.lst _ ts],k=>k (.tup ts)
 | _,_=>False
theorem jz:jJ X (.type "tuple") sG:=by
 rintro ac s σ H xs us Q I r ⟨ts,Γ,k,l,rp,g,c⟩;unfold sG at g;split at g
 ·rename_i k ts;obtain⟨x,rfl⟩:=zz1 l rfl;have rp:Rp X.K H ((.tup ts,some x)::Γ):=rp;obtain⟨a,vs,rfl,hq,l2,ge⟩:=aD rfl rp;exact oP ac s σ H _ us Q I r ⟨a,vs,rfl,hq,c _ _ _ g rp⟩
 ·rename_i k ts;obtain⟨x,rfl⟩:=zz1 l rfl;have rp:Rp X.K H ((.cst ts,some x)::Γ):=rp;obtain⟨a,vs,rfl,hq,l2,ge⟩:=aD rfl rp;exact oP ac s σ H _ us Q I r ⟨a,vs,rfl,hq,c _ _ _ g rp⟩
 ·rename_i k o ts;obtain⟨x,rfl⟩:=zz1 l rfl;have rp:Rp X.K H ((.lst o ts,some x)::Γ):=rp;obtain⟨a,vs,rfl,hq,l2,ge⟩:=aD rfl rp;exact wu ac s σ H _ us Q I r ⟨a,vs,rfl,hq,λp H' hp g' e'=>c _ _ _ g (jD ge l2 g' e')⟩
 exact Rt g
noncomputable def boolsOf:List T->Option (List Bool)
 | []=>some []
 | .bl i::r=>match boolsOf r with
  |some ns=>some (i::ns)
  |none=>none
 | _::_=>none
theorem aL(ns:List Bool):boolsOf (ns.map T.bl)=some ns:=by
 induction ns with
 |nil=>rfl
 |cons n r ih=>rw[d_,boolsOf,ih]
theorem qD:∀{ts:List T}{ns:List Bool},boolsOf ts=some ns->ts=ns.map T.bl
 | [],ns,e=>by cases e;rfl
 |t::ts,ns,e=>by
  cases t <;> first|cases e|skip
  rename_i i;rw[boolsOf]at e;split at e
  ·rename_i ms em;cases e;rw[d_,qD em]
  cases e
theorem qg{K:Rb}{H:Hp}{Γ:Fm}:∀{ns:List Bool}{vs:List V},(ns.map T.bl).length=vs.length->Rp K H (zz (ns.map T.bl) vs++Γ)->vs=bools ns
 | [],[],_,_=>rfl
 | [],_::_,l,_=>by simp at l
 | _::_,[],l,_=>by simp at l
 |n::ns,v::vs,l,h=>by
  have h:Rp K H ((.bl n,some v)::(zz (ns.map T.bl) vs++Γ)):=h;rw[kA h,qg (by simpa using l) h.tail]
  rfl
def HP:P1s
 | [.lst _ ts],k=>got (boolsOf ts) λbs=>k (.bl (bs.all id))
 | _,_=>False
theorem AH(hc:X.calm=true):jJ X (.builtin "all") HP:=by
 rintro ac s σ H xs us Q I r ⟨ts,Γ,k,l,rp,g,c⟩;unfold HP at g;split at g
 ·rename_i k o ts;obtain⟨x,rfl⟩:=zz1 l rfl;have rp:Rp X.K H ((.lst o ts,some x)::Γ):=rp;obtain⟨bs,e,kt⟩:=aF g;have:=qD e;subst this;obtain⟨a,vs,rfl,hq,l2,ge⟩:=aD rfl rp;have:=qg l2 ge;subst this;exact C5 hc ac s σ H _ us Q I r ⟨a,bs,rfl,hq,c _ _ _ kt (dk rp.tail λ_=>.bl)⟩
 exact Rt g
abbrev PO':=Ev->(Option Int->Ev->Prop)->Prop
def wO(K:Rb)(f:PO'):TO:=λσ H Q=>∃env Fr k,Rs K H env σ Fr/\f env k/\∀o bm H',k o bm->Rs K H' bm σ Fr->Q o H'
def GO(X:Cx)(e:Option Rr)(f:PO'):Prop:=PO X e (wO X.K f)
noncomputable def Ki:PO':=λenv k=>k none env
noncomputable def Lw(f:PF):PO':=λenv k=>f env λt al=>match t with
 | .int i=>k (some i) al
 | _=>False
theorem yh:GO X none Ki:=by rintro ac s σ H Q I ⟨env,Fr,k,rs,q,c⟩;exact zi ac s σ H Q I (c _ _ _ q rs)
theorem yu{f:PF}(h:GE X e f):GO X (some e) (Lw f):=by
 rintro ac s σ H Q I ⟨env,Fr,k,rs,q,c⟩;refine zP h ac s σ H Q I ⟨env,Fr,_,rs,q,λt al v H1 q1 ii=>?_⟩;cases t <;> first|exact Rt q1|skip
 exact⟨_,aM ii.head,c _ _ _ q1 ii.drop⟩
def oZ(ts:List T)(lo hi:Option Int):List T:=(ts.drop (HT.sIx ts.length 0 lo)).take (HT.sIx ts.length ts.length hi-HT.sIx ts.length 0 lo)
def slT:T->Option Int->Option Int->(T->Prop)->Prop
 | .lst _ ts,lo,hi,k=>k (.lst true (oZ ts lo hi))
 | .tup ts,lo,hi,k=>¬(HT.sIx ts.length 0 lo=0/\HT.sIx ts.length ts.length hi=ts.length)/\k (.tup (oZ ts lo hi))
 | .cst ts,lo,hi,k=>¬(HT.sIx ts.length 0 lo=0/\HT.sIx ts.length ts.length hi=ts.length)/\k (.tup (oZ ts lo hi))
 | _,_,_,_=>False
theorem zx:∀(ts:List T) (vs:List V) (n:Nat),zz (ts.drop n) (vs.drop n)=(zz ts vs).drop n
 |ts,vs,0=>rfl
 | [],vs,n+1=>by simp[zz]
 |t::ts,[],n+1=>by simp[zz]
 |t::ts,v::vs,n+1=>by show zz (ts.drop n) (vs.drop n)=(zz ts vs).drop n;exact zx ts vs n
theorem yL:∀(ts:List T) (vs:List V) (n:Nat),zz (ts.take n) (vs.take n)=(zz ts vs).take n
 |ts,vs,0=>by simp[zz]
 | [],vs,n+1=>by simp[zz]
 |t::ts,[],n+1=>by simp[zz]
 |t::ts,v::vs,n+1=>by show(t,some v)::zz (ts.take n) (vs.take n)=(t,some v)::(zz ts vs).take n;rw[yL ts vs n]
theorem xV(l:ts.length=vs.length)(lo hi:Option Int)(h:Rp K H (zz ts vs++Γ)):Rp K H (zz (oZ ts lo hi) (lx vs lo hi)++Γ)/\(oZ ts lo hi).length=(lx vs lo hi).length:=by
 unfold oZ lx;rw[<-l];refine⟨?_,?_⟩
 ·rw[yL,zx];have e1:=Ni (HT.sIx ts.length 0 lo) (zz ts vs);have e2:=Ni (HT.sIx ts.length ts.length hi-HT.sIx ts.length 0 lo) ((zz ts vs).drop (HT.sIx ts.length 0 lo));have h2:Rp K H ((zz ts vs).drop (HT.sIx ts.length 0 lo)++Γ):=by rw[<-e1,w_]at h;exact h.part
  rw[<-e2,w_]at h2;have h3:=h2.perm (q_ _ _ _);exact h3.part
 rw[L_,L_,MP,MP,l]
def fSl(fa:PF)(fl fh:PO'):PF:=λenv k=>fa env λt al=>fl al λlo bn=>fh bn λhi dL=>slT t lo hi λu=>k u dL
theorem vU{lo hi:Option Rr}{fl fh:PO'}{p2:Pos}(he:GE X e fa)(hl:GO X lo fl)(hh:GO X hi fh):GE X (.Subscript e (.Slice lo hi none p2) pos) (fSl fa fl fh):=by
 have sl:SlR X (λx lo hi H Q=>∃t Γ k,Rp X.K H ((t,some x)::Γ)/\slT t lo hi k/\∀u v H',k u->Rp X.K H' ((u,some v)::Γ)->Q v H'):=by
  rintro ac s σ H x v vl vu lo hi sl Q I rx hs pl pu ⟨t,Γ,k,rp,g,c⟩;cases t with
  |lst o ts=>
   obtain⟨a,vs,rfl,hq,l,ge⟩:=aD rfl rp;obtain⟨gl,l3⟩:=xV l lo hi ge;exact DX ac s σ H _ v vl vu lo hi sl Q I rx hs pl pu ⟨a,vs,rfl,hq,λp H' hp g' e=>c _ _ _ g (jm gl l3 hp g' e)⟩
  |tup ts=>
   obtain⟨a,vs,rfl,hq,l,ge⟩:=aD rfl rp;obtain⟨gl,l3⟩:=xV l lo hi ge;exact yz ac s σ H _ v vl vu lo hi sl Q I rx hs pl pu ⟨a,vs,rfl,hq,by rw[<-l];exact g.1,λp H' hp g' e=>c _ _ _ g.2 (jD gl l3 g' e)⟩
  |cst ts=>
   obtain⟨a,vs,rfl,hq,l,ge⟩:=aD rfl rp;obtain⟨gl,l3⟩:=xV l lo hi ge;exact yz ac s σ H _ v vl vu lo hi sl Q I rx hs pl pu ⟨a,vs,rfl,hq,by rw[<-l];exact g.1,λp H' hp g' e=>c _ _ _ g.2 (jD gl l3 g' e)⟩
  | _=>exact Rt g
 refine PE.imp (vN sl he hl hh) ?_;rintro σ H Q ⟨env,Fr,k,rs,q,c⟩;refine⟨env,Fr,_,rs,q,λt al v H1 q1 ii=>⟨al,_,_,ii,q1,λlo bn H2 q2 rs2=>⟨bn,_,_,rs2,q2,λhi dL H3 q3 rs3=>?_⟩⟩⟩;exact⟨t,_,_,rs3.head,q3,λu w H' ku rp=>c _ _ _ _ ku (.of rs3.1 rp)⟩
end
open PySem PySem.Spec PyProof.Rows L2
inductive Arg where
 |val (t:T)|bor (i:Nat)
noncomputable def qR:Arg->T
 | .val t=>t
 | .bor _=>.any
noncomputable def lend:List Arg->Ev->List T×Ev
 | [],env=>([],env)
 | .val t::r,env=>(t::(lend r env).1,(lend r env).2)
 | .bor i::r,env=>match env[i]? with
  |some t=>(t::(lend r (env.set i .any)).1,(lend r (env.set i .any)).2)
  |none=>(.any::(lend r env).1,(lend r env).2)
noncomputable def back:List Arg->List T->Ev->Ev
 | .bor i::r,t::ts,env=>back r ts (env.set i t)
 | .val _::r,_::ts,env=>back r ts env
 | _,_,env=>env
noncomputable def nF:List Arg->List (Option V)->L2.St->Prop
 | [],[],_=>True
 | .val _::r,_::xs,σ=>nF r xs σ
 | .bor i::r,x::xs,σ=>(σ[i]?=some x\/σ.length<=i)/\nF r xs σ
 | _,_,_=>False
section
variable{K:Rb}{H:Hp}{σ:L2.St}
theorem mP:∀{as:List Arg}{xs:List (Option V)}{env:Ev}{Fr:Fm},nF as xs σ->Rs K H env σ ((as.map qR).zip xs++Fr)->Rs K H (lend as env).2 σ ((lend as env).1.zip xs++Fr)
 | [],[],env,Fr,_,h=>h
 | [],_::_,env,Fr,o,_=>o.elim
 | .val t::r,[],env,Fr,o,_=>o.elim
 | .bor i::r,[],env,Fr,o,_=>o.elim
 | .val t::r,x::xs,env,Fr,o,h=>by have h:Rs K H env σ ((t,x)::((r.map qR).zip xs++Fr)):=h;have h2:Rs K H env σ ((r.map qR).zip xs++((t,x)::Fr)):=h.perm f'.symm;exact(mP (as:=r) o h2).perm f'
 | .bor i::r,x::xs,env,Fr,o,h=>by
  have h:Rs K H env σ ((.any,x)::((r.map qR).zip xs++Fr)):=h;have h:=h.drop;rw[lend];split
  ·rename_i t e;obtain⟨y,ey,h2⟩:=h.slot e;have o1:σ[i]?=some x:=by
    rcases o.1 with z|z
    ·exact z
    have:=(e_.mp ey).1;lia
   rw[o1]at ey;cases ey;have h3:Rs K H (env.set i .any) σ ((r.map qR).zip xs++((t,x)::Fr)):=h2.perm f'.symm;exact(mP (as:=r) o.2 h3).perm f'
  have h3:Rs K H env σ ((r.map qR).zip xs++((.any,x)::Fr)):=(Rs.of h.1 (kX (x:=x) h.2)).perm f'.symm;exact(mP (as:=r) o.2 h3).perm f'
theorem mQ:∀{as:List Arg}{xs:List (Option V)}{ts:List T}{env:Ev}{Fr:Fm},nF as xs σ->Rs K H env σ (ts.zip xs++Fr)->Rs K H (back as ts env) σ Fr
 | [],xs,ts,env,Fr,_,h=>by
  have:back [] ts env=env:=by cases ts <;> rfl
  rw[this];exact⟨h.1,(h.2.perm (q_ _ _ _)).part⟩
 |a::r,xs,[],env,Fr,_,h=>by
  have:back (a::r) [] env=env:=by cases a <;> rfl
  rw[this];exact h
 | .val t::r,[],u::ts,env,Fr,o,_=>o.elim
 | .bor i::r,[],u::ts,env,Fr,o,_=>o.elim
 | .val t::r,x::xs,u::ts,env,Fr,o,h=>by have h:Rs K H env σ ((u,x)::(ts.zip xs++Fr)):=h;exact mQ (as:=r) o h.drop
 | .bor i::r,x::xs,u::ts,env,Fr,o,h=>by
  have h:Rs K H env σ ((u,x)::(ts.zip xs++Fr)):=h;rw[back];by_cases hi:i<env.length
  ·have o1:σ[i]?=some x:=by
    rcases o.1 with z|z
    ·exact z
    have:=h.1;lia
   exact mQ (as:=r) o.2 (h.kU hi o1)
  have e:env.set i u=env:=NZ (by lia);rw[e];exact mQ (as:=r) o.2 h.drop
theorem Rs.put (h:Rs K H env σ ((t,some v)::Fr)):Rs K H (env.set i t) (σ.set i (some v)) Fr:=by
 by_cases hi:i<env.length
 ·exact h.store hi
 rw[NZ (by lia),NZ (by rw[<-h.1];lia)];exact h.drop
end
abbrev PAs:=Ev->(List Arg->Ev->Prop)->Prop
def wR(K:Rb)(f:PAs):TA:=λσ H Q=>∃env Fr k,Rs K H env σ Fr/\f env k/\∀as bm vs H',k as bm->as.length=vs.length->nF as (vs.map some) σ->Rs K H' bm σ ((as.map qR).zip (vs.map some)++Fr)->Q vs H'
def GR(X:Cx)(es:List Rr)(f:PAs):Prop:=PA X es (wR X.K f)
noncomputable def K0:PAs:=λenv k=>k [] env
noncomputable def La(f:PF)(r:PAs):PAs:=λenv k=>f env λt al=>r al λas bn=>k (.val t::as) bn
def Ip(i:Nat)(r:PAs):PAs:=λenv k=>(match env[i]? with
 |some t=>isAny t=false
 |none=>False)/\r env λas bn=>k (.bor i::as) bn
section
variable{X:Cx}{e:Rr}{es:List Rr}{f:PF}{fr:PAs}
theorem az:GR X [] K0:=PA.imp lX (by rintro σ H Q ⟨env,Fr,k,rs,q,c⟩;exact c [] env [] H q rfl trivial rs)
theorem ai(he:GE X e f)(hr:GR X es fr)(hs:Ru (e::es) X.env=(false,RF e X.env)::Ru es X.env:=by rfl):GR X (e::es) (La f fr):=by refine PA.imp (jw he hr hs) ?_;rintro σ H Q ⟨env,Fr,k,rs,q,c⟩;refine⟨env,Fr,_,rs,q,λt al v H1 q1 ii=>⟨al,_,_,ii,q1,λas bn vs H2 q2 l ao rs2=>c _ _ _ _ q2 (by rw[gV,gV,l]) ao ?_⟩⟩;exact rs2.perm f'
theorem bf(i:Nat){x:Str}(hr:GR X es fr)(hN:X.N[i]?=some x:=by rfl)(hv:Vis X.env.scope x:=by first|exact f_ rfl|exact m_ (f_ rfl)|exact m_ (m_ rfl))(hd:(x ==("__debug__":Str))=false:=by decide)(hcd:(x ==("__classdict__":Str))=false:=by decide)
  (hs:Ru (.Name x pos::es) X.env=(false,RF (.Name x pos) X.env)::Ru es X.env:=by rfl):GR X (.Name x pos::es) (Ip i fr):=by
 refine PA.imp (jw (jq hN hv hd hcd) hr hs) ?_;rintro σ H Q ⟨env,Fr,k,rs,⟨na,q⟩,c⟩;split at na
 ·rename_i t e;obtain⟨y,ey,rs2⟩:=rs.slot e;obtain⟨v,rfl⟩:=ik rs2 na;refine⟨v,ey,env,Fr,_,rs,q,λas bn vs H2 q2 l ao rs2=>c _ _ _ _ q2 (by rw[gV,gV,l]) ⟨.inl ey,ao⟩ ?_⟩;exact .of rs2.1 (kX rs2.2)
 exact na.elim
end
abbrev FP:=List T->(T->List T->Prop)->Prop
def aG(K:Rb)(n:Nat)(P:FP):Sp:=λvs H Q _=>∃ts Fr k,ts.length=vs.length/\vs.length=n/\Rp K H (zz ts vs++Fr)/\P ts k/\∀t ts' v H',k t ts'->Rp K H' ((t,some v)::(zz ts' vs++Fr))->Q v H'
noncomputable def Kb(P:FP)(ts:List T)(k:T->List T->Prop):Prop:=P ts k
def HB(n:Nat)(P:FP)(fr:PAs):PF:=λenv k=>fr env λas al=>as.length=n/\Kb P (lend as al).1 λt ts'=>k t (back as ts' (lend as al).2)
variable {P:FP}{ps:List Str}
section
variable{X:Cx}
theorem kM:∀(as:List Arg) (env:Ev),(lend as env).1.length=as.length
 | [],env=>rfl
 | .val t::r,env=>by rw[lend,gV,gV,kM r]
 | .bor i::r,env=>by
  rw[lend];split
  ·rw[gV,gV,kM r]
  rw[gV,gV,kM r]
theorem F0{fr:PAs}:∀ σ H Q,wE X.K (HB n P fr) σ H Q->DI (aG X.K n P) [] E0 (wR X.K fr) σ H Q:=by
 rintro σ H Q ⟨env,Fr,k,rs,q,c⟩;refine⟨env,Fr,_,rs,q,λas al vs H1 ⟨hn,q1⟩ l ao ii=>?_⟩;show aG X.K n P (vs++[]) H1 Q E0;rw[L'];have rs2:=mP ao ii;refine⟨(lend as al).1,(lend as al).2.zip σ++Fr,_,by rw[kM,l],by rw[<-l];exact hn,?_,q1,λt ts' v H' kt rp=>c _ _ _ _ kt ?_⟩
 ·exact rs2.2.perm (q_ _ _ _)
 have h3:Rs X.K H' (lend as al).2 σ (zz ts' vs++((t,some v)::Fr)):=⟨rs2.1,rp.perm (by refine r_ ?_ (q_ _ _ _);refine r_ f'.symm ?_;exact MX _ f'.symm)⟩
 exact mQ ao h3
theorem ay{k:Nat}{x:Str}{fr:PAs}{p:Pos}(D:Cal X.prog X.w X.K X.mg X.base j x ps (aG X.K n P))(hr:Room k X.A)(hg:Gl X x)(ha:GR X (e::es) fr)(hjk:j<=k:=by omega)(hdb:(x ==("__debug__":Str))=false:=by decide)
  (he:Ru (e::es) X.env=(false,RF e X.env)::Ru es X.env:=by rfl) (hpl:(Ta pos (Ru es X.env)).any (·.1)=false:=by rfl):GE X (.Call (.Name x p) (e::es) [] pos) (HB n P fr):=PE.imp (J1 D hr hg ha hjk hdb he hpl) F0
end
structure PEn where
 nx:Ev->Prop
 rt:T->Ev->Prop
 bk:Ev->Prop:=λ_=>False
 ct:Ev->Prop:=λ_=>False
abbrev PSt:=PEn->Ev->Prop
noncomputable def Kept(κ:Nat->Bool)(σ f8:L2.St):Prop:=f8.length=σ.length/\∀j,κ j=true->f8[j]?=σ[j]?
variable {κ:Nat->Bool}
theorem Kept.refl {σ:L2.St}:Kept κ σ σ:=⟨rfl,λ_ _=>rfl⟩
variable {f8:L2.St}
theorem Kept.trans {σ σ'':L2.St}(a:Kept κ σ f8)(b:Kept κ f8 σ''):Kept κ σ σ'':=⟨b.1.trans a.1,λj h=>(b.2 j h).trans (a.2 j h)⟩
theorem Kept.set {σ:L2.St}(h:κ i=false):Kept κ σ (σ.set i x):=⟨Mc,λj hj=>by
 by_cases e:i=j
 ·subst e;rw[h]at hj;cases hj
 rw[Nk e]⟩
structure EndOk (K:Rb) (κ:Nat->Bool) (σ:L2.St) (Fr:Fm) (pe:PEn) (D:Ends):Prop where
 nx:∀bm f8 H',pe.nx bm->Rs K H' bm f8 Fr->Kept κ σ f8->D.nx f8 H'
 rt:∀t bm v f8 H',pe.rt t bm->Rs K H' bm f8 ((t,some v)::Fr)->Kept κ σ f8->D.rt v H'
 bk:∀bm f8 H',pe.bk bm->Rs K H' bm f8 Fr->Kept κ σ f8->D.bk f8 H'
 ct:∀bm f8 H',pe.ct bm->Rs K H' bm f8 Fr->Kept κ σ f8->D.ct f8 H'
variable {pe:PEn}
theorem EndOk.later {σ:L2.St}{D:Ends}(h:EndOk K κ σ Fr pe D)(k:Kept κ σ f8):EndOk K κ f8 Fr pe D:=
 ⟨λa b c p q r=>h.nx a b c p q (k.trans r),λa b c d e p q r=>h.rt a b c d e p q (k.trans r),λa b c p q r=>h.bk a b c p q (k.trans r),λa b c p q r=>h.ct a b c p q (k.trans r)⟩
def wS(K:Rb)(κ:Nat->Bool)(f:PSt):TS:=λD σ H=>∃env Fr pe,Rs K H env σ Fr/\f pe env/\EndOk K κ σ Fr pe D
def GS(κ:Nat->Bool)(X:Cx)(st:RG)(f:PSt):Prop:=PS X st (wS X.K κ f)
def GSs(κ:Nat->Bool)(X:Cx)(sts:List RG)(f:PSt):Prop:=PSs X sts (wS X.K κ f)
variable {st:RG}
theorem PS.imp {t t':TS}(h:PS X st t)(k:∀D σ H,t' D σ H->t D σ H):PS X st t':=λac s σ H D I q=>h ac s σ H D I (k _ _ _ q)
theorem PSs.imp {st:List RG}{t t':TS}(h:PSs X st t)(k:∀D σ H,t' D σ H->t D σ H):PSs X st t':=λac s σ H D I q=>h ac s σ H D I (k _ _ _ q)
noncomputable def Hn:PSt:=λpe env=>pe.nx env
noncomputable def JF(f g:PSt):PSt:=λpe env=>f {pe with nx:=g pe} env
variable {c:Rr}{tc:PB}
section
variable{X:Cx}{κ:Nat->Bool}{pos:Pos}{st:RG}{rest:List RG}{f g:PSt}{e:Rr}{fe:PF}
theorem d8:GSs κ X [] Hn:=PSs.imp ux (by rintro D σ H ⟨env,Fr,pe,rs,q,c⟩;exact c.nx _ _ _ q rs .refl)
theorem ag(h1:GS κ X st f)(h2:GSs κ X rest g):GSs κ X (st::rest) (JF f g):=by refine PSs.imp (fF h1 h2) ?_;rintro D σ H ⟨env,Fr,pe,rs,q,c⟩;refine⟨env,Fr,_,rs,q,⟨λbm f8 H' q1 ii k1=>⟨bm,Fr,pe,ii,q1,c.later k1⟩,c.rt,c.bk,c.ct⟩⟩
theorem aj(h1:GS κ X st f):GSs κ X [st] f:=mU h1
noncomputable def GZ(fe:PF):PSt:=λpe env=>fe env λ_ al=>pe.nx al
theorem iI(he:GE X e fe)(hs:Ub e none pos.line X.env=pure false:=by rfl):GS κ X (.Expr e pos) (GZ fe):=by refine PS.imp (EN he hs) ?_;rintro D σ H ⟨env,Fr,pe,rs,q,c⟩;exact⟨env,Fr,_,rs,q,λt bm v H' q1 ii=>c.nx _ _ _ q1 ii.drop .refl⟩
noncomputable def KP(fe:PF):PSt:=λpe env=>fe env λt al=>pe.rt t al
theorem aJ(he:GE X e fe):GS κ X (.Return (some e) pos) (KP fe):=by refine PS.imp (tF he) ?_;rintro D σ H ⟨env,Fr,pe,rs,q,c⟩;exact⟨env,Fr,_,rs,q,λt bm v H' q1 ii=>c.rt _ _ _ _ _ q1 ii .refl⟩
def sIf(tc:PB)(f g:PSt):PSt:=λpe env=>tc env λb al=>cnd b (f pe al) (g pe al)
theorem ig{a b:List RG}(hc:GT X c tc)(ha:GSs κ X a f)(hb:GSs κ X b g):GS κ X (.If c a b pos) (sIf tc f g):=by refine PS.imp (By hc ha hb) ?_;rintro D σ H ⟨env,Fr,pe,rs,q,c⟩;refine⟨env,Fr,_,rs,q,λb bm H' q1 ii=>kg ⟨λh=>⟨bm,Fr,pe,ii,q1.1 h,c⟩,λh=>⟨bm,Fr,pe,ii,q1.2 h,c⟩⟩⟩
noncomputable def F8(i:Nat)(fe:PF):PSt:=λpe env=>fe env λt al=>pe.nx (al.set i t)
theorem aA{i:Nat}{x:Str}{pos':Pos}(hN:X.N.Nodup)(hi:X.N[i]?=some x)(hx:Loc X.env.scope x)(hκ:κ i=false)(he:GE X e fe)(hs:Ub e (some (.Name x pos')) pos.line X.env=pure false:=by rfl)(hf:X.fn x=true\/X.env.scope.names.lookup x=some .local:=by first|exact .inl rfl|exact .inr rfl|assumption) :
  GS κ X (.Assign [.Name x pos'] e pos) (F8 i fe):=by
 refine PS.imp (kK hN hi hx he hs hf) ?_;rintro D σ H ⟨env,Fr,pe,rs,q,c⟩;exact⟨env,Fr,_,rs,q,λt bm v H' q1 ii=>c.nx _ _ _ q1 ii.put (.set hκ)⟩
abbrev PG':=T->Ev->(Ev->Prop)->Prop
abbrev oD:=List T->Ev->(Ev->Prop)->Prop
def wG(K:Rb)(κ:Nat->Bool)(f:PG'):TG:=λv σ H Q=>∃t env Fr k,Rs K H env σ ((t,some v)::Fr)/\f t env k/\∀bm f8 H',k bm->Rs K H' bm f8 Fr->Kept κ σ f8->Q f8 H'
def wGs(K:Rb)(κ:Nat->Bool)(f:oD):TGs:=λvs σ H Q=>∃ts env Fr k,ts.length=vs.length/\Rs K H env σ (zz ts vs++Fr)/\f ts env k/\∀bm f8 H',k bm->Rs K H' bm f8 Fr->Kept κ σ f8->Q f8 H'
def GG(κ:Nat->Bool)(X:Cx)(tg:Rr)(f:PG'):Prop:=PG X tg (wG X.K κ f)
def GGs(κ:Nat->Bool)(X:Cx)(tgs:List Rr)(f:oD):Prop:=PGs X tgs (wGs X.K κ f)
noncomputable def gN(i:Nat):PG':=λt env k=>k (env.set i t)
theorem aq{i:Nat}{x:Str}(hN:X.N.Nodup)(hi:X.N[i]?=some x)(hx:Loc X.env.scope x)(hκ:κ i=false)(hf:X.fn x=true\/X.env.scope.names.lookup x=some .local:=by first|exact .inl rfl|exact .inr rfl|assumption):GG κ X (.Name x pos) (gN i):=
 λac s σ H v u Q I r ⟨t,env,Fr,k,rs,q,c⟩=>zk hN hi hx hf ac s σ H v u Q I r (c _ _ _ q rs.put (.set hκ))
noncomputable def Hh:oD:=λts env k=>ts=[]/\k env
noncomputable def C8(f:PG')(r:oD):oD:=λts env k=>match ts with
 |t::ts=>f t env λal=>r ts al k
 | []=>False
noncomputable def gTp(n:Nat)(f:oD):PG':=λt env k=>match t with
 | .tup ts=>ts.length=n/\f ts env k
 | .cst ts=>ts.length=n/\f ts env k
 | _=>False
end
open PySem PySem.Spec PyProof.Rows L2
variable {body:List RG}{fb:PSt}{iter:Rr}{pos':Pos}
section
variable{X:Cx}{κ:Nat->Bool}{pos:Pos}{e tg:Rr}{es:List Rr}{fe:PF}{g:PG'}{gs:oD}
theorem fI:GGs κ X [] Hh:=by
 rintro ac s σ H vs us Q I r ⟨ts,env,Fr,k,l,rs,⟨e,q⟩,c⟩;subst e;have:vs=[]:=by cases vs with|nil=>rfl|cons _ _=>cases l
 subst this;exact yZ ac s σ H [] us Q I r ⟨rfl,c _ _ _ q rs .refl⟩
theorem aC(h1:GG κ X e g)(h2:GGs κ X es gs)(hs:(R' (e::es) X.env).map (·.2)=Uc e X.env::(R' es X.env).map (·.2):=by rfl):GGs κ X (e::es) (C8 g gs):=by
 rintro ac s σ H vs us Q I r ⟨ts,env,Fr,k,l,rs,q,c⟩;cases ts with
 |nil=>exact Rt q
 |cons t ts=>
  cases vs with
  |nil=>cases l
  |cons v vs=>
   have q:g t env λal=>gs ts al k:=q;refine qG h1 h2 hs ac s σ H (v::vs) us Q I r ⟨v,vs,rfl,t,env,zz ts vs++Fr,_,rs,q,λal σ1 H1 q1 ii k1=>?_⟩;exact⟨ts,al,Fr,k,by simpa using l,ii,q1,λbn σ2 H2 q2 rs2 k2=>c _ _ _ q2 rs2 (k1.trans k2)⟩
theorem iu{x1 n:Nat}(hc:X.calm=true)(h:GGs κ X es gs)(hn:(R' es X.env).length=n:=by rfl)(hst:(R' es X.env).findIdx? (·.1)=none:=by rfl):GG κ X (.Tuple es x1 pos) (gTp n gs):=by
 rintro ac s σ H v u Q I r ⟨t,env,Fr,k,rs,q,c⟩;have go:∀ts,items t=some ts->kD t=true->ts.length=n->gs ts env k->Rh (Rn X.prog X.w) X.A (Uc (.Tuple es x1 pos) X.env u) (λ_ s'=>∃ f8 H',Inv X ac f8 H' s'/\Q f8 H') X.xe s:=λts e1 e2 e3 q=>by obtain⟨a,vs,rfl,hq,l,rp⟩:=aD e1 rs.head;rw[e2]at hq;refine DW hc h hn hst ac s σ H _ u Q I r ⟨a,vs,rfl,hq,by rw[<-l];exact e3,ts,env,Fr,k,l,⟨rs.1,?_⟩,q,c⟩;exact rp.perm (q_ _ _ _)
 cases t with
 |tup ts=>exact go ts rfl rfl q.1 q.2
 |cst ts=>exact go ts rfl rfl q.1 q.2
 | _=>exact Rt q
noncomputable def KU(fe:PF)(g:PG'):PSt:=λpe env=>fe env λt al=>g t al pe.nx
theorem nS(he:GE X e fe)(hg:GG κ X tg g)(hs:Vc [tg] e pos.line X.env=pure false:=by rfl)(hw:Vd [tg] e X.env=pure none:=by rfl)(h1:(R' [tg] X.env).map (·.2)=[Uc tg X.env]:=by rfl) :
  GS κ X (.Assign [tg] e pos) (KU fe g):=by
 refine PS.imp (CB he hg hs hw h1) ?_;rintro D σ H ⟨env,Fr,pe,rs,q,c⟩;exact⟨env,Fr,_,rs,q,λt bm v H' q1 ii=>⟨t,bm,Fr,_,ii,q1,λbn σ2 H2 q2 rs2 k2=>c.nx _ _ _ q2 rs2 k2⟩⟩
noncomputable def KR(i j:Nat)(fr:PFs):PSt:=λpe env=>fr env λts al=>match ts with
 | [t,u]=>pe.nx ((al.set i t).set j u)
 | _=>False
theorem nM{x y:Str}{a b:Rr}{fr:PFs}{px py pt:Pos}{kt k2 pt2}(hc:X.calm=true)(hN:X.N.Nodup)(hi:X.N[i]?=some x)(hj:X.N[j]?=some y)(lf:i≠j)
  (hx:X.env.scope.names.lookup x=some .local) (hy:X.env.scope.names.lookup y=some .local) (hκi:κ i=false) (hκj:κ j=false) (ha:GA X [a,b] fr)
  (hw:Vd [.Tuple [.Name x px,.Name y py] kt pt] (.Tuple [a,b] k2 pt2) X.env=pure (some [x,y])) (hs:Vc [.Tuple [.Name x px,.Name y py] kt pt] (.Tuple [a,b] k2 pt2) pos.line X.env=pure false:=by rfl) :
  GS κ X (.Assign [.Tuple [.Name x px,.Name y py] kt pt] (.Tuple [a,b] k2 pt2) pos) (KR i j fr):=by
 refine PS.imp (HI hc hN hi hj lf hx hy ha hw hs) ?_;rintro D σ H ⟨env,Fr,pe,rs,q,c⟩;refine⟨env,Fr,_,rs,q,λts al vs H1 q1 l ii=>?_⟩;rcases ts with _|⟨t,_|⟨u,_|⟨t3,ts⟩⟩⟩
 ·exact q1.elim
 ·exact q1.elim
 ·obtain⟨v,w,rfl⟩:=zz2 l rfl;refine⟨v,w,rfl,c.nx _ _ _ q1 ?_ ((Kept.set hκi).trans (Kept.set hκj))⟩;have r1:Rs X.K H1 al σ ((t,some v)::(u,some w)::Fr):=ii;exact Rs.put (Rs.put r1)
 exact q1.elim
def IM(i:Nat)(fe:PF)(g:P2):PSt:=λpe env=>(match env[i]? with
 |some t=>isAny t=false/\aK t=true
 |none=>False)/\fe env λu al=>match env[i]? with
 |some t=>g t u λw=>pe.nx (al.set i w)
 |none=>False
def IpP(X:Cx)(op:Vz)(g:P2):Prop:=PIp X op (w2 X.K g)
theorem IP{x:Str}{op:Vz}{g:P2}(hN:X.N.Nodup)(hi:X.N[i]?=some x)(hx:Loc X.env.scope x)(hκ:κ i=false)(he:GE X e fe)(ho:IpP X op g)(hf:X.fn x=true\/X.env.scope.names.lookup x=some .local:=by first|exact .inl rfl|exact .inr rfl|assumption) :
  GS κ X (.AugAssign (.Name x pos') op e pos) (IM i fe g):=by
 refine PS.imp (Jl hN hi hx he ho hf) ?_;rintro D σ H ⟨env,Fr,pe,rs,⟨q0,q⟩,c⟩;cases e0:env[i]? with
 |none=>rw[e0]at q0;exact q0.elim
 |some t=>
  simp only[e0]at q0 q;obtain⟨y,ey,rs2⟩:=rs.slot e0;obtain⟨v,rfl⟩:=ik rs2 q0.1;have hi':i<env.length:=(e_.mp e0).1;have r3:Rs X.K H (env.set i .any) σ ((t,some v)::(t,some v)::Fr):=.of rs2.1 ((jB rs2.head q0.2).perm (N2 _ f'.symm));have r4:=Rs.kU (i:=i) r3 (by rw[Mc];exact hi') ey;rw[nk e0]at r4;refine⟨v,ey,env,(t,some v)::Fr,_,r4,q,λu al w H1 q1 ii=>?_⟩;refine⟨t,u,al.zip σ++Fr,_,ii.head.perm (.cons _ f'),q1,λz b H2 kz rp=>?_⟩;exact c.nx _ _ _ kz (Rs.put (.of ii.1 rp)) (.set hκ)
noncomputable def Gx:P2
 | .int i,.int j,k=>k (.int (i+j))
 | _,_,_=>False
theorem Fd:IpP X .Add Gx:=by
 rintro ac s σ H x y v u Q I rx ry ⟨tx,ty,Γ,k,rp,g,c⟩;cases tx <;> cases ty <;> first|exact Rt g|skip
 rename_i i j;rw[aM rp]at ry;rw[aM rp.tail]at rx;exact Jq ac s σ H _ _ v u Q I rx ry ⟨i,j,rfl,rfl,c _ _ _ g (dk rp.tail.tail λ_=>.int)⟩
def x6(tc:PB)(fb:PSt)(pe:PEn)(env:Ev):Prop:=∃W:Nat->Ev->Prop,(∃m,W m env)/\∀m env,W m env->tc env λb al=>cnd b (fb {pe with nx:=λe=>∃m',m'<m/\W m' e,ct:=λe=>∃m',m'<m/\W m' e,bk:=pe.nx} al) (pe.nx al)
def Bx(tc:PB)(fb:PSt):PSt:=λpe env=>x6 tc fb pe env
theorem uT(hp:WV (Rn X.prog X.w) X.A X.env X.xe)(hc:GT X c tc)(hb:GSs κ X body fb):GS κ X (.While c body [] pos) (Bx tc fb):=by
 refine PS.imp (BS hp hc hb) ?_;rintro D σ H ⟨env,Fr,pe,rs,⟨W,⟨m0,w0⟩,wt⟩,c⟩;refine⟨λm f8 H'=>∃bm,W m bm/\Rs X.K H' bm f8 Fr/\Kept κ σ f8,⟨m0,env,w0,rs,.refl⟩,?_⟩;rintro m σ1 H1 ⟨al,w1,ii,k1⟩;refine⟨al,Fr,_,ii,wt m al w1,λb bn H2 q2 rs2=>kg ⟨λh=>?_,λh=>c.nx _ _ _ (q2.2 h) rs2 k1⟩⟩;refine⟨λf8 H'=>∃m' bm,m'<m/\W m' bm/\Rs X.K H' bm f8 Fr/\Kept κ σ f8,λf8 H' ⟨m',bm,hm,w',r',k'⟩=>⟨m',hm,bm,w',r',k'⟩,bn,Fr,_,rs2,q2.1 h,⟨?_,?_,?_,?_⟩⟩
 ·exact λbm f8 H' ⟨m',hm,w'⟩ r' k'=>⟨m',bm,hm,w',r',k1.trans k'⟩
 ·exact λt bm v f8 H' p r' k'=>c.rt _ _ _ _ _ p r' (k1.trans k')
 ·exact λbm f8 H' p r' k'=>c.nx _ _ _ p r' (k1.trans k')
 exact λbm f8 H' ⟨m',hm,w'⟩ r' k'=>⟨m',bm,hm,w',r',k1.trans k'⟩
structure ItOk (K:Rb) (J:It) (be:List T) (Fg:Fm):Prop where
 turn:∀i t H Γ,be[i]?=some t->Rp K H (Fg++Γ)->J.go i H/\∀x H',J.yld i H x H'->Rp K H' ((t,some x)::(Fg++Γ))
 stop:∀H Γ,Rp K H (Fg++Γ)->J.stop be.length H
abbrev PIt:=Ev->(List T->Ev->Prop)->Prop
def wI(K:Rb)(f:PIt):TI:=λσ H R=>∃env Fr k,Rs K H env σ Fr/\f env k/\∀be bm J Fg H',k be bm->Rs K H' bm σ (Fg++Fr)->ItOk K J be Fg->R J H'
def GI(X:Cx)(tg iter:Rr)(f:PIt):Prop:=PI X tg iter (wI X.K f)
noncomputable def forL(be:List T)(g:PG')(fb:PSt)(pe:PEn)(al:Ev):Prop:=∃W:Nat->Ev->Prop,W 0 al/\(∀i t env,W i env->be[i]?=some t->g t env λbn=>fb {pe with nx:=W (i+1),ct:=W (i+1),bk:=pe.nx} bn)/\∀env,W be.length env->pe.nx env
def Kt(fi:PIt)(g:PG')(fb:PSt):PSt:=λpe env=>fi env λbe al=>forL be g fb pe al
theorem ql{σ:L2.St}{Fg:Fm}(h:Rs K H env σ (Fg++Fr)):Rs K H env σ Fr:=⟨h.1,(h.2.perm (q_ _ _ _)).part⟩
theorem cm{fi:PIt}{g:PG'}(hp:WV (Rn X.prog X.w) X.A X.env X.xe)(hc:X.calm=true)(hi:GI X tg iter fi)(hg:GG κ X tg g)(hb:GSs κ X body fb)(hs:∀x,Sb iter X.env x=pure x:=by intro _;rfl):GS κ X (.For tg iter body [] pos) (Kt fi g fb):=by
 refine PS.imp (JA hp hc hi hg hb hs) ?_;rintro D σ H ⟨env,Fr,pe,rs,q,c⟩;refine⟨env,Fr,_,rs,q,?_⟩;rintro be al J Fg H1 ⟨W,w0,wt,we⟩ ii ok;refine⟨λi m f8 H'=>∃bm,W i bm/\Rs X.K H' bm f8 (Fg++Fr)/\Kept κ σ f8/\m+i=be.length,⟨be.length,al,w0,ii,.refl,rfl⟩,?_⟩;rintro i m σ1 H2 ⟨bn,w2,rs2,k2,hm⟩;have ge:Rp X.K H2 (Fg++(bn.zip σ1++Fr)):=rs2.2.perm (q_ _ _ _);by_cases hlt:i<be.length
 ·have ei:be[i]?=some be[i]:=b_ hlt;obtain⟨hgo,hy⟩:=ok.turn i be[i] H2 _ ei ge;refine .inr ⟨hgo,λf8 H'=>∃bm,W (i+1) bm/\Rs X.K H' bm f8 (Fg++Fr)/\Kept κ σ f8,λf8 H' ⟨bm,w',r',k'⟩=>⟨m-1,by lia,bm,w',r',k',by lia⟩,λx H' hx=>?_⟩;have gl:=hy x H' hx;have rs3:Rs X.K H' bn σ1 ((be[i],some x)::(Fg++Fr)):=.of rs2.1 (gl.perm (.cons _ (q_ _ _ _)));refine⟨be[i],bn,Fg++Fr,_,rs3,wt i be[i] bn w2 ei,λdL σ3 H3 q3 rs4 k4=>?_⟩;refine⟨dL,Fg++Fr,_,rs4,q3,⟨?_,?_,?_,?_⟩⟩
  ·exact λbm f8 H' w' r' k'=>⟨bm,w',r',k2.trans (k4.trans k')⟩
  ·exact λt bm v f8 H' p r' k'=>c.rt _ _ _ _ _ p (ql (Fg:=Fg) (r'.perm f'.symm)) (k2.trans (k4.trans k'))
  ·exact λbm f8 H' p r' k'=>c.nx _ _ _ p (ql r') (k2.trans (k4.trans k'))
  exact λbm f8 H' w' r' k'=>⟨bm,w',r',k2.trans (k4.trans k')⟩
 have:i=be.length:=by lia
 subst this;exact .inl ⟨ok.stop H2 _ ge,c.nx _ _ _ (we bn w2) (ql rs2) k2⟩
end
variable {as:List T}
section
variable{X:Cx}{pos:Pos}{e tg:Rr}{fe:PF}
def KQ(fe:PF):PIt:=λenv k=>fe env λt al=>got (items t) λts=>k (erL ts) al
theorem Iy(e:items t=some ts)(n:aK t=true):ItOk K (Its K (kD t) a) ts [(t,some (.ref a))] where
 turn:=λi u H Γ ei rp=>by obtain⟨a',vs,ea,hq,l,ge⟩:=aD e (jB rp n);cases ea;obtain⟨w,ew⟩:=pP l ei;refine⟨IJ hq rfl i H .ip (by have:=(e_.mp ew).1;exact this),λx H' hy=>?_⟩;obtain⟨rfl,hx⟩:=FQ hq .ip hy;rw[ew]at hx;cases hx;exact kc ge ei ew
 stop:=λH Γ rp=>by obtain⟨a',vs,ea,hq,l,ge⟩:=aD e rp;cases ea;exact E4 hq l.symm H .ip
theorem mH(e:items t=some ts):items (er t)=some (erL ts)/\kD (er t)=kD t:=by cases t <;> cases e <;> exact⟨rfl,rfl⟩
theorem aZ(h:GE X e fe):GI X tg e (KQ fe):=by rintro ac s σ H R I ⟨env,Fr,k,rs,q,c⟩;refine I0 h ac s σ H R I ⟨env,Fr,_,rs,q,λt al v H1 q1 ii=>?_⟩;obtain⟨ts,e1,kt⟩:=aF q1;have rf:Rp X.K H1 ((er t,some v)::(al.zip σ++Fr)):=mE ii.head;obtain⟨e2,e3⟩:=mH e1;obtain⟨a,vs,rfl,hq,l,ge⟩:=aD e2 rf;exact⟨kD (er t),a,vs,rfl,hq,c _ _ _ _ _ kt (Rs.of (Fr:=Fr) ii.1 rf) (Iy e2 (aI t))⟩
noncomputable def nX(lo:Int)(n:Nat):List T:=(p_ n).map λ(i:Nat)=>.int (lo+(i:Int))
theorem Cf(lo:Int)(n:Nat):ItOk K (Itr lo n) (nX lo n) [] where
 turn:=λi t H Γ ei rp=>by
  unfold nX at ei;rw[o_]at ei;have hi:i<n:=by
   cases h:(p_ n)[i]? with
   |none=>rw[h]at ei;cases ei
   |some j=>
    have:=(e_.mp h).1;simpa using this
  rw[Mw hi]at ei;cases ei;refine⟨hi,λx H' ⟨e1,e2⟩=>?_⟩;subst e1;subst e2;exact dk rp λ_=>.int
 stop:=λH Γ rp=>by show n<=_;unfold nX;rw[a_,B_];exact c_ _
def iR1(fr:PFs):PIt:=λenv k=>fr env λts al=>match ts with
 | [.int j]=>(-(2 ^ 62)<=j/\j<2 ^ 62)/\k (nX 0 j.toNat) al
 | _=>False
def iR2(fr:PFs):PIt:=λenv k=>fr env λts al=>match ts with
 | [.int i,.int j]=>(-(2 ^ 62)<=i/\i<2 ^ 62/\-(2 ^ 62)<=j/\j<2 ^ 62)/\k (nX i (j-i).toNat) al
 | _=>False
variable{a b c:Rr}{fr:PFs}{p:Pos}
theorem iz(hg:Gl X "range")(hm:X.mg "range"=none)(ha:GA X [a] fr)(hs:Ru [a] X.env=[(false,RF a X.env)]:=by rfl):GI X tg (.Call (.Name "range" p) [a] [] pos) (iR1 fr):=by
 rintro ac s σ H R I ⟨env,Fr,k,rs,q,c⟩;refine AI hg hm ha hs ac s σ H R I ⟨env,Fr,_,rs,q,λts al vs H1 q1 l ii=>?_⟩;rcases ts with _|⟨t,_|⟨t2,ts⟩⟩
 ·exact q1.elim
 ·cases t <;> first|exact q1.elim|skip
  rename_i j;rcases vs with _|⟨v,_|⟨v2,vs⟩⟩
  ·cases l
  ·have ii:Rs X.K H1 al σ ((.int j,some v)::Fr):=ii;rw[aM ii.head];exact⟨j,rfl,q1.1.1,q1.1.2,c _ _ _ [] _ q1.2 ii.drop (Cf 0 _)⟩
  cases l
 cases t <;> exact q1.elim
theorem iB(hg:Gl X "range")(hm:X.mg "range"=none)(ha:GA X [a,b] fr)(hs:Ru [a,b] X.env=[(false,RF a X.env),(false,RF b X.env)]:=by rfl)(hs2:Ru [b] X.env=[(false,RF b X.env)]:=by rfl):GI X tg (.Call (.Name "range" p) [a,b] [] pos) (iR2 fr):=by
 rintro ac s σ H R I ⟨env,Fr,k,rs,q,c⟩;refine Az hg hm ha hs hs2 ac s σ H R I ⟨env,Fr,_,rs,q,λts al vs H1 q1 l ii=>?_⟩;rcases ts with _|⟨t,_|⟨u,_|⟨t3,ts⟩⟩⟩
 ·exact q1.elim
 ·cases t <;> exact q1.elim
 ·cases t <;> try exact q1.elim
  cases u <;> try exact q1.elim
  rename_i i j;obtain⟨v,w,rfl⟩:=zz2 l rfl;have ii:Rs X.K H1 al σ ((.int i,some v)::(.int j,some w)::Fr):=ii;rw[aM ii.head,aM ii.drop.head];exact⟨i,j,rfl,q1.1,c _ _ _ [] _ q1.2 ii.drop.drop (Cf i _)⟩
 cases t <;> try exact q1.elim
 cases u <;> exact q1.elim
def iZp(fr:PFs):PIt:=λenv k=>fr env λts al=>match ts with
 | [t,u]=>got (items t) λas=>got (items u) λbs=>k (((erL as).zip (erL bs)).map λp=>.tup [p.1,p.2]) al
 | _=>False
theorem CH{x:V}{p:Ra}(h:Rp K H ((t,some x)::(u,some y)::Γ))(s:dh H H')(e:H' p=some (.tup [x,y])):Rp K H' ((.tup [t,u],some (.ref p))::Γ):=
 jD (ts:=[t,u]) (vs:=[x,y]) h rfl s e
theorem Jx{bs:List T}{a b:Ra}(e1:items t=some as)(e2:items u=some bs)(n1:aK t=true)(n2:aK u=true) :
  ItOk K (Itz K (kD t) a (kD u) b) ((as.zip bs).map λp=>.tup [p.1,p.2]) [(t,some (.ref a)),(u,some (.ref b))] where
 turn:=λi w H Γ ei rp=>by
  rw[o_]at ei;cases hz:(as.zip bs)[i]? with
  |none=>rw[hz]at ei;cases ei
  |some q=>
   rw[hz]at ei;cases ei;obtain⟨q1,q2⟩:=q;rw[List.getElem?_zip_eq_some]at hz;have rp0:Rp K H ((t,some (.ref a))::(u,some (.ref b))::Γ):=rp;have rpd:=jB rp0 n1;have rpe:Rp K H ((u,some (.ref b))::(t,some (.ref a))::(t,some (.ref a))::Γ):=rpd.perm (by refine r_ ?_ (Nd _ _ _);exact .cons _ (.swap _ _ _))
   have rpf:=jB rpe n2;obtain⟨b',ws,eb,hb,lb,rpg⟩:=aD e2 rpf;cases eb;obtain⟨y,ey⟩:=pP lb hz.2;have rph:=kc rpg hz.2 ey;have rpi:Rp K H ((t,some (.ref a))::(q2,some y)::(t,some (.ref a))::(u,some (.ref b))::Γ):=rph.perm (by refine r_ ?_ (Nd _ _ _);refine .cons _ ?_;refine r_ (Nd _ _ _) ?_;exact .cons _ (Nd _ _ _))
   obtain⟨a',vs,ea,ha,la,rpj⟩:=aD e1 rpi;cases ea;obtain⟨x,ex⟩:=pP la hz.1;have rpk:=kc rpj hz.1 ex;refine⟨⟨vs,ws,x,y,ha,hb,ex,ey⟩,λv H' hy=>?_⟩;obtain⟨p,x',y',hp,ev,eH,h1,h2⟩:=hy;have ex':=h1 vs ha;have ey':=h2 ws hb;rw[ex]at ex';rw[ey]at ey';cases ex';cases ey';subst ev;subst eH;exact CH rpk (dg hp _) aU
 stop:=λH Γ rp=>by have rp0:Rp K H ((t,some (.ref a))::(u,some (.ref b))::Γ):=rp;obtain⟨a',vs,ea,ha,la,_⟩:=aD e1 rp0;obtain⟨b',ws,eb,hb,lb,_⟩:=aD e2 rp0.tail;cases ea;cases eb;refine⟨vs,ws,ha,hb,?_⟩;rw[a_,List.length_zip,la,lb];lia
theorem J2{x1:Nat}{tp:Pos}(hg:Gl X "zip")(hm:X.mg "zip"=none)(ha:GA X [a,b] fr)(hs:Ru [a,b] X.env=[(false,RF a X.env),(false,RF b X.env)]:=by rfl)(hs2:Ru [b] X.env=[(false,RF b X.env)]:=by rfl) :
  GI X (.Tuple es x1 tp) (.Call (.Name "zip" p) [a,b] [] pos) (iZp fr):=by
 rintro ac s σ H R I ⟨env,Fr,k,rs,q,c⟩;refine HJ hg hm ha hs hs2 ac s σ H R I ⟨env,Fr,_,rs,q,λts al vs H1 q1 l ii=>?_⟩;rcases ts with _|⟨t,_|⟨u,_|⟨t3,ts⟩⟩⟩ <;> try exact q1.elim
 obtain⟨v,w,rfl⟩:=zz2 l rfl;obtain⟨as,ea,q2⟩:=aF q1;obtain⟨bs,eb,kt⟩:=aF q2;have ii:Rs X.K H1 al σ ((t,some v)::(u,some w)::Fr):=ii;have r2:Rs X.K H1 al σ ((er t,some v)::(u,some w)::Fr):=.of ii.1 (mE ii.head);have r3:Rs X.K H1 al σ ((er u,some w)::(er t,some v)::Fr):=.of ii.1 (mE (r2.perm (.swap _ _ _)).head);have r4:=r3.perm (.swap _ _ _);obtain⟨e1,_⟩:=mH ea;obtain⟨e2,_⟩:=mH eb;obtain⟨a',xs,rfl,hq,l1,_⟩:=aD e1 r4.head;obtain⟨b',ys,rfl,hq2,l2,_⟩:=aD e2 r3.head;exact⟨_,a',_,b',rfl,⟨xs,hq⟩,⟨ys,hq2⟩,c _ _ _ [(er t,_),(er u,_)] _ kt r4 (Jx e1 e2 (aI t) (aI u))⟩
def iEn(fr:PFs):PIt:=λenv k=>fr env λts al=>match ts with
 | [t]=>got (items t) λas=>k ((p_ as.length).zipWith (λ(i:Nat) (x:T)=>T.tup [.int (i:Int),x]) (erL as)) al
 | _=>False
theorem IV{a:Ra}(e1:items t=some as)(n1:aK t=true) :
  ItOk K (Ite K (kD t) a) ((p_ as.length).zipWith (λ(i:Nat) (x:T)=>T.tup [.int (i:Int),x]) as) [(t,some (.ref a))] where
 turn:=λi w H Γ ei rp=>by
  have rp0:Rp K H ((t,some (.ref a))::Γ):=rp;rw[Pm]at ei;cases h1:(p_ as.length)[i]? with
  |none=>rw[h1]at ei;cases ei
  |some j=>
   cases h2:as[i]? with
   |none=>rw[h1,h2]at ei;cases ei
   |some u=>
    rw[h1,h2]at ei;cases ei;have hi:i<as.length:=(e_.mp h2).1;rw[Mw hi]at h1;cases h1;obtain⟨a',vs,ea,ha,la,ge⟩:=aD e1 (jB rp0 n1);cases ea;obtain⟨x,ex⟩:=pP la h2;have gl:=kc ge h2 ex;refine⟨⟨vs,x,ha,ex⟩,λv H' hy=>?_⟩;obtain⟨p,x',hp,ev,eH,h3⟩:=hy;have ex':=h3 vs ha;rw[ex]at ex';cases ex';subst ev;subst eH;exact CH (dk gl λ_=>.int) (dg hp _) aU
 stop:=λH Γ rp=>by have rp0:Rp K H ((t,some (.ref a))::Γ):=rp;obtain⟨a',vs,ea,ha,la,_⟩:=aD e1 rp0;cases ea;refine⟨vs,ha,?_⟩;rw[PJ,B_,la,OY]
theorem yR{x1:Nat}{tp:Pos}(hg:Gl X "enumerate")(hm:X.mg "enumerate"=none)(ha:GA X [a] fr)(hs:Ru [a] X.env=[(false,RF a X.env)]:=by rfl) :
  GI X (.Tuple es x1 tp) (.Call (.Name "enumerate" p) [a] [] pos) (iEn fr):=by
 rintro ac s σ H R I ⟨env,Fr,k,rs,q,c⟩;refine Es hg hm ha hs ac s σ H R I ⟨env,Fr,_,rs,q,λts al vs H1 q1 l ii=>?_⟩;rcases ts with _|⟨t,_|⟨t2,ts⟩⟩
 ·exact q1.elim
 ·obtain⟨v,rfl⟩:=zz1 l rfl;obtain⟨as,ea,kt⟩:=aF q1;have ii:Rs X.K H1 al σ ((t,some v)::Fr):=ii;have r2:Rs X.K H1 al σ ((er t,some v)::Fr):=.of ii.1 (mE ii.head);obtain⟨e1,_⟩:=mH ea;obtain⟨a',xs,rfl,hq,l1,_⟩:=aD e1 r2.head;rw[<-pq as]at kt;exact⟨_,a',rfl,⟨xs,hq⟩,c _ _ _ [(er t,_)] _ kt r2 (IV e1 (aI t))⟩
 exact q1.elim
end
open PySem PySem.Spec PyProof.Rows L2
noncomputable def frA(fr:List (Option Nat)):List Arg:=fr.map λo=>match o with
 |some j=>.bor j
 |none=>.val .any
noncomputable def κc(fr:List (Option Nat))(j:Nat):Bool:=match fr[j]? with
 |some (some _)=>true
 | _=>false
theorem k7:∀(fr:List (Option Nat)) (σ:L2.St),nF (frA fr) (i8 fr σ) σ
 | [],σ=>trivial
 |none::r,σ=>k7 r σ
 |some j::r,σ=>by
  refine⟨?_,k7 r σ⟩;by_cases h:j<σ.length
  ·refine .inl ?_;show σ[j]?=some ((σ[j]?).join);rw[b_ h]
   rfl
  exact .inr (by lia)
theorem mf:∀(fr:List (Option Nat)) (τ τ':List (Option V)) (σ:L2.St),τ'.length=τ.length->(∀j,κc fr j=true->τ'[j]?=τ[j]?)->nF (frA fr) τ σ->nF (frA fr) τ' σ
 | [],[],τ',σ,l,_,_=>by
  have:τ'=[]:=by cases τ' with|nil=>rfl|cons _ _=>cases l
  subst this
  trivial
 | [],_::_,_,_,_,_,o=>o.elim
 |none::r,[],_,_,_,_,o=>o.elim
 |some j::r,[],_,_,_,_,o=>o.elim
 |none::r,x::τ,[],σ,l,_,_=>by cases l
 |some j::r,x::τ,[],σ,l,_,_=>by cases l
 |none::r,x::τ,y::τ',σ,l,k,o=>mf r τ τ' σ (by simpa using l) (λj hj=>by simpa using k (j+1) hj) o
 |some i::r,x::τ,y::τ',σ,l,k,o=>by
  have e:y=x:=by have:=k 0 rfl;simpa using this
  subst e;exact⟨o.1,mf r τ τ' σ (by simpa using l) (λj hj=>by simpa using k (j+1) hj) o.2⟩
def Gw(fr:List (Option Nat))(be:List T)(g:PG')(ft:PB)(fe:PF)(al:Ev)(k:T->Ev->Prop):Prop:=be.length<sizeLine/\∃W:Nat->List T->Ev->Prop,W 0 [] (lend (frA fr) al).1/\
 (∀i t acc ie,W i acc ie->be[i]?=some t->g t ie λie2=>ft ie2 λb ie3=>cnd b (fe ie3 λu ie4=>W (i+1) (acc++[u]) ie4) (W (i+1) acc ie3))/\
 ∀acc ie,W be.length acc ie->k (.lst true acc) (back (frA fr) ie (lend (frA fr) al).2)
def uW(fr:List (Option Nat))(fi:PIt)(g:PG')(ft:PB)(fe:PF):PF:=λenv k=>fi env λbe al=>Gw fr be g ft fe al k
theorem sT:∀fr:List (Option Nat),(frA fr).map qR=fr.map λ_=>T.any
 | []=>rfl
 |none::r=>by show T.any::(frA r).map qR=T.any::r.map λ_=>T.any;rw[sT r]
 |some j::r=>by show T.any::(frA r).map qR=T.any::r.map λ_=>T.any;rw[sT r]
theorem zY{K:Rb}{H:Hp}{Γ:Fm}:∀(fr:List (Option Nat)) (xs:List (Option V)),Rp K H Γ->Rp K H ((fr.map λ_=>T.any).zip xs++Γ)
 | [],xs,h=>h
 | _::r,[],h=>h
 | _::r,x::xs,h=>kX (zY r xs h)
theorem FJ(fr:List (Option Nat)):(frA fr).length=fr.length:=by unfold frA;rw[a_]
theorem wM(fr:List (Option Nat))(σ:L2.St):(i8 fr σ).length=fr.length:=by unfold i8;rw[a_]
variable {fe:PF}{fi:PIt}{fr:List (Option Nat)}
theorem x4{g:PG'}{ft:PB}:∀ σ H Q,wE K (uW fr fi g ft fe) σ H Q->yA (wI K fi) fr (λ_ _ _=>wG K (κc fr) g) (λ_ _ _=>wB K ft) (λ_ _ _=>wE K fe) σ H Q:=by
 rintro σ H Q ⟨env,Fr,k,rs,q,c⟩;refine⟨env,Fr,_,rs,q,?_⟩;rintro be al J Fg H1 ⟨hz,W,w0,wt,we⟩ ii ok;intro p hp s3 H3' fp;have l0:Rs K H1 al σ (((frA fr).map qR).zip (i8 fr σ)++(Fg++Fr)):=⟨ii.1,by refine Rp.perm ?_ (q_ _ _ _);rw[sT];exact zY fr _ ii.2⟩
 have l1:=mP (k7 fr σ) l0;obtain⟨ie0,ou,e0⟩:∃ie0 ou,lend (frA fr) al=(ie0,ou):=⟨_,_,rfl⟩;have lie:ie0.length=(i8 fr σ).length:=by have:=kM (frA fr) al;rw[e0,FJ]at this;rw[wM];exact this
 rw[e0]at l1 w0;have rp0:Rp K (upd H1 p (.lst [])) ((.lst true [],some (.ref p))::(ie0.zip (i8 fr σ)++(Fg++(ou.zip σ++Fr)))):=by refine jm (ts:=[]) (vs:=[]) (l1.2.perm ?_) rfl hp (dg hp _) aU;show QD (ou.zip σ++(ie0.zip (i8 fr σ)++(Fg++Fr))) (ie0.zip (i8 fr σ)++(Fg++(ou.zip σ++Fr)));exact(q_ _ _ _).trans ((q_ _ _ _).append_left _)
 refine⟨λi m f8 H'=>∃acc ie,W i acc ie/\Rs K H' ie f8 ((.lst true acc,some (.ref p))::(Fg++(ou.zip σ++Fr)))/\Kept (κc fr) (i8 fr σ) f8/\m+i=be.length/\acc.length<=i,⟨be.length,[],ie0,w0,.of lie rp0,.refl,rfl,c_ _⟩,?_⟩;rintro i m σ1 H2 ⟨acc,ie,w2,rs2,k2,hm,ha⟩;have ge:Rp K H2 (Fg++((.lst true acc,some (.ref p))::(ie.zip σ1++(ou.zip σ++Fr)))):=by refine rs2.head.perm ?_;refine r_ ?_ f'.symm;exact .cons _ (q_ _ _ _)
 by_cases hlt:i<be.length
 ·have ei:be[i]?=some be[i]:=b_ hlt;obtain⟨hgo,hy⟩:=ok.turn i be[i] H2 _ ei ge;refine .inr ⟨hgo,λx H' hx=>?_⟩;have gl:=hy x H' hx;have rs3:Rs K H' ie σ1 ((be[i],some x)::((.lst true acc,some (.ref p))::(Fg++(ou.zip σ++Fr)))):=.of rs2.1 (gl.perm (.cons _ (by refine f'.trans ?_;refine r_ ?_ f'.symm;exact .cons _ (q_ _ _ _))))
  refine⟨be[i],ie,_,_,rs3,wt i be[i] acc ie w2 ei,λie3 σ3 H3 q3 rs4 k4=>?_⟩;refine⟨ie3,_,_,rs4,q3,λb ie4 H4 q4 rs5=>kg ⟨λhb=>?_,λhb=>?_⟩⟩
  ·refine⟨ie4,_,_,rs5,q4.1 hb,λu ie5 v H5 q5 rs6=>?_⟩;have r7:=rs6.perm (.swap _ _ _);obtain⟨a',ys,ea,hys,ly,r8⟩:=jj r7.head;cases ea;refine⟨ys,hys,by rw[<-ly];exact MC ha (NX hlt hz),m-1,by lia,acc++[u],ie5,q5,.of r7.1 ?_,k2.trans k4,by lia,by rw[n_];simp;omega⟩;refine jK (ts:=acc++[u]) (vs:=ys++[v]) (r8.perm (.cons _ ?_)) (by rw[n_,n_,ly];rfl) Put.up;rw[m5 ly,w_];refine MX _ ?_;exact f'
  exact⟨m-1,by lia,acc,ie4,q4.2 hb,rs5,k2.trans k4,by lia,by lia⟩
 have:i=be.length:=by lia
 subst this;refine .inl ⟨ok.stop H2 _ ge,c _ _ _ _ (we acc ie w2) ?_⟩;rw[e0];have ao:nF (frA fr) σ1 σ:=mf fr (i8 fr σ) σ1 σ k2.1 k2.2 (k7 fr σ);refine mQ ao (env:=ou) ⟨l1.1,?_⟩;refine ge.part.perm ?_;refine r_ ?_ (q_ _ _ _);refine r_ f'.symm ?_;exact MX _ f'.symm
def GTs(X:Cx)(ifs:List Rr)(f:PB):Prop:=PTs X ifs (wB X.K f)
noncomputable def lB:PB:=λenv k=>k true env
theorem d5{X:Cx}:GTs X [] lB:=by rintro ac s σ H Q I ⟨env,Fr,k,rs,q,c⟩;exact F5 ac s σ H Q I (c _ _ _ q rs)
theorem lC{f:PB}(h:GT X c f):GTs X [c] f:=FW h
theorem d9{X:Cx}{N ps:List Str}{esc:Se}(S:FnScope N ps esc)(N':List Str)(fr:List (Option Nat))(nd:N'.Nodup){elt target iter:Rr}{ifs:List Rr}{sc:Se}{pos:Pos}{fi:PIt}{g:PG'}{ft:PB}{fe:PF}(C:kY N esc sc N' fr=true)
  (hi:GI X target iter fi) (hg:∀s3 H3 fp,GG (κc fr) (bg X N' sc s3 H3 fp) target g) (ht:∀s3 H3 fp,GTs (bg X N' sc s3 H3 fp) ifs ft) (he:∀s3 H3 fp,GE (bg X N' sc s3 H3 fp) elt fe)
  (hc:X.calm=true:=by rfl) (hN:X.N=N:=by rfl) (hS:X.env.scope=esc:=by rfl) (hs:∀x,Sb iter X.env x=pure x:=by intro _;rfl):GE X (.ListComp elt [⟨target,iter,ifs,0⟩] sc pos) (uW fr fi g ft fe):=
 PE.imp (Bq S N' fr nd C hi hg ht he hc hN hS hs) x4
variable {N:List Str}{ifs:List Rr}{target:Rr}
theorem FI{esc:Se}(S:FnScope N ps esc){x:Str}(N':List Str)(fr:List (Option Nat))(nd:N'.Nodup){elt:Rr}{sc:Se}{lw:Pos}{g:PG'}{ft:PB}(C:kY N esc sc N' fr=true)
  (hi:X.N[i]?=some x) (hx:Loc X.env.scope x) (hκ:κ i=false) (hit:GI X target iter fi) (hg:∀s3 H3 fp,GG (κc fr) (bg X N' sc s3 H3 fp) target g) (ht:∀s3 H3 fp,GTs (bg X N' sc s3 H3 fp) ifs ft) (he:∀s3 H3 fp,GE (bg X N' sc s3 H3 fp) elt fe)
  (hsw:Ub (.ListComp elt [⟨target,iter,ifs,0⟩] sc lw) (some (.Name x pos')) pos.line X.env=pure true) (hf:X.fn x=true:=by rfl)
  (hc:X.calm=true:=by rfl) (hN:X.N=N:=by rfl) (hS:X.env.scope=esc:=by rfl) (hs:∀x,Sb iter X.env x=pure x:=by intro _;rfl):GS κ X (.Assign [.Name x pos'] (.ListComp elt [⟨target,iter,ifs,0⟩] sc lw) pos) (F8 i (uW fr fi g ft fe)):=by
 refine PS.imp (zp S N' fr nd C hi hx hit hg ht he hsw hf hc hN hS hs) ?_;rintro D σ H ⟨env,Fr,pe,rs,q,c⟩;exact x4 σ H _ ⟨env,Fr,_,rs,q,λt bm v H' q1 ii=>c.nx _ _ _ q1 ii.put (.set hκ)⟩
abbrev PM:=T->List T->(T->T->Prop)->Prop
def MtP(X:Cx)(id:String)(m:PM):Prop:=MtM X id (λx xs H Q=>∃t ts Γ k,ts.length=xs.length/\Rp X.K H ((t,some x)::(zz ts xs++Γ))/\m t ts k/\∀t' r v H',k t' r->Rp X.K H' ((r,some v)::(t',some x)::Γ)->Q v H')
noncomputable def isL:T->Bool
 | .lst _ _=>true
 | _=>false
def ye(i:Nat)(m:PM)(fr:PFs):PF:=λenv k=>got (env[i]?) λt0=>isL t0=true/\fr env λts al=>got (al[i]?) λt=>m t ts λt' r=>k r (al.set i t')
variable {xp:Pos}
section
variable{X:Cx}{e o:Rr}{es:List Rr}{fr:PFs}{fe:PF}{m:PM}{name:Str}{id:String}{apos lv pos:Pos}
theorem yv(h:isL t=true)(rp:Rp X.K H ((t,some v)::Γ)):tyV X.K "list" v H:=by
 cases t <;> first|cases h|skip
 obtain⟨a,vs,rfl,hq,l,_⟩:=mS rp;exact .inl ⟨rfl,vs,.inl hq⟩
theorem Ey(h:isL t=true):isAny t=false:=by cases t <;> first|rfl|cases h
theorem Hg:∀ σ H Q,wE X.K (ye i m fr) σ H Q->tBM X.K "list" (λx xs H Q=>∃t ts Γ k,ts.length=xs.length/\Rp X.K H ((t,some x)::(zz ts xs++Γ))/\m t ts k/\∀t' r v H',k t' r->Rp X.K H' ((r,some v)::(t',some x)::Γ)->Q v H') (CU i) (wA X.K fr) σ H Q:=by
 rintro σ H Q ⟨env,Fr,k,rs,q,c⟩;obtain⟨t0,e0,hl,q⟩:=aF q;obtain⟨y,ey,rs2⟩:=rs.slot e0;obtain⟨v,rfl⟩:=ik rs2 (Ey hl);refine⟨v,ey,yv hl rs2.head,env,Fr,_,rs,q,λts al vs H1 q1 l ii=>?_⟩;obtain⟨t,et,q1⟩:=aF q1;obtain⟨y',ey',rs3⟩:=ii.slot et;rw[ey]at ey';cases ey';have hi:i<al.length:=(e_.mp et).1;refine⟨t,ts,(al.set i .any).zip σ++Fr,_,l,?_,q1,λt' r w H' kt rp=>c _ _ _ _ kt ?_⟩
 ·refine rs3.head.perm (.cons _ ?_);exact q_ _ _ _
 have r4:Rs X.K H' (al.set i .any) σ ((t',some v)::(r,some w)::Fr):=.of rs3.1 (rp.perm (by refine r_ (.swap _ _ _) ?_;exact .cons _ f'.symm))
 have r5:=Rs.kU (i:=i) r4 (by rw[Mc];exact hi) ey;rw[Ox]at r5;exact r5
theorem lH(i:Nat){x:Str}(slot:Yg "list" name id)(hty:XU (.builtin id)=pure (.type "method_descriptor"))(hm:MtP X id m)(ha:GA X (e::es) fr)(hN:X.N[i]?=some x:=by rfl)(hv:Vis X.env.scope x:=by first|exact f_ rfl|exact m_ (f_ rfl)|exact m_ (m_ rfl))(hd:(x ==("__debug__":Str))=false:=by decide)(hcd:(x ==("__classdict__":Str))=false:=by decide)
  (hbase:T4 (.Name x xp) name X.env (RF (.Name x xp) X.env)=RF (.Name x xp) X.env:=by rfl)
  (hfew:((Ta lv (Ru (e::es) X.env)).all (λx=>!x.1)&&(Xu lv (V3 [] X.env)).all (λx=>x.1.isSome)&&decide ((e::es).length+([]:List UY).length+(if([]:List UY).isEmpty then 0 else 1)<30))=true:=by rfl)
  (hline:(apos.endLine == lv.line)=true:=by rfl) (hs:Ru (e::es) X.env=(false,RF e X.env)::Ru es X.env:=by rfl) (hplain:(Ta lv (Ru es X.env)).any (·.1)=false:=by rfl) :
  GE X (.Call (.Attribute (.Name x xp) name apos) (e::es) [] lv) (ye i m fr):=PE.imp (GH Um slot hty hm (jq hN hv hd hcd) ha hbase hfew hline hs hplain) Hg
theorem CL(i:Nat){x:Str}(slot:Yg "list" name id)(hty:XU (.builtin id)=pure (.type "method_descriptor"))(hm:MtP X id m)(hN:X.N[i]?=some x:=by rfl)(hv:Vis X.env.scope x:=by first|exact f_ rfl|exact m_ (f_ rfl)|exact m_ (m_ rfl))(hd:(x ==("__debug__":Str))=false:=by decide)(hcd:(x ==("__classdict__":Str))=false:=by decide)
  (hbase:T4 (.Name x xp) name X.env (RF (.Name x xp) X.env)=RF (.Name x xp) X.env:=by rfl) (hline:(apos.endLine == lv.line)=true:=by rfl) :
  GE X (.Call (.Attribute (.Name x xp) name apos) [] [] lv) (ye i m HF):=by
 refine PE.imp (Ij Um slot hty hm (jq hN hv hd hcd) hbase hline) λσ H Q h=>?_;obtain⟨v,ev,ty,env,Fr,k,rs,q,c⟩:=Hg σ H Q h;exact⟨v,ev,ty,c [] env [] H q rfl rs⟩
noncomputable def sS:PM
 | .lst true ts,[t],k=>ts.length<sizeLine/\k (.lst true (ts++[t])) .non
 | _,_,_=>False
noncomputable def sV:PM
 | .lst true ts,[.lst true us],k=>ts.length+us.length<=sizeLine/\k (.lst true (ts++us)) .non
 | _,_,_=>False
noncomputable def qN:PM
 | .lst true ts,[],k=>k (.lst true ts.reverse) .non
 | _,_,_=>False
theorem iD:MtP X "list.append" sS:=by
 rintro ac s σ H x xs v us Q I rx r ⟨t,ts,Γ,k,l,rp,g,c⟩;unfold sS at g;split at g
 ·rename_i k ts t;obtain⟨y,rfl⟩:=zz1 l rfl;obtain⟨a,vs,ea,ha,la,ge⟩:=jj rp;cases ea;refine xy ac s σ H _ _ v us Q I rx r ⟨a,vs,y,rfl,rfl,ha,by rw[<-la];exact g.1,λH' hp=>c _ _ _ _ g.2 (dk ?_ λ_=>.non)⟩;refine jK (ts:=ts++[t]) (vs:=vs++[y]) ?_ (by rw[n_,n_,la];rfl) hp;rw[m5 la,w_];exact ge
 exact Rt g
theorem wZ:MtP X "list.extend" sV:=by
 rintro ac s σ H x xs v us Q I rx r ⟨t,ts,Γ,k,l,rp,g,c⟩;unfold sV at g;split at g
 ·rename_i k ts us';obtain⟨y,rfl⟩:=zz1 l rfl;obtain⟨a,vs,ea,ha,la,ge⟩:=jj rp;cases ea;have gl:Rp X.K H ((.lst true us',some y)::(.bare,some (.ref a))::(zz ts vs++Γ)):=ge.perm (by refine r_ (.cons _ f') ?_;exact .swap _ _ _)
  obtain⟨b,ws,eb,hb,lb,rp4⟩:=jj gl;cases eb;have rp5:Rp X.K H ((.bare,some (.ref a))::(zz (ts++us') (vs++ws)++Γ)):=by rw[m5 la,w_];refine rp4.tail.perm ?_;refine f'.trans (.cons _ ?_);exact q_ _ _ _
  exact xO ac s σ H _ _ v us Q I rx r ⟨a,b,vs,ws,rfl,rfl,ha,hb,by rw[<-la,<-lb];exact g.1,λH' hp=>c _ _ _ _ g.2 (dk (jK rp5 (by rw[n_,n_,la,lb]) hp) λ_=>.non)⟩
 exact Rt g
theorem E3:∀{ts:List T}{vs:List V},ts.length=vs.length->zz ts.reverse vs.reverse=(zz ts vs).reverse
 | [],[],_=>rfl
 | [],_::_,l=>by cases l
 | _::_,[],l=>by cases l
 |t::ts,v::vs,l=>by
  have l':ts.length=vs.length:=by simpa using l
  rw[Nb,Nb,m5 (by rw[ML,ML];exact l'),E3 l'];show _=((t,some v)::zz ts vs).reverse;rw[Nb]
  rfl
theorem vX:MtP X "list.reverse" qN:=by
 rintro ac s σ H x xs v us Q I rx r ⟨t,ts,Γ,k,l,rp,g,c⟩;unfold qN at g;split at g
 ·rename_i k ts;have:xs=[]:=by cases xs with|nil=>rfl|cons _ _=>cases l
  subst this;obtain⟨a,vs,ea,ha,la,ge⟩:=jj rp;cases ea;refine xX ac s σ H _ _ v us Q I rx r ⟨a,vs,rfl,rfl,ha,c _ _ _ _ g (dk (jK (ts:=ts.reverse) (vs:=vs.reverse) (ge.perm (.cons _ ?_)) (by rw[ML,ML,la]) Put.up) λ_=>.non)⟩;rw[E3 la];exact(List.reverse_perm _).symm.append_right _
 exact Rt g
end
noncomputable def outs(ms:List Bool)(env:Ev):List T:=ms.zipWith (λb t=>if b then t else .any) env
noncomputable def κm(ms:List Bool)(j:Nat):Bool:=match ms[j]? with
 |some b=>b
 |none=>false
theorem nI{K:Rb}{H:Hp}{Γ:Fm}:∀{ms:List Bool}{env:Ev}{σ:L2.St}{vs:List V},ms.length=vs.length->(∀j,κm ms j=true->σ[j]?=(vs[j]?).map some)->Rp K H (env.zip σ++Γ)->Rp K H (zz (outs ms env) vs++Γ)
 | [],env,σ,vs,l,k,h=>h.part
 | _::_,_,_,[],l,_,_=>by cases l
 |m::ms,[],σ,v::vs,l,k,h=>h
 |m::ms,t::env,[],v::vs,l,k,h=>by
  have ih:=nI (ms:=ms) (env:=env) (σ:=[]) (vs:=vs) (by simpa using l) (λj hj=>by have:=k (j+1) hj;simpa using this) (by simpa using h)
  cases m with
  |true=>have:=k 0 rfl;simp at this
  |false=>exact kX ih
 |m::ms,t::env,x::σ,v::vs,l,k,h=>by
  have h:Rp K H ((t,x)::(env.zip σ++Γ)):=h;have ks:∀j,κm ms j=true->σ[j]?=(vs[j]?).map some:=λj hj=>by have:=k (j+1) hj;simpa using this
  cases m with
  |true=>
   have e:x=some v:=by have:=k 0 rfl;simpa using this
   subst e;have h2:Rp K H (env.zip σ++((t,some v)::Γ)):=h.perm f'.symm;exact(nI (ms:=ms) (by simpa using l) ks h2).perm f'
  |false=>exact kX (nI (ms:=ms) (by simpa using l) ks h.tail)
theorem BZ(l:ts.length=vs.length)(n:Nat)(h:Rp K H (zz ts vs++Γ)):Rp K H ((ts++B' n T.any).zip (vs.map some++B' n none)++Γ):=by
 rw[Qu (by rw[a_];exact l),w_];have:∀n,Rp K H (zz ts vs++((B' n T.any).zip (B' n (none:Option V))++Γ)):=by
  intro n;induction n with
  |zero=>exact h
  |succ n ih=>
   rw[Mv,Mv];exact(kX (x:=none) ih).perm f'.symm
 exact this n
theorem cv{P:Rj}{mg:Str->Option Q_}{base:Rq}{x qual:Str}{f:Ra}{fd:Rx}{k:Nat}{Pr:FP}(F:Fun K x qual st f fd)(S:FnScope N ps (av st))(ms:List Bool)(hms:ms.length=ps.length)
  (body:∀(cdv:Q_) (A:Rw) (outer:List Env) (s:Rf) (H:Hp) (E:XK),Room k (A.deeper (UI qual (av st) s.heap.objs.size f cdv))->
   ∃fb,GSs (κm ms) (xK CX0 P w K mg base N qual (av st) f cdv A outer s H E).nox (iG st) fb/\∀ts kk,ts.length=ps.length->Pr ts kk->fb { nx:=λenv=>kk .non (outs ms env),rt:=λt env=>kk t (outs ms env) } (ts++B' (N.length-ps.length) .any)) :
  FnOk P w K mg base CX0 (k+1) f fd ps (aG K ps.length Pr):=by
 refine F.ok S (by rintro vs H Q E ⟨ts,Fr,kk,h1,h2,_⟩;exact h2) ?_;rintro cdv A outer s H vs Q E hr ⟨ts,Fr,kk,h1,h2,rp,pr,c⟩;obtain⟨fb,hb,q⟩:=body cdv A outer s H E hr;refine⟨_,hb,ts++B' (N.length-ps.length) .any,Fr,_,?_,q ts kk (by rw[h1,h2]) pr,?_⟩
 ·unfold L2.start;rw[h2];refine⟨by simp[h1],BZ h1 _ rp⟩
 have kv:∀{f8},Kept (κm ms) (L2.start N vs) f8->∀j,κm ms j=true->f8[j]?=(vs[j]?).map some:=λ{f8} kp j hj=>by
  rw[kp.2 j hj];unfold L2.start;have hj2:j<vs.length:=by
   rw[h2,<-hms];unfold κm at hj;split at hj
   ·rename_i b e;exact(e_.mp e).1
   cases hj
  rw[OT (by rw[a_];exact hj2),o_]
 refine⟨λbm f8 H' q' rs' k'=>c _ _ _ _ q' ?_,λt bm v f8 H' q' rs' k'=>c _ _ _ _ q' ?_,λ_ _ _ z=>z.elim,λ_ _ _ z=>z.elim⟩
 ·exact dk (nI (by rw[hms,h2]) (kv k') rs'.2) λ_=>.non
 exact(nI (Γ:=(t,some v)::Fr) (by rw[hms,h2]) (kv k') rs'.2).perm f'
open PySem PySem.Spec PyProof.Rows L2
section
variable{X:Cx}{pos:Pos}
theorem CJ{te:TE}(h:PS X st (Eo te (zf i))):PS X st (λD σ H=>te σ H λv H'=>Gr H H'/\D.nx (σ.set i (some v)) (over H H')):=by
 intro ac s σ H D I q;have key:=h ac s σ H { nx:=λf8 H'=>Gr H H'/\D.nx f8 (over H H'),rt:=λ_ _=>False} I q;refine thn key λf s' hs=>?_;cases f with
 |next=>
  obtain⟨f8,H',I',g,q'⟩:=hs;exact⟨f8,over H H',qc I I' g,q'⟩
 |brk=>obtain⟨_,_,_,z⟩:=hs;exact z.elim
 |cont=>obtain⟨_,_,_,z⟩:=hs;exact z.elim
 |ret u=>obtain⟨_,_,_,_,_,z⟩:=hs;exact z.elim
theorem Fz{f:PF}{σ:L2.St}{Q:VK}(h:wE K (fQ f) σ H Q):wE K f σ H λv H'=>Gr H H'/\Q v (over H H'):=by
 obtain⟨env,Fr,k,rs,q,c⟩:=h;have rv:Rs K H (erL env) σ ((Fr.map λp=>(er p.1,p.2))++[(.kp H,some .non)]):=by refine⟨by rw[pq];exact rs.1,?_⟩;have:=tK rs.2;rw[z_,pA,w_]at this;exact this
 refine⟨erL env,_,_,rv,q,?_⟩;rintro t bm v H' ⟨n,kt⟩ rs';obtain⟨g,r2⟩:=sM rs.2 (Δ:=bm.zip σ++(Fr.map λp=>(er p.1,p.2))) (by rw[w_];exact rs'.head) n;exact⟨g,c t env v _ kt (.of rs.1 r2)⟩
theorem jP{esc:Se}(S:FnScope N ps esc){x:Str}{pos:Pos}(N':List Str)(fr:List (Option Nat))(nd:N'.Nodup){elt:Rr}{sc:Se}{lw:Pos}{g:PG'}{ft:PB}(C:kY N esc sc N' fr=true)
  (hi:X.N[i]?=some x) (hx:Loc X.env.scope x) (hκ:κ i=false) (hit:GI X target iter fi) (hg:∀s3 H3 fp,GG (κc fr) (bg X N' sc s3 H3 fp) target g) (ht:∀s3 H3 fp,GTs (bg X N' sc s3 H3 fp) ifs ft) (he:∀s3 H3 fp,GE (bg X N' sc s3 H3 fp) elt fe)
  (hsw:Ub (.ListComp elt [⟨target,iter,ifs,0⟩] sc lw) (some (.Name x pos')) pos.line X.env=pure true) (hf:X.fn x=true:=by rfl)
  (hc:X.calm=true:=by rfl) (hN:X.N=N:=by rfl) (hS:X.env.scope=esc:=by rfl) (hs:∀x,Sb iter X.env x=pure x:=by intro _;rfl):GS κ X (.Assign [.Name x pos'] (.ListComp elt [⟨target,iter,ifs,0⟩] sc lw) pos) (F8 i (fQ (uW fr fi g ft fe))):=by
 refine PS.imp (CJ (zp S N' fr nd C hi hx hit hg ht he hsw hf hc hN hS hs)) ?_;rintro D σ H ⟨env,Fr,pe,rs,q,c⟩;exact x4 σ H _ (Fz (Q:=λv H'=>D.nx (σ.set i (some v)) H') ⟨env,Fr,_,rs,q,λt bm v H' q1 ii=>c.nx _ _ _ q1 ii.put (.set hκ)⟩)
def Glb(K:Rb)(mg:Str->Option Q_)(x:Str)(t:T):Prop:=∃v u,mg x=some u/\RelV v u/\∀Hz H,RepT K Hz H t v []
theorem Kd{x:Str}(G:Glb X.K X.mg x t)(hg:Gl X x)(hd:(x ==("__debug__":Str))=false:=by decide):GE X (.Name x pos) (fK t):=by obtain⟨v,u,hm,r,ht⟩:=G;exact ET hg hm r ht hd
theorem qL:GE X (.Dict [] [] pos) (fK (.dT true [])):=PE.imp Ce (by rintro σ H Q ⟨env,Fr,k,rs,q,c⟩;exact λp hp=>c _ _ _ _ q (.of rs.1 (G5 rs.2 hp (dg hp _) aU)))
end
section
variable{κ':Type}[DecidableEq κ']
theorem wc:∀{ts:List (κ'×T)}{vs:List (κ'×V)} (q:κ') (t:T) (w:V),ts.map (·.1)=vs.map (·.1)->(iw ts q t).map (·.1)=(putK vs q w).map (·.1):=by
 intro ts vs q t w e;have ha:(ts.any λkv=>decide (kv.1=q))=(vs.any λkv=>decide (kv.1=q)):=by
  have e1:(ts.any λkv=>decide (kv.1=q))=(ts.map (·.1)).any λk=>decide (k=q):=by rw[OZ];rfl
  have e2:(vs.any λkv=>decide (kv.1=q))=(vs.map (·.1)).any λk=>decide (k=q):=by rw[OZ];rfl
  rw[e1,e2,e]
 unfold iw putK;rw[ha];split
 ·rw[F',F'];have f1:((λx:κ'×T=>x.1) ∘ λkv=>if kv.1=q then(kv.1,t)else kv)=λx=>x.1:=by funext kv;show(if kv.1=q then(kv.1,t)else kv).1=kv.1;split <;> rfl
  have f2:((λx:κ'×V=>x.1) ∘ λkv=>if kv.1=q then(kv.1,w)else kv)=λx=>x.1:=by funext kv;show(if kv.1=q then(kv.1,w)else kv).1=kv.1;split <;> rfl
  rw[f1,f2,e]
 rw[z_,z_,e]
 rfl
theorem rE:∀{ts:List (κ'×T)}{vs:List (κ'×V)} (q:κ') (t:T) (w:V),ts.map (·.1)=vs.map (·.1)->(vs.map (·.1)).Nodup->∃r,((t,some w)::zz (ts.map (·.2)) (vs.map (·.2))).Perm (r++zz ((iw ts q t).map (·.2)) ((putK vs q w).map (·.2))):=by
 intro ts vs q t w e nd;by_cases hm:q∈vs.map (·.1)
 ·
  have ha:(vs.any λkv=>decide (kv.1=q))=true:=by obtain⟨kv,h1,h2⟩:=h_.mp hm;exact MQ.mpr ⟨kv,h1,decide_eq_true h2⟩
  have hb:(ts.any λkv=>decide (kv.1=q))=true:=by rw[<-e]at hm;obtain⟨kv,h1,h2⟩:=h_.mp hm;exact MQ.mpr ⟨kv,h1,decide_eq_true h2⟩
  unfold iw putK;rw[if_pos ha,if_pos hb];clear ha hb;induction ts generalizing vs with
  |nil=>
   have:vs=[]:=by cases vs with|nil=>rfl|cons _ _=>cases e
   subst this;cases hm
  |cons a ts ih=>
   cases vs with
   |nil=>cases e
   |cons b vs=>
    obtain⟨k1,t1⟩:=a;obtain⟨k2,v1⟩:=b;rw[d_,d_,Mu]at e;have ek:k1=k2:=e.1;subst ek;rw[d_,E_]at nd;by_cases hk:k1=q
    ·subst hk;have n1:∀kv∈ts,kv.1≠k1:=λkv hkv z=>nd.1 (by rw[<-e.2];exact h_.mpr ⟨kv,hkv,z⟩)
     have n2:∀kv∈vs,kv.1≠k1:=λkv hkv z=>nd.1 (h_.mpr ⟨kv,hkv,z⟩);have m1:ts.map (λkv=>if kv.1=k1 then(kv.1,t)else kv)=ts:=by
      conv=>rhs;rw[<-Pb ts]
      exact MM λkv hkv=>if_neg (n1 kv hkv)
     have m2:vs.map (λkv=>if kv.1=k1 then(kv.1,w)else kv)=vs:=by
      conv=>rhs;rw[<-Pb vs]
      exact MM λkv hkv=>if_neg (n2 kv hkv)
     refine⟨[(t1,some v1)],?_⟩;simp only[d_,if_true,m1,m2];exact .swap _ _ _
    have hm':q∈vs.map (·.1):=by
     rcases i_.mp hm with z|z
     ·exact absurd z.symm hk
     exact z
    obtain⟨r,p⟩:=ih e.2 nd.2 hm';refine⟨r,?_⟩;simp only[d_,if_neg hk];show QD ((t,some w)::(t1,some v1)::zz (ts.map (·.2)) (vs.map (·.2))) (r++((t1,some v1)::zz ((ts.map λkv=>if kv.1=q then(kv.1,t)else kv).map (·.2)) ((vs.map λkv=>if kv.1=q then(kv.1,w)else kv).map (·.2))));exact(Nd _ _ _).trans ((p.cons _).trans f'.symm)
 have ha:(vs.any λkv=>decide (kv.1=q))=false:=by rw[OR];intro z;obtain⟨kv,h1,h2⟩:=MQ.mp z;exact hm (h_.mpr ⟨kv,h1,of_decide_eq_true h2⟩)
 have hb:(ts.any λkv=>decide (kv.1=q))=false:=by rw[OR];intro z;obtain⟨kv,h1,h2⟩:=MQ.mp z;exact hm (by rw[<-e];exact h_.mpr ⟨kv,h1,of_decide_eq_true h2⟩)
 unfold iw putK;rw[ha,hb];refine⟨[],?_⟩;simp only[I_,if_false,MZ];rw[z_,z_,m5 (by rw[a_,a_];exact fP e)];exact(ND (l₁:=[(t,some w)]))
end
def A1:T->T->T->(T->Prop)->Prop
 | .lst true ts,.int i,v,k=>got (ixN ts.length i) λj=>k (.lst true (ts.set j v))
 | .dK true kvs,y,v,k=>got (xq y) λq=>kvs.length<sizeLine/\k (.dK true (iw kvs q v))
 | .dT true kvs,.tup ks,v,k=>got (iJ ks) λq=>kvs.length<sizeLine/\k (.dT true (iw kvs q v))
 | _,_,_,_=>False
section
variable{X:Cx}{κ:Nat->Bool}{pos:Pos}
theorem CI{P:Rj}{h:Rq}(ok:HOk P w H h)(e:H a=some (.dT kvs)):(kvs.map (·.1)).Nodup:=by
 obtain⟨z,y,xs,r,o,es,ep,h1,h2,h3,h4,h5⟩:=ok a _ e;have:kvs.map (·.1)=xs.map (·.1):=by
  clear h4 h5 h1 z e;induction r with
  |nil=>rfl
  |cons q _ ih=>rw[d_,d_,ih,q.1]
 rw[this];exact h5
theorem Di{P:Rj}{h:Rq}{kvs:List (Key×V)}(ok:HOk P w H h)(e:H a=some (.dK kvs)):(kvs.map (·.1)).Nodup:=by
 obtain⟨z,y,vs,r,o,es,ep,h1,h2,h3,h4,h5,h6⟩:=ok a _ e;have:kvs.map (·.1)=vs.map (·.1):=by
  clear h6 h5 h4 h1 z e;induction r with
  |nil=>rfl
  |cons q _ ih=>rw[d_,d_,ih,q.1]
 rw[this];exact h6
theorem Bz:∀{ts:List T}{vs:List V}{j:Nat}{t:T}{w:V},ts.length=vs.length->j<ts.length->∃r,((t,some w)::zz ts vs).Perm (r::zz (ts.set j t) (vs.set j w))
 | [],vs,j,t,w,l,h=>by cases h
 |a::ts,[],j,t,w,l,h=>by cases l
 |a::ts,b::vs,0,t,w,l,h=>⟨(a,some b),.swap _ _ _⟩
 |a::ts,b::vs,j+1,t,w,l,h=>by obtain⟨r,p⟩:=Bz (ts:=ts) (vs:=vs) (j:=j) (t:=t) (w:=w) (by simpa using l) (by simpa using h);exact⟨r,(Nd _ _ _).trans ((p.cons _).trans (.swap _ _ _))⟩
theorem Lr(hr:Room kr X.A):xh X (λo i v H Q=>∃t ti tv Γ k,Rp X.K H ((t,some o)::(ti,some i)::(tv,some v)::Γ)/\A1 t ti tv k/\∀t' H',k t'->Rp X.K H' ((t',some o)::Γ)->Q H'):=by
 rintro ac s σ H o i v ov iv u Q I ro ri rv ⟨t,ti,tv,Γ,k,rp,g,c⟩;cases t with
 |lst own ts=>
  cases own <;> cases ti <;> first|exact Rt g|skip
  rename_i j;obtain⟨m,em,kt⟩:=aF g;rw[aM rp.tail]at ri;obtain⟨a,vs,ea,ha,la,ge⟩:=jj rp;cases ea;have hm:m<ts.length:=by have:=(tJ em).2.1;exact this
  rw[la]at em;refine Ax ac s σ H _ _ v ov iv u Q I ro ri rv ⟨a,vs,j,m,rfl,rfl,ha,em,λH' hp=>c _ _ kt ?_⟩;obtain⟨r,p⟩:=Bz (t:=tv) (w:=v) la hm;have gl:Rp X.K H ((.bare,some (.ref a))::(zz ts vs++((tv,some v)::Γ))):=by
   have:Rp X.K H ((.int j,some i)::((.bare,some (.ref a))::(zz ts vs++((tv,some v)::Γ)))):=ge.perm (by refine r_ (.cons _ f') ?_;exact .swap _ _ _)
   exact this.tail
  have rp4:Rp X.K H (r::((.bare,some (.ref a))::(zz (ts.set m tv) (vs.set m v)++Γ))):=gl.perm (by refine r_ (.cons _ (f'.trans (p.append_right Γ))) ?_;exact .swap _ _ _)
  exact jK rp4.tail (by rw[Mc,Mc,la]) hp
 |dK own kvs=>
  cases own <;> first|exact Rt g|skip
  have g:got (xq ti) λq=>kvs.length<sizeLine/\k (.dK true (iw kvs q tv)):=by cases ti <;> exact g
  obtain⟨q,eq,hz,kt⟩:=aF g;rw[yd eq rp.tail]at ri;obtain⟨a,vs,ea,ha,la,ge⟩:=uZ rp;cases ea;cases ro;have hl:vs.length<sizeLine:=by rw[<-fP la];exact hz
  refine oF (lU hr) I (.inl ⟨vs,q,ha,rfl,hl,rfl⟩) ri rv λs' I'=>⟨_,I',c _ _ kt ?_⟩;obtain⟨r,p⟩:=rE q tv v la (Di I.hok ha);have gl:Rp X.K H ((.bare,some (.ref a))::(zz (kvs.map (·.2)) (vs.map (·.2))++((tv,some v)::Γ))):=by
   have:Rp X.K H ((ti,some i)::((.bare,some (.ref a))::(zz (kvs.map (·.2)) (vs.map (·.2))++((tv,some v)::Γ)))):=ge.perm (by refine r_ (.cons _ f') ?_;exact .swap _ _ _)
   exact this.tail
  have rp4:Rp X.K H (r++((.bare,some (.ref a))::(zz ((iw kvs q tv).map (·.2)) ((putK vs q v).map (·.2))++Γ))):=gl.perm (by refine r_ (.cons _ (f'.trans (p.append_right Γ))) ?_;rw[w_];exact f'.symm)
  exact rn rp4.part (wc q tv v la) Put.up
 |dT own kvs=>
  cases own <;> cases ti <;> first|exact Rt g|skip
  rename_i ks;obtain⟨q,eq,hz,kt⟩:=aF g;obtain⟨b,rfl,hb⟩:=mY eq rp.tail;obtain⟨a,vs,ea,ha,la,ge⟩:=qS rp;cases ea;cases ro;have hl:vs.length<sizeLine:=by rw[<-fP la];exact hz
  refine oF (lU hr) I (.inr ⟨vs,q,b,ha,rfl,hb,hl,rfl⟩) ri rv λs' I'=>⟨_,I',c _ _ kt ?_⟩;obtain⟨r,p⟩:=rE q tv v la (CI I.hok ha);have gl:Rp X.K H ((.bare,some (.ref a))::(zz (kvs.map (·.2)) (vs.map (·.2))++((tv,some v)::Γ))):=by
   have:Rp X.K H ((.tup ks,some (.ref b))::((.bare,some (.ref a))::(zz (kvs.map (·.2)) (vs.map (·.2))++((tv,some v)::Γ)))):=ge.perm (by refine r_ (.cons _ f') ?_;exact .swap _ _ _)
   exact this.tail
  have rp4:Rp X.K H (r++((.bare,some (.ref a))::(zz ((iw kvs q tv).map (·.2)) ((putK vs q v).map (·.2))++Γ))):=gl.perm (by refine r_ (.cons _ (f'.trans (p.append_right Γ))) ?_;rw[w_];exact f'.symm)
  exact rQ rp4.part (wc q tv v la) Put.up
 | _=>cases ti <;> exact Rt g
def Gz(i:Nat)(fi:PF):PG':=λv env k=>got (env[i]?) λt0=>isAny t0=false/\fi env λti al=>got (al[i]?) λt=>A1 t ti v λt'=>k (al.set i t')
theorem qv{x:Str}{ix:Rr}{fi:PF}(hr:Room kr X.A)(hi:GE X ix fi)(hN:X.N[i]?=some x:=by rfl)(hv:Vis X.env.scope x:=by first|exact f_ rfl|exact m_ (f_ rfl)|exact m_ (m_ rfl))(hd:(x ==("__debug__":Str))=false:=by decide)(hcd:(x ==("__classdict__":Str))=false:=by decide)
  (ha:∀v,Uc (.Subscript (.Name x xp) ix pos) X.env v=(do
   let ov <-TC [v] (RF (.Name x xp) X.env)
   let iv <-TC [v,ov] (RF ix X.env)
   Yc pos
   TC [v,ov,iv] (Yb ov iv v)
   release [v,ov,iv] []):=by intro _;rfl):GG κ X (.Subscript (.Name x xp) ix pos) (Gz i fi):=by
 rintro ac s σ H v u Q I r ⟨tv,env,Fr,k,rs,q,c⟩;obtain⟨t0,e0,na,q⟩:=aF q;obtain⟨y,ey,rs2⟩:=rs.slot e0;obtain⟨w,rfl⟩:=ik rs2 na;refine Cm (jq hN hv hd hcd) hi (Lr hr) ha ac s σ H v u Q I r ⟨w,ey,env,(tv,some v)::Fr,_,rs,q,λti al iv H1 q1 ii=>?_⟩;obtain⟨t,et,q1⟩:=aF q1;obtain⟨y',ey',rs3⟩:=ii.slot et;rw[ey]at ey';cases ey';have hi':i<al.length:=(e_.mp et).1;refine⟨t,ti,tv,(al.set i .any).zip σ++Fr,_,?_,q1,λt' H' kt rp=>c _ _ _ kt ?_ .refl⟩
 ·refine rs3.head.perm (.cons _ ?_);refine r_ f' (.cons _ ?_);exact f'
 have r4:Rs X.K H' (al.set i .any) σ ((t',some w)::Fr):=.of rs3.1 rp;have r5:=Rs.kU (i:=i) r4 (by rw[Mc];exact hi') ey;rw[Ox]at r5;exact r5
end
open PySem PySem.Spec PyProof.Rows L2
class Th (α:Type) where
 v:α
noncomputable def Kc(P:FP)(ts:List T)[k:Th (T->List T->Prop)]:Prop:=P ts k.v
def md(b:Bool)[A:Th Prop][B:Th Prop]:Prop:=cnd b A.v B.v
def i6(o:Option α)[k:Th (α->Prop)]:Prop:=got o k.v
def Gy(fr:List (Option Nat))(be:List T)(g:PG')(ft:PB)(fe:PF)(env:Ev)[k:Th (T->Ev->Prop)]:Prop:=Gw fr be g ft fe env k.v
theorem bH{u:α}{k:Th (α->Prop)}:i6 (some u) (k:=k)=k.v u:=rfl
theorem dc{o:Option α}{u:α}{k:Th (α->Prop)}(e:o=some u)(h:k.v u):i6 o (k:=k):=II e h
variable {A B:Th Prop}
theorem cu:md true (A:=A) (B:=B)=A.v:=propext ⟨λh=>h.1 rfl,λh=>GQ h⟩
theorem bo:md false (A:=A) (B:=B)=B.v:=propext ⟨λh=>h.2 rfl,λh=>H0 h⟩
theorem dO:md (!b) (A:=A) (B:=B)=md b (A:=B) (B:=A):=by cases b <;> simp only[ON,Pn,cu,bo]
theorem oj(h1:b=true->A.v)(h2:b=false->B.v):md b (A:=A) (B:=B):=⟨h1,h2⟩
theorem aT{p:Prop}{d:Decidable p}(h1:p->A.v)(h2:¬p->B.v):md (decide p) (A:=A) (B:=B):=⟨λh=>h1 (of_decide_eq_true h),λh=>h2 (of_decide_eq_false h)⟩
theorem Gs(e:b=true)(h:A.v):md b (A:=A) (B:=B):=by rw[e];exact GQ h
theorem Gi(e:b=false)(h:B.v):md b (A:=A) (B:=B):=by rw[e];exact H0 h
variable {gt:PG'}{ko:Option Int->Ev->Prop}
section
variable{f g:PF}{env:Ev}{k:T->Ev->Prop}{kb:Bool->Ev->Prop}{tc td:PB}{pe:PEn}{u v:PSt}{fs:PFs}{fa:PAs}{ks:List T->Ev->Prop}{ka:List Arg->Ev->Prop}
theorem iY:fQ f env k=f (erL env) λt _=>fE t=true/\k t env:=rfl
theorem gH:fQT tc env kb=tc (erL env) λb _=>kb b env:=rfl
theorem j6:fK t env k=k t env:=rfl
theorem eQ:EI i env k=i6 (env[i]?) (k:=⟨λt=>isAny t=false/\aK t=true/\k t env⟩):=by unfold EI;cases env[i]? <;> rfl
theorem hW:fFz i env k=i6 (env[i]?) (k:=⟨λt=>isAny t=false/\k (er t) (env.set i (er t))⟩):=by unfold fFz;cases env[i]? <;> rfl
theorem gW:fMv i env k=i6 (env[i]?) (k:=⟨λt=>isAny t=false/\k t (env.set i .any)⟩):=by unfold fMv;cases env[i]? <;> rfl
theorem dR{p:P2}:As p f g env k=f env λx al=>g al λy bn=>p x y λt=>k t bn:=rfl
theorem gm{p:T->(T->Prop)->Prop}:fUn p f env k=f env λt al=>p t λu=>k u al:=rfl
noncomputable def asB(t:T)[k:Th (Bool->Prop)]:Prop:=match t with
 | .bl b=>k.v b
 | _=>False
theorem gJ{k:Th (Bool->Prop)}:asB (.bl b) (k:=k)=k.v b:=rfl
theorem eI:Et f env kb=f env λt al=>asB t (k:=⟨λb=>kb b al⟩):=rfl
theorem dD:Ku f env kb=f env λt al=>Fn t λb=>kb b al:=rfl
theorem bY{p q:P2}{h:PF}:tP p q f g h env k=f env λx al=>g al λy bn=>aK y=true/\p x y λz=>asB z (k:=⟨λb=>md b (A:=⟨h bn λu dL=>q y u λt=>k t dL⟩) (B:=⟨k (.bl false) bn⟩)⟩):=rfl
theorem eR:Kg tc td env kb=tc env λb al=>md b (A:=⟨kb true al⟩) (B:=⟨td al kb⟩):=rfl
theorem cI:GD tc env kb=tc env λb al=>kb (!b) al:=rfl
theorem fq:JW f g env k=f env λt al=>asB t (k:=⟨λb=>md b (A:=⟨g al k⟩) (B:=⟨k (.bl false) al⟩)⟩):=rfl
theorem hZ:fOr f g env k=f env λt al=>asB t (k:=⟨λb=>md b (A:=⟨k (.bl true) al⟩) (B:=⟨g al k⟩)⟩):=rfl
theorem dE:HF env ks=ks [] env:=rfl
theorem cV:GX f fs env ks=f env λt al=>fs al λts bn=>ks (t::ts) bn:=rfl
theorem fj:Ka fs env k=fs env λts al=>ts.length<=sizeLine/\k (.tup ts) al:=rfl
theorem dG:Lb fs env k=fs env λts al=>ts.length<=sizeLine/\k (.lst true ts) al:=rfl
theorem gX{p:P1s}:fCl p fs env k=fs env λts al=>p ts λt=>k t al:=rfl
theorem eJ:K0 env ka=ka [] env:=rfl
theorem fx:La f fa env ka=f env λt al=>fa al λas bn=>ka (.val t::as) bn:=rfl
theorem dN:Ip i fa env ka=i6 (env[i]?) (k:=⟨λt=>isAny t=false/\fa env λas bn=>ka (.bor i::as) bn⟩):=by
 unfold Ip;cases env[i]? with
 |none=>exact propext ⟨λh=>h.1,λh=>h.elim⟩
 |some t=>rfl
theorem fA:HB n P fa env k=fa env λas al=>as.length=n/\Kc P (lend as al).1 (k:=⟨λt ts'=>k t (back as ts' (lend as al).2)⟩):=rfl
theorem cL{ft:PB}:uW fr fi gt ft fe env k=fi env λbe al=>Gy fr be gt ft fe al (k:=⟨k⟩):=rfl
theorem cQ{m:PM}:ye i m fs env k=i6 (env[i]?) (k:=⟨λt0=>isL t0=true/\fs env λts al=>i6 (al[i]?) (k:=⟨λt=>m t ts λt' r=>k r (al.set i t')⟩)⟩):=rfl
theorem fW{fl fh:PO'}:fSl f fl fh env k=f env λt al=>fl al λlo bn=>fh bn λhi dL=>slT t lo hi λu=>k u dL:=rfl
theorem eZ:Ki env ko=ko none env:=rfl
noncomputable def asI(t:T)[k:Th (Int->Prop)]:Prop:=match t with
 | .int b=>k.v b
 | _=>False
theorem dF{b:Int}{k:Th (Int->Prop)}:asI (.int b) (k:=k)=k.v b:=rfl
theorem eW:Lw f env ko=f env λt al=>asI t (k:=⟨λi=>ko (some i) al⟩):=rfl
theorem cP:Hn pe env=pe.nx env:=rfl
theorem dy:JF u v pe env=u {pe with nx:=v pe} env:=rfl
theorem cY:GZ f pe env=f env λ_ al=>pe.nx al:=rfl
theorem dC:KP f pe env=f env λt al=>pe.rt t al:=rfl
theorem gQ:sIf tc u v pe env=tc env λb al=>md b (A:=⟨u pe al⟩) (B:=⟨v pe al⟩):=rfl
theorem eX:F8 i f pe env=f env λt al=>pe.nx (al.set i t):=rfl
theorem dY:KU f gt pe env=f env λt al=>gt t al pe.nx:=rfl
noncomputable def asP(ts:List T)(k:T->T->Prop):Prop:=match ts with
 | [t,u]=>k t u
 | _=>False
theorem fZ{u:T}{k:T->T->Prop}:asP [t,u] k=k t u:=rfl
theorem dX:KR i j fs pe env=fs env λts al=>asP ts λt u=>pe.nx ((al.set i t).set j u):=rfl
theorem fw{p:P2}:IM i f p pe env=i6 (env[i]?) (k:=⟨λt=>isAny t=false/\aK t=true/\f env λu al=>p t u λw=>pe.nx (al.set i w)⟩):=by
 unfold IM;cases env[i]? with
 |none=>exact propext ⟨λh=>h.1,λh=>h.elim⟩
 |some t=>exact propext ⟨λ⟨⟨a,b⟩,c⟩=>⟨a,b,c⟩,λ⟨a,b,c⟩=>⟨⟨a,b⟩,c⟩⟩
theorem bW:Bx tc u pe env=x6 tc u pe env:=rfl
theorem eD:Kt fi gt u pe env=fi env λbe al=>forL be gt u pe al:=rfl
variable{t:T}{ke:Ev->Prop}{ts:List T}{gt:PG'}{gts:oD}
theorem jb:gN i t env ke=ke (env.set i t):=rfl
theorem dH:Hh [] env ke=ke env:=propext ⟨λh=>h.2,λh=>⟨rfl,h⟩⟩
theorem cR:C8 gt gts (t::ts) env ke=gt t env λal=>gts ts al ke:=rfl
theorem dJ:gTp n gts (.tup ts) env ke=(ts.length=n/\gts ts env ke):=rfl
theorem cG{fi:PF}:Gz i fi t env ke=i6 (env[i]?) (k:=⟨λt0=>isAny t0=false/\fi env λti al=>i6 (al[i]?) (k:=⟨λt1=>A1 t1 ti t λt'=>ke (al.set i t')⟩)⟩):=rfl
variable{ki:List T->Ev->Prop}
theorem f7:KQ f env ki=f env λt al=>i6 (items t) (k:=⟨λts=>ki (erL ts) al⟩):=rfl
noncomputable def as1(ts:List T)(k:Int->Prop):Prop:=match ts with
 | [.int j]=>k j
 | _=>False
noncomputable def as2(ts:List T)(k:Int->Int->Prop):Prop:=match ts with
 | [.int i,.int j]=>k i j
 | _=>False
theorem gU{j:Int}{k:Int->Prop}:as1 [.int j] k=k j:=rfl
theorem fX{i j:Int}{k:Int->Int->Prop}:as2 [.int i,.int j] k=k i j:=rfl
theorem hJ:iR1 fs env ki=fs env λts al=>as1 ts λj=>(-(2 ^ 62)<=j/\j<2 ^ 62)/\ki (nX 0 j.toNat) al:=rfl
theorem gL:iR2 fs env ki=fs env λts al=>as2 ts λi j=>(-(2 ^ 62)<=i/\i<2 ^ 62/\-(2 ^ 62)<=j/\j<2 ^ 62)/\ki (nX i (j-i).toNat) al:=rfl
theorem fV:iZp fs env ki=fs env λts al=>asP ts λt u=>i6 (items t) (k:=⟨λas=>i6 (items u) (k:=⟨λbs=>ki (((erL as).zip (erL bs)).map λp=>.tup [p.1,p.2]) al⟩)⟩):=rfl
noncomputable def asO(ts:List T)(k:T->Prop):Prop:=match ts with
 | [t]=>k t
 | _=>False
theorem hV{t:T}{k:T->Prop}:asO [t] k=k t:=rfl
theorem gp:iEn fs env ki=fs env λts al=>asO ts λt=>i6 (items t) (k:=⟨λas=>ki ((p_ as.length).zipWith (λ(i:Nat) (x:T)=>T.tup [.int (i:Int),x]) (erL as)) al⟩):=rfl
end
variable {kb:Bool->Prop}
section
variable{k:T->Prop}{i j l:Int}{x y:Str}{ts us:List T}{o o' b c:Bool}{t:T}
theorem eN:Jc (.int i) (.int j) k=k (.int (i+j)):=rfl
theorem du:Jc (.lst o ts) (.lst o' us) k=(ts.length+us.length<=sizeLine/\k (.lst true (ts++us))):=rfl
theorem eS:K7 (.int i) (.int j) k=k (.int (i-j)):=rfl
theorem dS:K5 (.int i) (.int j) k=(xS i j/\k (.int (i*j))):=rfl
theorem dB:JM (.int i) (.int j) k=(Ff i j/\k (.int (i/j))):=rfl
theorem eB:K8 (.int i) (.int j) k=(0<j/\k (.int (i%j))):=rfl
theorem cW:Gx (.int i) (.int j) k=k (.int (i+j)):=rfl
theorem gK:ltT (.int i) (.int j) k=k (.bl (decide (i<j))):=rfl
theorem gj:leT (.int i) (.int j) k=k (.bl (decide (i<=j))):=rfl
theorem gB:gtT (.int i) (.int j) k=k (.bl (decide (j<i))):=rfl
theorem gf:KZ (.int i) k=k (.int (-i)):=rfl
noncomputable def iT(ns:List Int):T:=.tup (ns.map T.int)
theorem fv:ixT (.tup ts) (.int i) k=i6 (atI ts i) (k:=⟨k⟩):=rfl
theorem eC:ixT (.cst ts) (.int i) k=i6 (atI ts i) (k:=⟨k⟩):=rfl
theorem fo:ixT (.lst o ts) (.int i) k=i6 (atI ts i) (k:=⟨k⟩):=rfl
theorem cE:iJ []=some []:=rfl
theorem cA:iJ (.int i::ts)=(iJ ts).map λks=>Tf i::ks:=by rw[iJ];cases iJ ts <;> rfl
theorem j4(a:α)(l:List α):atI (a::l) 0=some a:=jk (j:=0) rfl
theorem ja(a b:α)(l:List α):atI (a::b::l) 1=some b:=jk (j:=1) rfl
theorem iS(a b c:α)(l:List α):atI (a::b::c::l) 2=some c:=jk (j:=2) rfl
theorem iW(a b c d:α)(l:List α):atI (a::b::c::d::l) 3=some d:=jk (j:=3) rfl
theorem iV(a b c d e:α)(l:List α):atI (a::b::c::d::e::l) 4=some e:=jk (j:=4) rfl
theorem j9(a b c d e f:α)(l:List α):atI (a::b::c::d::e::f::l) 5=some f:=jk (j:=5) rfl
theorem jc(a b c d e f g:α)(l:List α):atI (a::b::c::d::e::f::g::l) 6=some g:=jk (j:=6) rfl
theorem jf(a b c d e f g h:α)(l:List α):atI (a::b::c::d::e::f::g::h::l) 7=some h:=jk (j:=7) rfl
theorem cZ:JV [.lst o ts] k=k (.int ts.length):=rfl
theorem gv:Kn [.int i] k=k (.int i.natAbs):=rfl
theorem hX:DF [.int i,.int j] k=k (.int (max i j)):=rfl
theorem g9:DF [.int i,.int j,.int l] k=k (.int (max (max i j) l)):=rfl
theorem gc:C3 [.int i,.int j] k=k (.int (min i j)):=rfl
theorem fY:C3 [.int i,.int j,.int l] k=k (.int (min (min i j) l)):=rfl
theorem gR:DF [.lst o ts] k=i6 (intsOf ts) (k:=⟨λns=>ns≠[]/\∀r,jd ns r->k (.int r)⟩):=rfl
theorem gA:C3 [.lst o ts] k=i6 (intsOf ts) (k:=⟨λns=>ns≠[]/\∀r,je ns r->k (.int r)⟩):=rfl
theorem i4:IL [.bl b] k=k (.int (if b then 1 else 0)):=rfl
theorem cC:sG [.lst o ts] k=k (.tup ts):=rfl
theorem gC:HP [.lst o ts] k=i6 (boolsOf ts) (k:=⟨λbs=>k (.bl (bs.all id))⟩):=rfl
theorem j3{lo hi:Option Int}:slT (.lst o ts) lo hi k=k (.lst true (oZ ts lo hi)):=rfl
theorem g6:Fn (.bl b) kb=kb b:=rfl
theorem gD:Fn (.lst o ts) kb=kb (!ts.isEmpty):=rfl
variable{km:T->T->Prop}
theorem aX:sS (.lst true ts) [t] km=(ts.length<sizeLine/\km (.lst true (ts++[t])) .non):=rfl
theorem ba:sV (.lst true ts) [.lst true us] km=(ts.length+us.length<=sizeLine/\km (.lst true (ts++us)) .non):=rfl
theorem aQ:qN (.lst true ts) [] km=km (.lst true ts.reverse) .non:=rfl
theorem f9{kvs:List (List Key×T)}:A1 (.dT true kvs) (.tup ts) t k=i6 (iJ ts) (k:=⟨λq=>kvs.length<sizeLine/\k (.dT true (iw kvs q t))⟩):=rfl
end
theorem aR(g:α->T)(l:List α):aY (l.map g)=l.all λx=>aK (g x):=by rw[mG,Oq];rfl
theorem aW(g:α->T)(l:List α):df (l.map g)=l.all λx=>fE (g x):=by rw[jI,Oq];rfl
theorem bz(l m:List T):df (l++m)=(df l&&df m):=by rw[jI,jI,jI,Qv]
theorem fD(l:List α):(l.all λ_=>true)=true:=by induction l with|nil=>rfl|cons _ _ ih=>rw[Of,ih];rfl
theorem bI{i:Int}:isAny (.int i)=false:=rfl
theorem cf:isAny (.tup ts)=false:=rfl
theorem bT:isAny (.cst ts)=false:=rfl
theorem bZ:isAny (.lst o ts)=false:=rfl
theorem cM{kvs:List (List Key×T)}:isAny (.dT o kvs)=false:=rfl
theorem dZ:isL (.lst o ts)=true:=rfl
theorem bA:items (.tup ts)=some ts:=rfl
theorem bO:items (.cst ts)=some ts:=rfl
theorem bU:items (.lst o ts)=some ts:=rfl
variable {be:List T}
theorem aV{g:PG'}(W:Nat->Ev->Prop)(h0:W 0 env)(ht:∀i t env,W i env->be[i]?=some t->g t env λbn=>fb {pe with nx:=W (i+1),ct:=W (i+1),bk:=pe.nx} bn)(he:∀env,W be.length env->pe.nx env):forL be g fb pe env:=⟨W,h0,ht,he⟩
theorem rO(W:Nat->Ev->Prop)(m:Nat)(h0:W m env)(ht:∀m env,W m env->tc env λb al=>md b (A:=⟨fb {pe with nx:=λe=>∃m',m'<m/\W m' e,ct:=λe=>∃m',m'<m/\W m' e,bk:=pe.nx} al⟩) (B:=⟨pe.nx al⟩)):x6 tc fb pe env:=⟨W,⟨m,h0⟩,ht⟩
theorem aN{g:PG'}{ft:PB}{k:Th (T->Ev->Prop)}(hz:be.length<sizeLine)(W:Nat->List T->Ev->Prop)(h0:W 0 [] (lend (frA fr) env).1)(ht:∀i t acc ie,W i acc ie->be[i]?=some t->g t ie λie2=>ft ie2 λb ie3=>md b (A:=⟨fe ie3 λu ie4=>W (i+1) (acc++[u]) ie4⟩) (B:=⟨W (i+1) acc ie3⟩))
  (he:∀acc ie,W be.length acc ie->k.v (.lst true acc) (back (frA fr) ie (lend (frA fr) env).2)):Gy fr be g ft fe env (k:=k):=⟨hz,W,h0,ht,he⟩
noncomputable def sq(b:Bool)(ts:List T):T:=match b with
 |true=>.tup ts
 |false=>.lst false ts
abbrev pt(x y:Int):T:=.tup [.int x,.int y]
end PL
namespace ZG
open PySem
open Sem (wp)
theorem AV{prog:Rj}{w:Ro}{A:Rw}(hh:A.handled=none)(it d:Ra)(ld:d≠it)(o:Obj)(es:Array Td)(ep:Nat)(hd:o.data=.dict es ep) :
  Zs prog w A it [it,d] [it] es.size (λi v=>∃e,es[i]?=some e/\v=e.key) (λi h=>h.IsKeyIter it d i es.size ep/\h.get? d=some o) where
 sub:=λb hb=>by simp at hb;simp[hb]
 frame:=λ_ _ _ st hk=>⟨st.1.at λo e=>hk it (by simp) o e,hk d (by simp) o st.2⟩
 item:=λi s Q E hi st hQ=>by have hx:es[i]?=some es[i]:=k_ hi;refine GN st.1 st.2 hd hx λh' hit' hs'=>?_;exact hQ _ h' s.toks ⟨_,hx,rfl⟩ ⟨hit',hs'.extBut d o ld st.2⟩ λb o hb e=>hs'.extBut b o (λz=>hb (by simp[z])) e
 done:=λs Q E st hQ=>Li hh st.1 st.2 hd (Mm (c_ _)) λh' he'=>hQ h' s.toks λb o hb e=>he' b o (λz=>hb (by simp[z])) e
 self:=λ_ _ _ _ st hQ=>WA st.1 hQ
theorem yy{prog:Rj}{w:Ro}{d:Ra}{o:Obj}{es:Array Td}{ep:Nat}(lo:(d == RI)=false)(hc:o.ExactDict)(hd:o.data=.dict es ep) :
  PySem.W.KdlSrc prog w "dict" d d es.size (λi v=>∃e,es[i]?=some e/\v=e.key) (λh=>h.get? d=some o) where
 type:=λ_ hm=>⟨o,hm,hc.1⟩
 there:=λ_ hm=>⟨Rm hm,Rm hm⟩
 keep:=λ_ _ hm hk=>hk d (.inl rfl) o hm
 notList:=by decide
 notTuple:=by decide
 hint:=λ_ _ _ _ hm hq=>PySem.W.kdl_hint_dict ⟨o,hm,hc.1⟩ hq
 iter:=λ_ _ hh hm=>⟨_,_,(λ_ _ hq=>GU lo hm hc hd hq),AV hh _ d (s_ (Rm hm)) o es ep hd,⟨⟨_,Ri _ rfl,rfl,rfl⟩,Rg _ hm⟩⟩
end ZG
namespace L2
open PySem PySem.Spec PyProof.Rows
section
variable{X:Cx}
theorem xf(hc:X.calm=true):de X (.type "list") (λxs H Q=>∃d kvs,xs=[.ref d]/\Rd H d (.dT kvs)/\∀bs:List Ra,Ts (λ(b:Ra) (p:List Key×V)=>H b=some (.tup (p.1.map kV))) bs kvs->(kvs.map (·.1)).Nodup->New (.lst (bs.map V.ref)) H Q):=by
 intro ac s σ H xs us Q I r h;obtain⟨d,kvs,rfl,hd,q⟩:=h;obtain⟨u,rfl,ru⟩:=vals1 r;cases ru;obtain⟨z,lo,xs,kt,o,es,ep,g1,g2,g3,g4,g5⟩:=(show cz X.prog X.w H s.heap d (.dT kvs)from hd.ok I.hok);have hes:es.size=kvs.length:=by rw[<-l_,g4,a_];exact(Sg kt).symm
 refine PySem.W.kdl_call (ZG.yy lo g2 g3) (I.ok.hd hc) g1 (by lia) λh' tk acc c kp e it=>?_
 have hacc:acc.toList=(xs.map λx=>x.2.1).map Rz:=by
  refine N6 λj=>?_;rw[A_,o_,o_];by_cases hj:j<es.size
  ·have hx:j<xs.length:=by rw[<-l_,g4,a_]at hj;exact hj
   have hja:j<acc.size:=by rw[it.1];exact hj
   have ha:acc[j]?=some acc[j]:=k_ hja;obtain⟨en,e1,e2⟩:=it.2 j _ ha;rw[ha,e2,b_ hx];rw[<-A_,g4,o_,b_ hx]at e1;cases e1
   rfl
  have hx:¬j<xs.length:=by rw[<-l_,g4,a_]at hj;exact hj
  rw[Mm (by rw[it.1];lia),Mj (by lia)]
  rfl
 have rel:∀(l:List Ra),Vals (l.map V.ref) (l.map Rz):=λl=>by
  induction l with
  |nil=>exact .nil
  |cons a t ih=>exact .cons rfl ih
 have hq:∀{lm:List (List Key×V)}{xs':List (List Key×Ra×Q_)},KT H lm xs'->Ts (λ(b:Ra) (p:List Key×V)=>H b=some (.tup (p.1.map kV))) (xs'.map λx=>x.2.1) lm:=λ{lm xs'} k=>by
  induction k with
  |nil=>exact .nil
  |cons h t ih=>exact .cons h.2.1 ih
 have ek:∀{lm:List (List Key×V)}{xs':List (List Key×Ra×Q_)},KT H lm xs'->lm.map (·.1)=xs'.map λx=>x.1:=λ{lm xs'} k=>by
  induction k with
  |nil=>rfl
  |cons h t ih=>rw[d_,d_,ih,h.1]
 have e':h'.get? s.heap.objs.size=some { cls:=.type "list",dict:=none,data:=.seq ((xs.map λx=>x.2.1).map Rz).toArray c,slots:=#[] }:=by rw[<-hacc];exact e
 exact⟨.ref s.heap.objs.size,_,I.laid (t':=tk) kp (c_ _) (show cz X.prog X.w _ h' _ (.lst ((xs.map λx=>x.2.1).map V.ref))from⟨by rw[a_,a_,<-Sg kt];omega,_,c,rel _,e'⟩),rfl,(q _ (hq kt) (by rw[ek kt];exact g5)).at (I.hok.fresh (c_ _))⟩
abbrev nC(K:Rb)(H:Hp):List V->List (List Int)->Prop:=Ts λv k=>k≠[]/\∃b,v=.ref b/\SqT K H b (k.map V.int)
theorem uM{ac:List (Ra×Obj)}{σ:St}{H:Hp}{s:Rf}(I:Inv X ac σ H s):∀{ys:List V}{be:List Q_}{ks:List (List Int)},Vals ys be->nC X.K H ys ks->(∀v∈be,ZS.Ei s.heap v/\∃b,v=.ref b/\ZS.jS s.heap v≠[]/\SqT X.K H b ((ZS.jS s.heap v).map V.int))/\be.map (ZS.jS s.heap)=ks:=by
 intro ys be ks x;induction x generalizing ks with
 |nil=>intro r;cases r;exact⟨λv hv=>(nomatch hv),rfl⟩
 | @cons v _ _ be hv tv ih=>
  intro r;rcases r with _|⟨hk,tk⟩;rename_i k ks;obtain⟨ld,b,rfl,hb⟩:=hk;cases hv;obtain⟨j1,j2⟩:=ih tk;obtain⟨its',r',⟨o,ho,hc,n,hd⟩,hz⟩:=I.tuple hb;obtain⟨ps,e1,e2⟩:=fR r';have kv:ZS.jS s.heap (.ref b)=k:=by
   rw[ZS.tD ho hd];show its'.map ZS.kj=k;rw[e1,F',<-e2]
   rfl
  refine⟨λw hw=>?_,by rw[d_,kv,j2]⟩;rcases i_.mp hw with e|e
  ·subst e;refine⟨⟨b,o,_,n,rfl,ho,hc,hd,λv hv=>?_,?_⟩,b,rfl,by rw[kv];exact ld,by rw[kv];exact hb⟩
   ·have hv:v∈its':=hv;rw[e1]at hv;obtain⟨p,_,e⟩:=h_.mp hv;exact⟨p.1,p.2,e.symm⟩
   rw[g_,e1,a_,<-a_ (f:=(·.1)),e2];exact PH.mpr ld
  exact j1 w e
theorem AJ:∀{ys:List V}{us:List Q_}{u:Q_}{b:Ra},Vals ys us->u∈us->u=.ref b->V.ref b∈ys:=by
 intro ys us u b x;induction x with
 |nil=>intro h _;cases h
 | @cons y _ _ _ r t ih=>
  intro h e;rcases i_.mp h with z|h
  ·subst z;subst e;have:y=.ref b:=RelV.inj r (show RelV (.ref b) (.ref b)from rfl);rw[this];exact t_
  exact j_ _ (ih h e)
end
end L2
namespace ZS
open PySem PyProof.Rows
section
variable{prog:Rj}{w:Ro}{A:Rw}{E:Q_->Rf->Prop}{s:Rf}
theorem t6{d:Ra}{o:Obj}{es:Array Td}{ep:Nat}{Q:List Q_->Rf->Prop}(lo:(d == RI)=false)(ho:s.heap.get? d=some o)(hc:o.ExactDict)(hd:o.data=.dict es ep)(hh:A.handled=none)(hn:es.size<=sizeLine)
  (h:∀h' tk acc,s.heap.objs.size<=h'.objs.size->(∀b u,s.heap.get? b=some u->h'.get? b=some u)->We (λi v=>∃e,es[i]?=some e/\v=e.key) acc es.size->Q acc.toList {s with heap:=h',toks:=tk}):Rh (Rn prog w) A (Xb (.ref d)) Q E s:=by
 unfold Xb;refine Q9 (U3 (R1 Wf ?_));rw[RU Wg _];show Rh _ A.in1 (Zl [] >>= λl=>again (.builtin "list.__iadd__" ⟨[l,.ref d],[]⟩)) _ _ s;refine Q9 (RA ?_);refine Rc ⟨S4 Uo _,R1 Xi ?_⟩;rw[RU Uo _];have hS:(s.heap.push { cls:=.type "list",data:=.seq ([]:List Q_).toArray}).get? s.heap.objs.size=some { cls:=.type "list",data:=.seq ([]:List Q_).toArray}:=Ri _ rfl;have ld:s.heap.objs.size≠d:=MY (Rm ho);have fin:∀(s':Rf) (h':Rq) (tk:Nat) (acc:Array Q_) (c:Nat),s'={s with heap:=h',toks:=tk}->(∀b u,s.heap.get? b=some u->h'.get? b=some u)->h'.get? s.heap.objs.size=some { cls:=.type "list",dict:=none,data:=.seq acc c,slots:=#[] }->We (λi v=>∃e,es[i]?=some e/\v=e.key) acc es.size->
   Rh (Rn prog w) A (load s.heap.objs.size >>= λo=>match o.data with
    | .seq xs _=>pure xs.toList
    | _=>Zf "internal:collect") Q E s':=λs' h' tk acc c es' kp e it=>by
  subst es';refine Q9 (Vp e ?_);exact Rc (h h' tk acc (Mt (Rm e)) kp it)
 refine RL (PySem.W.kdl_extend (s:={s with heap:=s.heap.push { cls:=.type "list",data:=.seq ([]:List Q_).toArray} }) (R:=λr s'=>∃(h':Rq) (tk:Nat) (acc:Array Q_) (c:Nat),r=.ok (.ret (.ref s.heap.objs.size))/\s'={s with heap:=h',toks:=tk}/\(∀b u,s.heap.get? b=some u->h'.get? b=some u)/\h'.get? s.heap.objs.size=some { cls:=.type "list",dict:=none,data:=.seq acc c,slots:=#[] }/\We (λi v=>∃e,es[i]?=some e/\v=e.key) acc es.size)
  (ZG.yy lo hc hd) hh (Rg _ ho) s.heap.objs.size ld ld (.ref s.heap.objs.size) 0 hS (λh' tk acc c kp e it=>⟨h',tk,acc,c,rfl,rfl,λb u eb=>kp b u (s_ (Rm eb)) (Rg _ eb),e,it⟩) hn) (λfn s' hf=>?_) (λe s' hf=>?_)
 ·cases fn with
  |done f=>
   obtain⟨h',tk,acc,c,ef,es',kp,e,it⟩:=hf;cases ef;exact fin s' h' tk acc c es' kp e it
  |again c'=>
   refine⟨hf.1,SH hf.2 λr s'' hr=>?_⟩;obtain⟨h',tk,acc,c,er,es',kp,e,it⟩:=hr;subst er;exact fin s'' h' tk acc c es' kp e it
 obtain⟨_,_,_,_,ef,_⟩:=hf;cases ef
end
end ZS
namespace L2
open PySem PySem.Spec PyProof.Rows
section
variable{X:Cx}
abbrev uS(H:Hp):List V->List (List Int)->Prop:=Ts λv k=>k≠[]/\∃b,v=.ref b/\H b=some (.tup (k.map V.int))
theorem pG{α β:Type}{F:α->β->Prop}:∀{l:List α}{m:List β},Ts F l m->∀(i:Nat) (a:α) (b:β),l[i]?=some a->m[i]?=some b->F a b
 | _,_,.nil,i,a,b,h,_=>by simp at h
 | _,_,.cons f _,0,a,b,h,g=>by cases h;cases g;exact f
 | _,_,.cons _ t,i+1,a,b,h,g=>pG t i a b (by simpa using h) (by simpa using g)
end
end L2
namespace ZS
open PySem PyProof.Rows
noncomputable def ltI(a b:Int):Bool:=decide (a<b)
theorem Lj:Tot ltI:=⟨λa=>decide_eq_false (Int.lt_irrefl a),λa b c h g=>decide_eq_true (Int.lt_trans (of_decide_eq_true h) (of_decide_eq_true g)),λa b h g=>by have h:=of_decide_eq_false h;have g:=of_decide_eq_false g;lia⟩
variable {ns:List Int}
section
variable{prog:Rj}{w:Ro}{A:Rw}{E:Q_->Rf->Prop}{s:Rf}
theorem E2{S:RQ->Prop}(hS:∀x,S x->∃i t,x.1=.int i t/\i∈ns):mC (Rn prog w) A E s XF (λx=>rnk ltI ns (kj x.1)) S:=by intro x y st Q sx sy kd q;obtain⟨i,t,ex,mi⟩:=hS x sx;obtain⟨j,u,ey,mj⟩:=hS y sy;rw[lt'_eq];refine RB (Wb ?_);rw[kd,ex,ey,keyLt'_oneType];refine RB (Wz (SN (oneLt_int ⟨rfl,?_⟩)));refine RV ?_;dsimp only at q;rw[zU Lj (show kj x.1∈ns by rw[ex];exact mi),ex,ey]at q;exact q
theorem Bg{M:Ui}{v1:Q_}{vs:List Q_}{Q:S0->Rf->Prop}(hI:SF (v1::vs) ns)(q:Q XF s):Rh M A (VG (v1::vs).toArray) Q E s:=by
 have e:VG (v1::vs).toArray=pure XF:=by
  rw[keyKind'_eq,P9,mapM_first_ints hI];simp only[map_pure,pure_bind];rw[if_neg (by simp),if_neg (by simp),oneTypeOnly'_eq,P9,mapM_typeOf_ints hI];simp only[map_pure,pure_bind];have hal:((Mx (λ_=>Sr "int") (v1::vs)).toArray.all λx=>x == Sr "int")=true:=by simp only[List.all_toArray,Oq,Mk];exact λ_ _=>rfl
  have hz:(Mx (λ_=>Sr "int") (v1::vs)).toArray[0]?=some (Sr "int"):=by simp
  rw[hz];simp only[hal,if_true,pure_bind,PN]
 rw[e];exact Rc q
end
end ZS
namespace PL
open PySem PySem.Spec PyProof.Rows L2
section
variable{κ:Type}{lt:κ->κ->Bool}
noncomputable def AG(lt:κ->κ->Bool)(x:κ):List κ->List κ
 | []=>[x]
 |y::r=>if lt y x=true then y::AG lt x r else x::y::r
def Bc(lt:κ->κ->Bool):List κ->List κ
 | []=>[]
 |x::r=>AG lt x (Bc lt r)
theorem oJ(x:κ):∀l:List κ,(AG lt x l).Perm (x::l)
 | []=>.refl _
 |y::r=>by
  rw[AG];split
  ·exact((oJ x r).cons y).trans (.swap _ _ _)
  exact .refl _
theorem nV:∀l:List κ,(Bc lt l).Perm l
 | []=>.refl _
 |x::r=>(oJ x _).trans ((nV r).cons x)
theorem oS(T:ZS.Tot lt)(x:κ):∀{l:List κ},l.Pairwise (λa b=>lt b a=false)->(AG lt x l).Pairwise (λa b=>lt b a=false)
 | [],_=>Nv _ _
 |y::r,h=>by
  rw[MR]at h;rw[AG];split
  ·rename_i hy;rw[MR];refine⟨λb hb=>?_,oS T x h.2⟩;rcases i_.mp ((oJ x r).mem_iff.mp hb)with rfl|hb
   ·cases z:lt b y
    ·rfl
    have:=T.tr _ _ _ z hy;rw[T.irr]at this;cases this
   exact h.1 b hb
  rename_i hy;have hy:lt y x=false:=OR.mpr hy;rw[MR];refine⟨λb hb=>?_,MR.mpr h⟩;rcases i_.mp hb with rfl|hb
  ·exact hy
  cases z:lt b x
  ·rfl
  have h1:=h.1 b hb;cases w:lt y b
  ·have:=T.tot _ _ h1 w;subst this;rw[z]at hy;cases hy
  have:=T.tr _ _ _ w z;rw[hy]at this;cases this
theorem oN(T:ZS.Tot lt):∀l:List κ,(Bc lt l).Pairwise (λa b=>lt b a=false)
 | []=>N4
 |x::r=>oS T x (oN T r)
theorem oR(T:ZS.Tot lt):∀{l m:List κ},l.Perm m->l.Pairwise (λa b=>lt b a=false)->m.Pairwise (λa b=>lt b a=false)->l=m
 | [],m,p,_,_=>(List.Perm.nil_eq p)
 |a::l,[],p,_,_=>(List.Perm.eq_nil p)
 |a::l,b::m,p,h,g=>by
  rw[MR]at h g;have e:a=b:=by
   have ha:a∈b::m:=p.mem_iff.mp t_;have hb:b∈a::l:=p.mem_iff.mpr t_;rcases i_.mp ha with e|ha
   ·exact e
   rcases i_.mp hb with e|hb
   ·exact e.symm
   exact T.tot _ _ (g.1 a ha) (h.1 b hb)
  subst e;rw[oR T (List.Perm.cons_inv p) h.2 g.2]
theorem pC(T:ZS.Tot lt){l m:List κ}(p:l.Perm m)(h:l.Pairwise (λa b=>lt b a=false)):l=Bc lt m:=
 oR T (p.trans (nV m).symm) h (oN T m)
end
abbrev uJ(ks:List (List Int)):List (List Int):=Bc ZS.ltL ks
def rowOf:T->Option (List Int)
 | .tup ts=>match intsOf ts with
  |some (n::r)=>some (n::r)
  | _=>none
 | _=>none
def rowsOf:List T->Option (List (List Int))
 | []=>some []
 |t::r=>match rowOf t,rowsOf r with
  |some k,some ks=>some (k::ks)
  | _,_=>none
variable {t:T}
theorem Ef{k:List Int}(h:rowOf t=some k):t=iT k/\k≠[]:=by
 cases t <;> first|cases h|skip
 rename_i ts;rw[rowOf]at h;split at h
 ·rename_i n r e;cases h;exact⟨by rw[iE e];rfl,by simp⟩
 cases h
theorem Dv{k:List Int}(h:k≠[]):rowOf (iT k)=some k:=by
 cases k with
 |nil=>exact absurd rfl h
 |cons n r=>
  show(match intsOf ((n::r).map T.int)with|some (n::r)=>some (n::r) | _=>none)=_;rw[wX]
theorem oI:∀{ts:List T}{ks:List (List Int)},rowsOf ts=some ks->ts=ks.map iT/\∀k∈ks,k≠[]
 | [],ks,h=>by cases h;exact⟨rfl,λk hk=>by cases hk⟩
 |t::ts,ks,h=>by
  rw[rowsOf]at h;split at h
  ·rename_i k r e1 e2;cases h;obtain⟨h1,h2⟩:=Ef e1;obtain⟨h3,h4⟩:=oI e2;refine⟨by rw[h1,h3];rfl,λq hq=>?_⟩;rcases i_.mp hq with rfl|hq
   ·exact h2
   exact h4 q hq
  cases h
theorem wJ{ks:List (List Int)}(h:∀k∈ks,k≠[]):rowsOf (ks.map iT)=some ks:=by
 induction ks with
 |nil=>rfl
 |cons k r ih=>
  rw[d_,rowsOf,Dv (h k t_),ih λq hq=>h q (j_ _ hq)]
variable {H:Hp}
section
variable{X:Cx}
theorem pZ{K:Rb}{H:Hp}{Γ:Fm}:∀{ks:List (List Int)}{vs:List V},(∀k∈ks,k≠[])->(ks.map iT).length=vs.length->Rp K H (zz (ks.map iT) vs++Γ)->nC K H vs ks/\∀v∈vs,∃(b:Ra) (k:List Int),v=.ref b/\H b=some (.tup (k.map V.int))
 | [],[],_,_,_=>⟨.nil,λv hv=>by cases hv⟩
 | [],_::_,_,l,_=>by cases l
 | _::_,[],_,l,_=>by cases l
 |k::ks,v::vs,n,l,h=>by
  have h:Rp K H ((iT k,some v)::(zz (ks.map iT) vs++Γ)):=h;obtain⟨a,us,rfl,ha,la,h2⟩:=sJ h;have eu:=jg la h2;subst eu;obtain⟨r1,r2⟩:=pZ (λq hq=>n q (j_ _ hq)) (by simpa using l) h.tail;refine⟨.cons ⟨n k t_,a,rfl,SqT.of ha⟩ r1,λw hw=>?_⟩;rcases i_.mp hw with rfl|hw
  ·exact⟨a,k,rfl,ha⟩
  exact r2 w hw
theorem mZ{K:Rb}{H:Hp}{Γ:Fm}:∀{ks:List (List Int)}{vs:List V},uS H vs ks->Rp K H Γ->Rp K H (zz (ks.map iT) vs++Γ)/\(ks.map iT).length=vs.length
 | [],_,r,h=>by cases r;exact⟨h,rfl⟩
 |k::ks,_,r,h=>by rcases r with _|⟨hd,t⟩;rename_i v vs;obtain⟨_,b,e,hb⟩:=hd;obtain⟨h1,l1⟩:=mZ t h;subst e;refine⟨?_,by simp at l1 ⊢;exact l1⟩;show Rp K H ((iT k,some (.ref b))::(zz (ks.map iT) vs++Γ));exact jD (ts:=k.map T.int) (vs:=k.map V.int) (rp_intsP k h1) (by rw[a_,a_]) .ip hb
where
 rp_intsP {Γ:Fm}:∀(ns:List Int),Rp K H Γ->Rp K H (zz (ns.map T.int) (ns.map V.int)++Γ)
 | [],h=>h
 | _::r,h=>dk (rp_intsP r h) λ_=>.int
theorem yr{K:Rb}{H:Hp}{Γ:Fm}:∀(ns:List Int),Rp K H Γ->Rp K H (zz (ns.map T.int) (ns.map V.int)++Γ)
 | [],h=>h
 | _::r,h=>dk (yr r h) λ_=>.int
theorem El{K:Rb}:∀{zs:List V}{ls:List (List Int)},(∀v∈zs,∀b,v=.ref b->∀xs,SqT K H b xs->H b=some (.tup xs))->nC K H zs ls->uS H zs ls:=by
 intro zs ls h r;induction r with
 |nil=>exact .nil
 |cons hk t ih=>
  obtain⟨n,b,e,hb⟩:=hk;exact .cons ⟨n,b,e,h _ t_ b e _ hb⟩ (ih λv hv=>h v (j_ _ hv))
end
section
variable{X:Cx}
variable{e a b:Rr}{fr:PFs}{p1 p2 pos1 lw:Pos}
theorem JQ{k:Nat}{A:Rw}(r:Room k A):A.units+20<cLine:=by have:=r.un;lia
def pairOf:T->Option (List Key×T)
 | .tup [.tup ks,v]=>match iJ ks with
  |some q=>some (q,v)
  |none=>none
 | _=>none
def pairsOf:List T->Option (List (List Key×T))
 | []=>some []
 |t::r=>match pairOf t,pairsOf r with
  |some k,some ks=>some (k::ks)
  | _,_=>none
noncomputable def putAll(kvs:List (List Key×T)):List (List Key×T):=kvs.foldl (λa x=>iw a x.1 x.2) []
def CQ:P1s
 | [.lst true ts],k=>got (pairsOf ts) λkvs=>iF kvs=true/\k (.dT true (putAll kvs))
 | _,_=>False
theorem A7{q:List Key×T}(h:pairOf t=some q):∃ks,t=.tup [.tup ks,q.2]/\iJ ks=some q.1:=by
 unfold pairOf at h;split at h
 ·rename_i ks v;split at h
  ·rename_i z e;cases h;exact⟨ks,rfl,e⟩
  cases h
 cases h
theorem RepXs.put {K:Rb}{Hz:Hp}{q:List Key}{w:V}(h:RepT K Hz H t w []):∀{ts:List (List Key×T)}{vs:List (List Key×V)},RepXs K Hz H ts vs []->RepXs K Hz H (iw ts q t) (putK vs q w) []:=by
 intro ts vs c;have ek:=c.toL.1;have ha:(ts.any λkv=>decide (kv.1=q))=(vs.any λkv=>decide (kv.1=q)):=by
  have e1:(ts.any λkv=>decide (kv.1=q))=(ts.map (·.1)).any λk=>decide (k=q):=by rw[OZ];rfl
  have e2:(vs.any λkv=>decide (kv.1=q))=(vs.map (·.1)).any λk=>decide (k=q):=by rw[OZ];rfl
  rw[e1,e2,ek]
 have mp:∀{ts:List (List Key×T)}{vs:List (List Key×V)}{L:List Ra},RepXs K Hz H ts vs L->L=[]->RepXs K Hz H (ts.map λkv=>if kv.1=q then(kv.1,t)else kv) (vs.map λkv=>if kv.1=q then(kv.1,w)else kv) []:=by
  intro ts vs L c e;induction ts generalizing vs L with
  |nil=>cases c;exact .nil
  |cons x ts ih=>
   cases c with
   | @cons k t1 v1 L1 M N ts' vs' e1 h1 c1=>
    subst e;have z:=N9.mp e1.symm;obtain⟨rfl,rfl⟩:=z;rw[d_,d_];by_cases hk:k=q
    ·rw[if_pos hk,if_pos hk];exact .cons rfl h (ih c1 rfl)
    rw[if_neg hk,if_neg hk];exact .cons rfl h1 (ih c1 rfl)
 have ap:∀{ts:List (List Key×T)}{vs:List (List Key×V)}{L:List Ra},RepXs K Hz H ts vs L->L=[]->RepXs K Hz H (ts++[(q,t)]) (vs++[(q,w)]) []:=by
  intro ts vs L c e;induction ts generalizing vs L with
  |nil=>cases c;exact .cons rfl h .nil
  |cons x ts ih=>
   cases c with
   | @cons k t1 v1 L1 M N ts' vs' e1 h1 c1=>
    subst e;have z:=N9.mp e1.symm;obtain⟨rfl,rfl⟩:=z;exact .cons rfl h1 (ih c1 rfl)
 unfold iw putK;rw[ha];split
 ·exact mp c rfl
 exact ap c rfl
theorem sD{K:Rb}{Hz H:Hp}:∀{ts:List T}{kvs:List (List Key×T)}{vs:List V}{L:List Ra},pairsOf ts=some kvs->iF kvs=true->RepTs K Hz H ts vs L->∃xs,xR H vs xs/\RepXs K Hz H kvs xs []
 | [],kvs,_,_,e,_,r=>by cases r;cases e;exact⟨[],.nil,.nil⟩
 |t::ts,kvs,_,_,e,n,r=>by
  cases r with
  |cons e1 h c=>
   rw[pairsOf]at e;split at e
   ·rename_i k r e2 e3;cases e;obtain⟨q,v⟩:=k;obtain⟨ks,rfl,ek⟩:=A7 e2;rw[iF,K_]at n;obtain⟨xs,px,rx⟩:=sD e3 n.2 c;cases h with
    |tup ha ca=>
     cases ca with
     |cons e4 h4 c4=>
      cases c4 with
      | @cons _ w _ _ _ _ _ e5 h5 c5=>
       cases c5;cases h4 with
       |tup hb cb=>
        have hL:=h5.nil_of n.1;subst hL;refine⟨(q,w)::xs,.cons ⟨_,_,rfl,ha,?_⟩ px,.cons rfl h5 rx⟩;rw[hb,nJ ek cb]
   cases e
theorem qP{K:Rb}{Hz H:Hp}:∀{kvs:List (List Key×T)}{xs:List (List Key×V)}{L:List Ra}{a:List (List Key×T)}{b:List (List Key×V)},RepXs K Hz H kvs xs L->L=[]->RepXs K Hz H a b []->RepXs K Hz H (kvs.foldl (λa x=>iw a x.1 x.2) a) (xs.foldl (λa x=>putK a x.1 x.2) b) []
 | _,_,_,_,_,.nil,_,h=>h
 | _,_,_,_,_,.cons e1 h1 c1,e,h=>by subst e;obtain⟨rfl,rfl⟩:=N9.mp e1.symm;rw[MU,MU];exact qP c1 rfl (RepXs.put h1 h)
theorem xH(hc:X.calm=true)(hu:X.A.units+20<cLine):jJ X (.type "dict") CQ:=by
 rintro ac s σ H xs us Q I r ⟨ts,Γ,k,l,rp,g,c⟩;unfold CQ at g;split at g
 ·rename_i k ts;obtain⟨x,rfl⟩:=zz1 l rfl;have rp:Rp X.K H ((.lst true ts,some x)::Γ):=rp;obtain⟨kvs,ek,n,kt⟩:=aF g;obtain⟨a,vs,ea,ha,la,ge⟩:=jj rp;cases ea;obtain⟨Hz,N,h,nd,gz,d⟩:=ge.tail;obtain⟨L,M,rfl,h1,h2⟩:=h.split;obtain⟨ys,py,ry⟩:=sD ek n (h1.sN la);refine xv hc hu ac s σ H _ us Q I r ⟨a,vs,ys,rfl,ha,py,λp H' hp g' e'=>c _ _ _ kt ?_⟩;have rd:=qP ry rfl (.nil:RepXs X.K Hz H [] [] []);have hm:=h2.move (dh.tk g') .ip λb m u e=>jN g' b u e;refine⟨Hz,[p]++M,.cons rfl (.inr ⟨_,rfl,.dTO e' (rd.move (dh.tk g') .ip λb m=>by cases m)⟩) hm,?_,gz.trans (.of g'),?_⟩
  ·rw[Om,E_];refine⟨λm=>?_,(MT.mp nd).2.1⟩;obtain⟨⟨u,e⟩,_⟩:=h2.there p m;rw[hp]at e;cases e
  intro b m;rcases i_.mp m with rfl|m
  ·exact gz.none hp
  exact d b (u_ _ m)
 exact Rt g
end
section
variable{b:Bool}{ts us:List T}{k:T->Prop}{i:Int}{t u:T}{env:Ev}{ke:T->Ev->Prop}
theorem fG(lo:Int)(n:Nat):(nX lo n).length=n:=by rw[nX,a_,B_]
theorem i7{lo:Int}{n i:Nat}{t:T}(h:(nX lo n)[i]?=some t):i<n:=by have:=(e_.mp h).1;rwa[fG]at this
theorem jA{lo:Int}{n i:Nat}{t:T}(h:(nX lo n)[i]?=some t):t=.int (lo+(i:Int)):=by
 have hi:=i7 h;rw[nX,o_,Mw hi]at h;cases h
 rfl
theorem aS{α:Type}{g:α->T}{l:List α}{i:Nat}{t:T}(h:(l.map g)[i]?=some t):∃x,l[i]?=some x/\t=g x:=by
 rw[o_]at h;cases e:l[i]? with
 |none=>rw[e]at h;cases h
 |some x=>rw[e]at h;cases h;exact⟨x,rfl,rfl⟩
end
noncomputable def L0(f g:PSt):PSt:=λpe env=>∃W:Ev->Prop,f {pe with nx:=W} env/\∀e,W e->g pe e
theorem iq{X:Cx}{κ:Nat->Bool}{st:RG}{rest:List RG}{f g:PSt}(h1:GS κ X st f)(h2:GSs κ X rest g):GSs κ X (st::rest) (L0 f g):=by refine PSs.imp (fF h1 h2) ?_;rintro D σ H ⟨env,Fr,pe,rs,⟨W,q,w⟩,c⟩;refine⟨env,Fr,_,rs,q,⟨λbm f8 H' q1 ii k1=>⟨bm,Fr,pe,ii,w _ q1,c.later k1⟩,c.rt,c.bk,c.ct⟩⟩
theorem jo{f g:PSt}{pe:PEn}{env:Ev}(W:Ev->Prop)(h1:f {pe with nx:=W} env)(h2:∀e,W e->g pe e):L0 f g pe env:=⟨W,h1,h2⟩
section
variable{X:Cx}{pos:Pos}
noncomputable def FV:T->Bool
 | .dK _ _=>true
 | .dT _ _=>true
 | _=>false
theorem Hq{Γ:Fm}{y:V}(h:Rp X.K H ((t,some y)::Γ))(d:FV t=true):∃a,y=.ref a/\IsD H a:=by
 cases t with
 |dK o kvs=>
  obtain⟨a,vs,rfl,hq,_⟩:=xA h;exact⟨a,rfl,.inl ⟨_,hq⟩⟩
 |dT o kvs=>
  obtain⟨a,vs,rfl,hq,_⟩:=jV h;exact⟨a,rfl,.inr ⟨_,hq⟩⟩
 | _=>cases d
theorem dU{o:Bool}{kvs:List (List Key×T)}:FV (.dT o kvs)=true:=rfl
end
end PL
namespace ZR
open PySem
theorem kB{α β:Type}(f:α->β):∀(l:List α) (i:Nat),(l.map f).eraseIdx i=(l.eraseIdx i).map f
 | [],_=>rfl
 | _::_,0=>rfl
 |a::l,i+1=>by simp only[d_,O7];rw[kB f l i]
theorem jU{prog:Rj}{w:Ro}{K:Type}[DecidableEq K]{knd:XG prog w K}{A:Rw}{E:Q_->Rf->Prop}{s:Rf}{d a:Ra}{xs:List (K×Ra×Q_)}{k:K}{Q:Option Td->Rf->Prop}(hr:knd.room A)(hk:knd.is s.heap k a)(D:UO knd s.heap d xs)(hsz:xs.length<=sizeLine)
  (h0:(∀(j:Nat) (p:Ra×Q_),xs[j]?≠some (k,p))->∀tk,Q none {s with toks:=tk})
  (h1:∀(j:Nat) (p:Ra×Q_),xs[j]?=some (k,p)->∀h' tk,UO knd h' d (xs.eraseIdx j)->RN d s.heap h'->Q (some (UE knd (k,p))) {s with heap:=h',toks:=tk}) :
  Rh (Rn prog w) A (WB d (.ref a)) Q E s:=by
 obtain⟨o,es,ep,ho,hx,hd,he,his,hnd⟩:=D;unfold WB;refine Ry (Q9 (knd.pyHash hr hk ?_));refine Q9 (WQ hr hk ho hd he his hnd (λhn=>?_) (λj p hj=>?_))
 ·exact Rc (h0 hn _)
 refine Q9 (RY ho hd ?_);have hj':es[j]?=some (UE knd (k,p)):=by
  rw[<-A_,he,o_,hj]
  rfl
 rw[hj'];have hes:es.size=xs.length:=by rw[<-l_,he,a_]
 have hjl:j<es.size:=by rw[hes];exact(e_.mp hj).1
 refine Q9 (wpAny_updateDictKeys ho hd ?_ (by lia) (by have:=size_eraseIdxIfInBounds_le es j;lia));refine Rc (h1 j p hj _ _ ?_ (RD _ _ _));refine⟨_,_,ep+1,RR _ ho (Obj.isFreed_of_dict (WC hd _)),hx.mapDictKeys _,WC hd _,?_,λx hxm=>?_,?_⟩
 ·rw[Array.toList_eraseIdxIfInBounds,he,ZR.kB]
 ·exact knd.keeps (his x ((Oo xs j).subset hxm)) ho hd (RD ..)
 exact List.Nodup.sublist ((Oo xs j).map _) hnd
theorem wj{prog:Rj}{w:Ro}{K:Type}[DecidableEq K](kn:XG prog w K)(dd ak:Ra)(more:List Q_)(hmore:more=[]\/∃y,more=[y]) :
  Zm prog w (R9.«dict.pop» ⟨.ref dd::.ref ak::more,[]⟩) (λA R s=>kn.room A.in1/\∃k xs j p,kn.is s.heap k ak/\UO kn s.heap dd xs/\xs.length<=sizeLine/\xs[j]?=some (k,p)/\
   ∀h' tk,UO kn h' dd (xs.eraseIdx j)->RN dd s.heap h'->R (.ok (.ret p.2)) {s with heap:=h',toks:=tk}):=
 .of_wp λA R s ⟨hu,k,xs,j,p,hk,D,hsz,hj,fin⟩=>by
  have D':=D;obtain⟨o,es,ep,ho,hx,hd,he,his,hnd⟩:=D';have ld:es.isEmpty=false:=by
   have hes:es.size=xs.length:=by rw[<-l_,he,a_]
   have hjl:=(e_.mp hj).1;cases hb:es.isEmpty with
   |false=>rfl
   |true=>rw[Array.isEmpty_iff_size_eq_zero]at hb;lia
  unfold R9.«dict.pop»;refine Q9 ?_;unfold Vi;refine Q9 (Tn (WR D) ?_);have kp:(keyPart (.ref ak)).isSome=false:=rfl;rcases hmore with rfl|⟨y,rfl⟩
  ·show Rh _ _ (pure (dd,Rz ak,none)) _ _ s;refine Rc ?_;simp only[kp,I_,if_false];refine Q9 (RY ho hd (Q9 (Rc ?_)));simp only[ld,I_,if_false];refine Q9 (ZR.jU hu hk D hsz (λhno=>absurd hj (hno j p)) (λi q hi h' tk D2 sb=>?_));obtain rfl:=Zg hnd hi hj;obtain rfl:q=p:=by rw[hj]at hi;exact(congrArg (·.2) (H_ hi)).symm
   simp only[PR,I_,if_false];exact Q9 (Uw (Rc ⟨_,rfl,fin h' tk D2 sb⟩))
  show Rh _ _ (pure (dd,Rz ak,(some y))) _ _ s;refine Rc ?_;simp only[kp,I_,if_false];refine Q9 (RY ho hd (Q9 (Rc ?_)));simp only[ld,I_,if_false];refine Q9 (ZR.jU hu hk D hsz (λhno=>absurd hj (hno j p)) (λi q hi h' tk D2 sb=>?_));obtain rfl:=Zg hnd hi hj;obtain rfl:q=p:=by rw[hj]at hi;exact(congrArg (·.2) (H_ hi)).symm
  simp only[PR,I_,if_false];exact Q9 (Uw (Rc ⟨_,rfl,fin h' tk D2 sb⟩))
end ZR
namespace L2
open PySem PySem.Spec PyProof.Rows
variable {kvs:List (List Key×V)}{xs:List (List Key×Ra×Q_)}
theorem KT.erase {H:Hp}(r:KT H kvs xs):∀j,KT H (kvs.eraseIdx j) (xs.eraseIdx j):=by
 induction r with
 |nil=>intro j;exact .nil
 |cons h t ih=>
  intro j;cases j with
  |zero=>exact t
  |succ j=>exact .cons h (ih j)
theorem KT.get {H:Hp}(r:KT H kvs xs):∀{j:Nat}{k:List Key}{v:V},kvs[j]?=some (k,v)->∃p,xs[j]?=some (k,p)/\RelV v p.2:=by
 induction r with
 |nil=>intro j k v e;cases e
 | @cons p q ps qs h t ih=>
  intro j k v e;cases j with
  |zero=>
   cases e;obtain⟨q1,q2⟩:=q;obtain⟨rfl,_,h3⟩:=h;exact⟨q2,rfl,h3⟩
  |succ j=>exact ih e
section
variable{X:Cx}{A:Rw}{E:Q_->Rf->Prop}{ac:List (Ra×Obj)}{σ:St}{H:Hp}{s:Rf}{a b:Ra}
theorem IQ{k:List Key}{v:V}{j:Nat}{more:List Q_}{Q:Q_->Rf->Prop}(hu:A.units+1<cLine)(I:Inv X ac σ H s)(e:H a=some (.dT kvs))(eb:H b=some (.tup (k.map kV)))(hj:kvs[j]?=some (k,v))(hm:more=[]\/∃x,more=[x])
  (h:∀w' s',Inv X ac σ (upd H a (.dT (kvs.eraseIdx j))) s'->RelV v w'->Q w' s'):Rh (Rn X.prog X.w) A (call (.builtin "dict.pop") (.ref a::.ref b::more)) Q E s:=by
 obtain⟨z,hd,xs,rel,dd⟩:=D9 I.hok e;have hz:xs.length<=sizeLine:=by rw[<-Sg rel];exact z
 obtain⟨p,hx,rp⟩:=rel.get hj;have ha:X6 "dict.pop" ⟨.ref a::.ref b::more,[]⟩:=by
  rcases hm with q|⟨x,q⟩
  ·subst q;exact PySem.F.args_dict_pop_2 _ _
  subst q;exact VN _ _ _
 refine W7 UD dd.typeIs V6 ha (ZR.wj (Sl (br X.prog X.w)) a b more hm) ⟨Tc hu,k,xs,j,p,mD I.hok eb,dd,hz,hx,λh' tk dd' hs=>h _ _ ?_ rp⟩;obtain⟨q,es,ep,hq,h2,h3,h4,_,h5⟩:=dd';have hl:(kvs.eraseIdx j).length<=sizeLine:=G' (List.length_eraseIdx_le ..) z;refine mW I (by rw[e];exact TU) hs ⟨q,hq⟩ ⟨hl,hd,_,(rel.erase j).keeps λc ys ec=>?_,q,es,ep,hq,h2,h3,h4,h5⟩;rw[aH (zb ec e (λz=>nomatch z))];exact ec
end
end L2
namespace PL
open PySem PySem.Spec PyProof.Rows L2
variable {kvs:List (List Key×T)}
section
variable{X:Cx}{pos:Pos}
theorem v5:∀{ts:List T}{vs:List V}{j:Nat}{t:T}{v:V},ts[j]?=some t->vs[j]?=some v->(zz ts vs).Perm ((t,some v)::zz (ts.eraseIdx j) (vs.eraseIdx j))
 | [],_,_,_,_,h,_=>by cases h
 | _::_,[],_,_,_,_,h=>by cases h
 |a::ts,b::vs,0,t,v,h,g=>by cases h;cases g;exact .refl _
 |a::ts,b::vs,j+1,t,v,h,g=>by have:=v5 (ts:=ts) (vs:=vs) (j:=j) h g;exact(N2 (a,some b) this).trans (.swap _ _ _)
theorem iA{α β:Type}(f:α->β):∀(l:List α) (j:Nat),(l.eraseIdx j).map f=(l.map f).eraseIdx j
 | [],_=>rfl
 | _::_,0=>rfl
 |a::l,j+1=>by rw[O7,d_,iA f l j];rfl
noncomputable def kF(kvs:List (List Key×T))(q:List Key):Option (T×List (List Key×T)):=(kvs.findIdx? λkv=>decide (kv.1=q)).bind λj=>(kvs[j]?).map λkv=>(kv.2,kvs.eraseIdx j)
theorem uG{q:List Key}{r:T×List (List Key×T)}(h:kF kvs q=some r):∃j,kvs[j]?=some (q,r.1)/\r.2=kvs.eraseIdx j:=by
 unfold kF at h;cases e:kvs.findIdx? λkv=>decide (kv.1=q)with
 |none=>rw[e]at h;cases h
 |some j=>
  rw[e,Oj]at h;obtain⟨hj,hq,_⟩:=Np.mp e;rw[b_ hj]at h;cases h;refine⟨j,?_,rfl⟩;rw[b_ hj];have:=of_decide_eq_true hq;rw[<-this]
def yO(t y:T)(k:T->T->Prop):Prop:=match t with
 | .dT true kvs=>match y with
  | .tup ks=>got (iJ ks) λq=>got (kF kvs q) λr=>k (.dT true r.2) r.1
  | _=>False
 | _=>False
theorem HY{H:Hp}{Γ:Fm}{t y:T}{v w:V}{k:T->T->Prop}(h:Rp X.K H ((t,some w)::(y,some v)::Γ))(g:yO t y k):∃a kvs q b j x u t',w=.ref a/\H a=some (.dT kvs)/\v=.ref b/\H b=some (.tup (q.map kV))/\kvs[j]?=some (q,x)/\k t' u/\∀H',Put H a (.dT (kvs.eraseIdx j)) H'->Rp X.K H' ((u,some x)::(t',some (.ref a))::Γ):=by
 unfold yO at g;split at g
 ·rename_i kvs;cases y <;> first|exact Rt g|skip
  rename_i ks;obtain⟨q,eq,g⟩:=aF g;obtain⟨r,er,kt⟩:=aF g;obtain⟨j,hj,e2⟩:=uG er;obtain⟨b,rfl,hb⟩:=mY eq (h.perm (.swap _ _ _));obtain⟨a,vs,ea,ha,la,ge⟩:=qS h;cases ea;have hk:(vs.map (·.1))[j]?=some q:=by rw[<-la,o_,hj];rfl
  rw[o_]at hk;cases ev:vs[j]? with
  |none=>rw[ev]at hk;cases hk
  |some p=>
   rw[ev]at hk;obtain⟨p1,x⟩:=p;have:p1=q:=by simpa using hk
   subst this;refine⟨a,vs,p1,b,j,x,r.1,_,rfl,ha,rfl,hb,ev,kt,λH' hp=>?_⟩;have e3:(kvs.map (·.2))[j]?=some r.1:=by rw[o_,hj];rfl
   have e4:(vs.map (·.2))[j]?=some x:=by rw[o_,ev];rfl
   rw[e2];have gl:Rp X.K H ((.bare,some (.ref a))::(zz ((kvs.eraseIdx j).map (·.2)) ((vs.eraseIdx j).map (·.2))++((r.1,some x)::Γ))):=by
    rw[iA,iA];have:Rp X.K H ((.tup ks,some (.ref b))::((.bare,some (.ref a))::(zz ((kvs.map (·.2)).eraseIdx j) ((vs.map (·.2)).eraseIdx j)++((r.1,some x)::Γ)))):=ge.perm (by refine r_ (.cons _ ((v5 e3 e4).append_right _)) ?_;refine r_ (.cons _ (.cons _ f')) ?_;refine r_ (.cons _ (.swap _ _ _)) ?_;refine r_ (.swap _ _ _) (.cons _ (.cons _ ?_));exact f'.symm)
    exact this.tail
   exact(rQ gl (by rw[iA,iA,la]) hp).perm (.swap _ _ _)
 exact Rt g
theorem Ep{ks:List T}{k:T->T->Prop}:yO (.dT true kvs) (.tup ks) k=i6 (iJ ks) (k:=⟨λq=>i6 (kF kvs q) (k:=⟨λr=>k (.dT true r.2) r.1⟩)⟩):=rfl
end
end PL
namespace ZR
open PySem
theorem uk{prog:Rj}{w:Ro}{K:Type}[DecidableEq K](kn:XG prog w K)(dd ak:Ra)(y:Q_)(hS:(dd == RI)=false) :
  Zm prog w (R9.«dict.pop» ⟨[.ref dd,.ref ak,y],[]⟩) (λA R s=>kn.room A.in1/\∃k xs,kn.is s.heap k ak/\UO kn s.heap dd xs/\xs.length<=sizeLine/\(∀(j:Nat) (p:Ra×Q_),xs[j]?≠some (k,p))/\
   ∀tk,R (.ok (.ret y)) {s with toks:=tk}):=
 .of_wp λA R s ⟨hu,k,xs,hk,D,hsz,hj,fin⟩=>by
  have D':=D;obtain⟨o,es,ep,ho,hx,hd,he,his,hnd⟩:=D';unfold R9.«dict.pop»;refine Q9 ?_;unfold Vi;refine Q9 (Tn (WR D) ?_);have kp:(keyPart (.ref ak)).isSome=false:=rfl;show Rh _ _ (pure (dd,Rz ak,(some y))) _ _ s;refine Rc ?_;simp only[kp,I_,if_false];refine Q9 (RY ho hd (Q9 (Rc ?_)));cases hb:es.isEmpty with
  |true=>
   simp only[if_true];refine Q9 (Ss ?_);refine Q9 (Rc ?_);simp only[PU,if_true];refine Q9 (Vr hS ?_);exact Q9 (Ss (Rc ⟨_,rfl,fin s.toks⟩))
  |false=>
   simp only[I_,if_false];refine Q9 (ZR.jU hu hk D hsz (λhno tk=>?_) (λi q hi h' tk D2 sb=>absurd hi (hj i q)));simp only[PU,if_true];refine Q9 (Vr hS ?_);exact Q9 (Ss (Rc ⟨_,rfl,fin tk⟩))
end ZR
namespace L2
open PySem PySem.Spec PyProof.Rows
variable {kvs:List (List Key×V)}
theorem KT.back {H:Hp}{xs:List (List Key×Ra×Q_)}(r:KT H kvs xs):∀{j:Nat}{k:List Key}{p:Ra×Q_},xs[j]?=some (k,p)->∃v,kvs[j]?=some (k,v):=by
 induction r with
 |nil=>intro j k v e;cases e
 | @cons p q ps qs h t ih=>
  intro j k v e;cases j with
  |zero=>
   cases e;obtain⟨p1,p2⟩:=p;obtain⟨rfl,_,_⟩:=h;exact⟨p2,rfl⟩
  |succ j=>exact ih e
section
variable{X:Cx}{A:Rw}{E:Q_->Rf->Prop}{ac:List (Ra×Obj)}{σ:St}{H:Hp}{s:Rf}{a b:Ra}
theorem HX{k:List Key}{x:Q_}{Q:Q_->Rf->Prop}(hu:A.units+1<cLine)(I:Inv X ac σ H s)(e:H a=some (.dT kvs))(eb:H b=some (.tup (k.map kV)))(hj:∀p∈kvs,p.1≠k)
  (h:∀s',Inv X ac σ H s'->Q x s'):Rh (Rn X.prog X.w) A (call (.builtin "dict.pop") [.ref a,.ref b,x]) Q E s:=by
 obtain⟨z,hd,xs,rel,dd⟩:=D9 I.hok e;have hz:xs.length<=sizeLine:=by rw[<-Sg rel];exact z
 refine W7 UD dd.typeIs V6 (VN _ _ _) (ZR.uk (Sl (br X.prog X.w)) a b x hd) ⟨Tc hu,k,xs,mD I.hok eb,dd,hz,λj p hx=>?_,λtk=>h _ (I.kept (t':=tk) λb ob q=>q)⟩;obtain⟨v,ev⟩:=rel.back hx;exact hj _ (F_ ev) rfl
end
end L2
namespace PL
open PySem PySem.Spec PyProof.Rows L2
variable {H:Hp}{env:Ev}{i:Nat}{kvs:List (List Key×T)}{Γ:Fm}
section
variable{X:Cx}{pos:Pos}
theorem Bl{q:List Key}(h:kF kvs q=none):∀p∈kvs,p.1≠q:=by
 unfold kF at h;cases e:kvs.findIdx? λkv=>decide (kv.1=q)with
 |none=>
  intro p m z;have:=OU.mp e p m;rw[decide_eq_true z]at this;cases this
 |some j=>
  rw[e,Oj]at h;obtain⟨hj,_,_⟩:=Np.mp e;rw[b_ hj]at h;cases h
def oy(t y z:T)(k:T->T->Prop):Prop:=match t with
 | .dT true kvs=>match y with
  | .tup ks=>got (iJ ks) λq=>match kF kvs q with
   |some r=>k (.dT true r.2) r.1
   |none=>k (.dT true kvs) z
  | _=>False
 | _=>False
def Dl(i:Nat)(fe ff:PF):PF:=λenv k=>got (env[i]?) λt0=>FV t0=true/\fe env λy al=>ff al λz bn=>got (bn[i]?) λt=>oy t y z λt' u=>k u (bn.set i t')
theorem Fv{t y z:T}{v w u:V}{k:T->T->Prop}(h:Rp X.K H ((t,some w)::(y,some v)::(z,some u)::Γ))(g:oy t y z k):∃a kvs q b,w=.ref a/\H a=some (.dT kvs)/\v=.ref b/\H b=some (.tup (q.map kV))/\
  ((∃j x t' u',kvs[j]?=some (q,x)/\k t' u'/\∀H',Put H a (.dT (kvs.eraseIdx j)) H'->Rp X.K H' ((u',some x)::(t',some (.ref a))::Γ))\/((∀p∈kvs,p.1≠q)/\∃t',k t' z/\Rp X.K H ((z,some u)::(t',some (.ref a))::Γ))):=by
 unfold oy at g;split at g
 ·rename_i kvs;cases y <;> first|exact Rt g|skip
  rename_i ks;obtain⟨q,eq,g⟩:=aF g;cases er:kF kvs q with
  |some r=>
   rw[er]at g;have g1:yO (.dT true kvs) (.tup ks) k:=by rw[Ep];exact dc eq (dc er g)
   obtain⟨a,vs,q',b,j,x,u',t',e1,e2,e3,e4,e5,kt,fin⟩:=HY h g1;refine⟨a,vs,q',b,e1,e2,e3,e4,.inl ⟨j,x,t',u',e5,kt,λH' hp=>?_⟩⟩;have:=fin H' hp;have:=this.perm (.trans (.cons _ (.swap _ _ _)) (.swap _ _ _));exact this.tail
  |none=>
   rw[er]at g;obtain⟨b,rfl,hb⟩:=mY eq (h.perm (.swap _ _ _));obtain⟨a,vs,ea,ha,la,ge⟩:=qS h;cases ea;refine⟨a,vs,q,b,rfl,ha,rfl,hb,.inr ⟨λp m=>?_,_,g,?_⟩⟩
   ·have m1:p.1∈vs.map (·.1):=y_ m;rw[<-la]at m1;obtain⟨p',m',e'⟩:=h_.mp m1;rw[<-e'];exact Bl er p' m'
   have:=h.perm (.swap _ _ _);exact this.tail.perm (.swap _ _ _)
 exact Rt g
theorem vn{kr:Nat}{x:Str}{xp:Pos}{e f:Rr}{apos:Pos}{fe ff:PF}(hr:Room kr X.A)(he:GE X e fe)(hf:GE X f ff)(m:M2 X (.Name x xp) "pop" apos e f pos)(hN:X.N[i]?=some x:=by rfl)(hv:Vis X.env.scope x:=by first|exact f_ rfl|exact m_ (f_ rfl)|exact m_ (m_ rfl))(hd:(x ==("__debug__":Str))=false:=by decide)(hcd:(x ==("__classdict__":Str))=false:=by decide):GE X (.Call (.Attribute (.Name x xp) "pop" apos) [e,f] [] pos) (Dl i fe ff):=by
 intro ac s σ H Q I ⟨env,Fr,k,rs,q,c⟩;obtain⟨t0,e0,d0,q⟩:=aF q;obtain⟨y0,ey,rs2⟩:=rs.slot e0;have na:isAny t0=false:=by cases t0 <;> first|rfl|cases d0
 obtain⟨w,rfl⟩:=ik rs2 na;obtain⟨a,rfl,hD⟩:=Hq rs2.head d0;refine wpAny_Call_method m.base m.few m.line PySem.F.plainAttrs_dict UD PySem.F.type_dict_pop (thn (jq hN hv hd hcd ac s σ H (λx H1=>x=.ref a/\H1=H) I ⟨_,ey,rfl,rfl⟩) λu s1 ⟨x1,H1,I1,rx,e1,e2⟩=>?_);subst e1 e2;obtain rfl:u=Rz a:=rx;obtain⟨t1,t2,_⟩:=Jt I1 hD;refine⟨t1,t2,?_⟩;rw[m.trees];refine Uv rfl (Wu (SR (thn (he ac s1 σ H1 _ I1 ⟨env,Fr,_,rs,q,λty al v H2 q2 rs3=>⟨al,_,_,rs3,q2,λtz bn vz H3 q3 rs4=>?_⟩⟩) λiv s2 ⟨y,H2,I2,ry,q2⟩=>SR (thn (hf ac s2 σ H2 (λzv H3=>∃kvs q b,H3 a=some (.dT kvs)/\y=.ref b/\H3 b=some (.tup (q.map kV))/\((∃j x,kvs[j]?=some (q,x)/\Q x (upd H3 a (.dT (kvs.eraseIdx j))))\/((∀p∈kvs,p.1≠q)/\Q zv H3))) I2 q2) λjv s3 ⟨z,H3,I3,rz,kvs,q3,b,h1,h2,h3,h4⟩=>Xe ?_))))
 ·subst h2;cases (show iv=Rz b from ry);rcases h4 with⟨j,x2,h4,h5⟩|⟨h4,h5⟩
  ·exact IQ (lU hr) I3 h1 h3 h4 (.inr ⟨_,rfl⟩) λw' s' I' rw'=>⟨_,_,I',rw',h5⟩
  exact HX (lU hr) I3 h1 h3 h4 λs' I'=>⟨_,_,I',rz,h5⟩
 obtain⟨t,et,g⟩:=aF q3;obtain⟨y',ey',rs5⟩:=rs4.slot et;rw[ey]at ey';cases ey';have hi':i<bn.length:=(e_.mp et).1;have rp4:Rp X.K H3 ((t,some (.ref a))::(ty,some v)::(tz,some vz)::((bn.set i .any).zip σ++Fr)):=rs5.head.perm (.cons _ (r_ f' (r_ (.cons _ f') (.swap _ _ _))));obtain⟨a',kvs,q4,b,ea,h1,h2,h3,h4⟩:=Fv rp4 g;cases ea;have back:∀(H':Hp) (t' u':T) (x:V),Rp X.K H' ((u',some x)::(t',some (.ref a))::((bn.set i .any).zip σ++Fr))->Rs X.K H' (bn.set i t') σ ((u',some x)::Fr):=λH' t' u' x rp5=>by have r5:Rs X.K H' (bn.set i .any) σ ((t',some (.ref a))::(u',some x)::Fr):=.of rs5.1 (rp5.perm (.trans (.swap _ _ _) (.cons _ f'.symm)));have r6:=Rs.kU (i:=i) r5 (by rw[Mc];exact hi') ey;rw[Ox]at r6;exact r6
 refine⟨kvs,q4,b,h1,h2,h3,?_⟩;rcases h4 with⟨j,x2,t',u',h4,kt,fin⟩|⟨h4,t',kt,rp5⟩
 ·exact .inl ⟨j,x2,h4,c _ _ _ _ kt (back _ _ _ _ (fin _ Put.up))⟩
 exact .inr ⟨h4,c _ _ _ _ kt (back _ _ _ _ rp5)⟩
theorem cj{fe ff:PF}{k:T->Ev->Prop}:Dl i fe ff env k=i6 (env[i]?) (k:=⟨λt0=>FV t0=true/\fe env λy al=>ff al λz bn=>i6 (bn[i]?) (k:=⟨λt=>oy t y z λt' u=>k u (bn.set i t')⟩)⟩):=rfl
theorem Eg{ks:List T}{z:T}{k:T->T->Prop}:oy (.dT true kvs) (.tup ks) z k=i6 (iJ ks) (k:=⟨λq=>match kF kvs q with
   |some r=>k (.dT true r.2) r.1
   |none=>k (.dT true kvs) z⟩):=rfl
end
section
variable{X:Cx}
noncomputable def Hm:P2
 | .bl a,.bl b,k=>k (.bl (a != b))
 | _,_,_=>False
theorem cX{a b:Bool}{k:T->Prop}:Hm (.bl a) (.bl b) k=k (.bl (a != b)):=rfl
theorem EV:OpR X (RJ .IsNot) (λx y H Q=>∃a b,x=.bl a/\y=.bl b/\Q (.bl (a != b)) H):=by intro ac s σ H x y v u Q I rx ry h;obtain⟨a,b,rfl,rfl,q⟩:=h;cases rx;cases ry;exact isnot_bool (J3 I q rfl)
theorem Ea:OpP X (RJ .IsNot) Hm:=.of EV λtx ty x y H Γ k Q rp g c=>by
 cases tx <;> cases ty <;> first|exact Rt g|skip
 exact⟨_,_,kA rp.tail,kA rp,c _ _ _ g (dk rp.tail.tail λ_=>.bl)⟩
end
variable {n:Nat}{ts:List T}
section
variable{X:Cx}{κ:Nat->Bool}{es:List Rr}{pos:Pos}{gs:oD}
theorem mV{prog:Rj}{w:Ro}{A:Rw}{E:Q_->Rf->Prop}{s:Rf}{env:Env}{elts:List Rr}{x1}{pos:Pos}{l:Ra}{items:Array Q_}{Q:Unit->Rf->Prop}(hh:A.handled=none)(hl:s.heap.IsList l items)
  (hn:(R' elts env).length=items.size) (hstar:(R' elts env).findIdx? (·.1)=none)
  (h:∀h',TJ s.heap.objs.size s.heap h'->Rh (Rn prog w) A (Vb ((R' elts env).map (·.2)) items.toList) Q E {s with heap:=h'}) :
  Rh (Rn prog w) A (Uc (.Tuple elts x1 pos) env (.ref l)) Q E s:=by
 rw[assign_Tuple];refine Q9 (TH ?_);unfold unpack;rw[hn,hstar];exact Q9 (Ry (PySem.W.kun_itemsOf hh hl h))
theorem Iv{k:Nat}{t:TGs}(hc:X.calm=true)(h:PGs X es t)
  (hn:(R' es X.env).length=n:=by rfl) (hst:(R' es X.env).findIdx? (·.1)=none:=by rfl):PG X (.Tuple es k pos) (λv σ H Q=>∃a xs,v=.ref a/\SqL X.K H a xs/\xs.length=n/\t xs σ H Q):=by
 intro ac s σ H v u Q I r hw;obtain⟨a,xs,e1,hq,hl,hw⟩:=hw;subst e1;cases r;obtain⟨be,rv,ht,hz⟩:=I.list hq;refine mV (I.ok.hd hc) ht.isList (by simp[hn,<-hl,rv.length]) hst λh' hx=>?_
 have I1:L2.Inv X ac σ H {s with heap:=h'}:=I.kept (t':=s.toks) λb o e=>hx b o (s_ (Rm e)) e;exact h ac _ σ H xs _ Q I1 (by simpa using rv) hw
noncomputable def gTq(n:Nat)(f:oD):PG':=λt env k=>match t with
 | .tup ts=>ts.length=n/\f ts env k
 | .cst ts=>ts.length=n/\f ts env k
 | .lst _ ts=>ts.length=n/\f ts env k
 | _=>False
theorem eA{k:Ev->Prop}:gTq n gs (.tup ts) env k=(ts.length=n/\gs ts env k):=rfl
theorem dq{o:Bool}{k:Ev->Prop}:gTq n gs (.lst o ts) env k=(ts.length=n/\gs ts env k):=rfl
theorem yN{x1:Nat}(hc:X.calm=true)(h:GGs κ X es gs)(hn:(R' es X.env).length=n:=by rfl)(hst:(R' es X.env).findIdx? (·.1)=none:=by rfl):GG κ X (.Tuple es x1 pos) (gTq n gs):=by
 rintro ac s σ H v u Q I r ⟨t,env,Fr,k,rs,q,c⟩;cases t with
 |tup ts=>exact iu hc h hn hst ac s σ H v u Q I r ⟨.tup ts,env,Fr,k,rs,q,c⟩
 |cst ts=>exact iu hc h hn hst ac s σ H v u Q I r ⟨.cst ts,env,Fr,k,rs,q,c⟩
 |lst o ts=>
  obtain⟨a,vs,rfl,hq,l,rp⟩:=aD rfl rs.head;refine Iv hc h hn hst ac s σ H _ u Q I r ⟨a,vs,rfl,hq,by rw[<-l];exact q.1,ts,env,Fr,k,l,⟨rs.1,?_⟩,q.2,c⟩;exact rp.perm (q_ _ _ _)
 | _=>exact Rt q
end
open PySem L2
def uq:P1s
 | [.dT _ kvs],k=>∃ks:List (List Int),kvs.map (·.1)=ks.map kI/\(∀q∈ks,q≠[])/\(ks.Nodup->k (.lst true (ks.map iT)))
 | _,_=>False
section
variable{X:Cx}
theorem AL:∀{bs:List Ra}{kvs:List (List Key×V)}{ks:List (List Int)},Ts (λ(b:Ra) (p:List Key×V)=>H b=some (.tup (p.1.map kV))) bs kvs->kvs.map (·.1)=ks.map kI->(∀k∈ks,k≠[])->uS H (bs.map V.ref) ks:=by
 intro bs kvs ks h;induction h generalizing ks with
 |nil=>
  intro e _;cases ks with
  |nil=>exact .nil
  |cons a b=>simp at e
 |cons h t ih=>
  intro e hn;cases ks with
  |nil=>simp at e
  |cons a b=>
   rw[d_,d_,Mu]at e;refine .cons ⟨hn a t_,_,rfl,?_⟩ (ih e.2 λk hk=>hn k (j_ _ hk));rw[h,e.1,HK]
theorem vd(hc:X.calm=true):jJ X (.type "list") uq:=by
 rintro ac s σ H xs us Q I r ⟨ts,Γ,k,l,rp,g,c⟩;unfold uq at g;split at g
 ·rename_i k o kvs;obtain⟨x,rfl⟩:=zz1 l rfl;have rp:Rp X.K H ((.dT o kvs,some x)::Γ):=rp;obtain⟨a,vs,rfl,hq,ek,ge⟩:=jV rp;obtain⟨ks,e1,e2,kt⟩:=g;refine xf hc ac s σ H _ us Q I r ⟨a,vs,rfl,hq,λbs pr nd p H' hp g' e'=>?_⟩;have nd':ks.Nodup:=by rw[<-ek,e1]at nd;exact(J_.mp nd).imp λ{a b} h z=>h (by rw[z])
  refine c _ _ _ (kt nd') ?_;obtain⟨gl,l3⟩:=mZ (AL pr (by rw[<-ek];exact e1) e2) rp.tail;exact jm gl l3 hp g' e'
 exact Rt g
end
theorem Dw{o:Bool}{k:T->Prop}:uq [.dT o kvs] k=∃ks:List (List Int),kvs.map (·.1)=ks.map kI/\(∀q∈ks,q≠[])/\(ks.Nodup->k (.lst true (ks.map iT))):=rfl
variable {Hz:Hp}{K:Rb}
theorem En(vs:List V):RepTs K Hz H (vs.map T.hole) vs []:=by
 induction vs with
 |nil=>exact .nil
 |cons v vs ih=>exact .cons (L:=[]) (M:=[]) rfl .hole ih
variable {vs:List V}
theorem wy:∀{us:List V}{L:List Ra},RepTs K Hz H (vs.map T.hole) us L->us=vs:=by
 induction vs with
 |nil=>intro us L h;cases h;rfl
 |cons v vs ih=>
  intro us L h;cases h with
  |cons e h c=>cases h;rw[ih c]
theorem C7{x:Option V}(h:Rp K H ((.lst true ts,x)::Γ)):∃a vs,x=some (.ref a)/\ts.length=vs.length/\Rp K H ((.lst true (vs.map T.hole),some (.ref a))::(zz ts vs++Γ)):=by
 obtain⟨Hz,N,h,nd,g,d⟩:=h;cases h with
 |cons e h c=>
  rcases h with⟨h,_⟩|⟨v,rfl,h⟩
  ·cases h
  cases h with
  |lstO h1 c1=>exact⟨_,_,rfl,c1.len,Hz,N,.cons (L:=[_]) (M:=_++_) (by rw[e];rfl) (.inr ⟨_,rfl,.lstO h1 (En _)⟩) (c1.toL.app c),nd,g,d⟩
theorem wL{us:List V}(h:Rp K H (zz (vs.map T.hole) us++Γ))(l:vs.length=us.length):us=vs:=by obtain⟨Hz,N,h,nd,g,d⟩:=h;obtain⟨L,M,_,h1,_⟩:=h.split;exact wy (h1.sN (by rw[a_];exact l))
section
variable{X:Cx}{pos lw p p2:Pos}{a e k tg:Rr}{fe fa fk:PF}{fr:PFs}
theorem Bv{t:T}{w:V}(h:Rp X.K H (zz ts vs++Γ))(e:ts[i]?=some t)(f:vs[i]?=some w)(n:aK t=true):Rp X.K H ((t,some w)::(zz ts vs++Γ)):=by obtain⟨r,p⟩:=tX e f;have h1:Rp X.K H ((t,some w)::(r++Γ)):=h.perm (p.append_right Γ);exact(jB h1 n).perm (.cons _ (p.symm.append_right Γ))
theorem DO(l:ts.length=vs.length)(n:aY ts=true)(h:Rp X.K H (zz ts vs++Γ)):∀(is:List Nat),Rp X.K H (zz (is.filterMap (ts[·]?)) (is.filterMap (vs[·]?))++(zz ts vs++Γ))/\(is.filterMap (ts[·]?)).length=(is.filterMap (vs[·]?)).length:=by
 intro is;induction is with
 |nil=>exact⟨h,rfl⟩
 |cons i is ih=>
  by_cases hi:i<ts.length
  ·have e1:ts[i]?=some ts[i]:=b_ hi;have e2:vs[i]?=some (vs[i]'(by omega)):=b_ _;rw[M_ e1,M_ e2];refine⟨?_,congrArg Nat.succ ih.2⟩;have hn:aK ts[i]=true:=by rw[mG,Mk]at n;exact n _ (MG hi)
   have h2:=Bv (Γ:=zz (is.filterMap (ts[·]?)) (is.filterMap (vs[·]?))++Γ) (ih.1.perm (q_ _ _ _)) e1 e2 hn;exact h2.perm (.cons _ (q_ _ _ _))
  rw[Nq (Mj (by omega)),Nq (Mj (by omega))];exact ih
def Hu(fe fa fk:PF):PF:=λenv k=>fe env λt al=>fa al λu bn=>fk bn λv dL=>∃o ts i j,t=.lst o ts/\u=.int i/\v=.int j/\aY ts=true/\0<=i/\0<j/\k (.lst true (ij ts i j)) dL
theorem Aj(he:GE X e fe)(ha:GE X a fa)(hk:GE X k fk):GE X (.Subscript e (.Slice (some a) none (some k) p2) pos) (Hu fe fa fk):=by
 refine PE.imp (Ao he ha hk) ?_;rintro σ H Q ⟨env,Fr,k,rs,q,c⟩;refine⟨env,Fr,_,rs,q,λt al v H1 q1 ii=>⟨al,_,_,ii,q1,λu bn w H2 q2 rs2=>⟨bn,_,_,rs2,q2,λx dL y H3 q3 rs3=>?_⟩⟩⟩;obtain⟨o,ts,i,j,rfl,rfl,rfl,hn,h0,h1,q⟩:=q3;have ey:=aM rs3.head;have ew:=aM rs3.drop.head;obtain⟨a,vs,ea,hq,l,rp⟩:=aD rfl rs3.drop.drop.head;refine⟨i,j,a,vs,ew,ey,h0,h1,ea,hq,λp H' hp g e=>c _ _ _ _ q (.of rs3.1 ?_)⟩;obtain⟨r1,r2⟩:=DO l hn rp (Wy (max 0 (min i ts.length)) ts.length j);have r3:Rp X.K H3 (zz (ij ts i j) (ij vs i j)++(dL.zip σ++Fr)):=by unfold ij;rw[<-l];exact(r1.perm (q_ _ _ _)).part
 exact jm r3 (by unfold ij;rw[<-l];exact r2) hp g e
end
theorem AX:∀{us:List V}{L:List Ra},RepTs K Hz H (vs.map T.hole) us L->L=[]:=by
 induction vs with
 |nil=>intro us L h;cases h;rfl
 |cons v vs ih=>
  intro us L h;cases h with
  |cons e h c=>cases h;rw[e,ih c];rfl
theorem Ar{a:Ra}{us:List T}(l:us.length=vs.length)(h:Rp K H ((.lst true (vs.map T.hole),some (.ref a))::(zz us vs++Γ))):Rp K H ((.lst true us,some (.ref a))::Γ):=by
 obtain⟨Hz,N,h,nd,g,d⟩:=h;cases h with
 |cons e h c=>
  rcases h with⟨h,_⟩|⟨v,ev,h⟩
  ·cases h
  cases ev;cases h with
  |lstO h1 c1=>
   have e1:=wy c1;have e2:=AX c1;subst e1;subst e2;obtain⟨L,M,rfl,k1,k2⟩:=c.split;exact⟨Hz,N,.cons (L:=a::L) (M:=M) (by rw[e];rfl) (.inr ⟨_,rfl,.lstO h1 (k1.sN l)⟩) k2,nd,g,d⟩
theorem GJ:∀{ts:List T}{vs:List V}{i:Nat}{t:T}{w:V},ts[i]?=some t->vs[i]?=some w->∃r,(zz ts vs).Perm ((t,some w)::r)/\∀t',(zz (ts.set i t') vs).Perm ((t',some w)::r)
 | [],vs,i,t,w,e,f=>by simp at e
 |t::ts,[],i,_,w,e,f=>by simp at f
 |t::ts,v::vs,0,u,w,e,f=>by cases e;cases f;exact⟨zz ts vs,.refl _,λt'=>.refl _⟩
 |t::ts,v::vs,i+1,u,w,e,f=>by obtain⟨r,p1,p2⟩:=GJ (ts:=ts) (vs:=vs) (i:=i) e f;exact⟨(t,some v)::r,(p1.cons _).trans (.swap _ _ _),λt'=>((p2 t').cons _).trans (.swap _ _ _)⟩
def yq(i j:Nat)(m:PM)(fr:PFs):PF:=λenv k=>∃us n p t,env[i]?=some (.lst true us)/\env[j]?=some (.int n)/\i≠j/\ixN us.length n=some p/\us[p]?=some t/\isL t=true/\fr (env.set i .any) λts al=>m t ts λt' r=>k r (al.set i (.lst true (us.set p t')))
section
variable{X:Cx}{e:Rr}{es:List Rr}{fr:PFs}{m:PM}{name:Str}{id:String}{apos lv spos xp yp:Pos}{x y:Str}
theorem Lv{j:Nat}:∀ σ H Q,wE X.K (yq i j m fr) σ H Q->tBM X.K "list" (λx xs H Q=>∃t ts Γ k,ts.length=xs.length/\Rp X.K H ((t,some x)::(zz ts xs++Γ))/\m t ts k/\∀t' r v H',k t' r->Rp X.K H' ((r,some v)::(t',some x)::Γ)->Q v H') (tOp (Io X.K) (CU i) (CU j)) (wA X.K fr) σ H Q:=by
 rintro σ H Q ⟨env,Fr,k,rs,⟨us,n,p,t,ei,ej,lf,ep,et,hl,q⟩,c⟩;obtain⟨x0,ex,rs2⟩:=rs.slot ei;obtain⟨a,vs,rfl,l,rp⟩:=C7 rs2.head;have ej2:(env.set i .any)[j]?=some (.int n):=by rw[Nk lf];exact ej
 have rs3:Rs X.K H (env.set i .any) σ ((.lst true (vs.map T.hole),some (.ref a))::(zz us vs++Fr)):=.of rs2.1 (rp.perm (.cons _ (q_ _ _ _)));obtain⟨y0,ey,rs4⟩:=rs3.slot ej2;obtain⟨vj,rfl⟩:=ik rs4 rfl;have evj:=aM rs4.head;subst evj;have hp:p<us.length:=(e_.mp et).1;have ew:vs[p]?=some (vs[p]'(by omega)):=b_ _;have hq:SqL X.K H a vs:=by obtain⟨a',vs',ea,hq,l',rp'⟩:=aD rfl rs3.head;cases ea;rw[a_]at l';rw[wL rp' l']at hq;exact hq
 obtain⟨r,p1,p2⟩:=GJ et ew;refine⟨_,ex,_,ey,a,vs,n,vs[p],rfl,rfl,hq,?_,?_,env.set i .any,_,_,rs3,q,λts al ws H1 q1 l1 ii=>?_⟩
 ·have ep2:ixN vs.length n=some p:=by rw[<-l];exact ep
  unfold atI;rw[ep2];exact ew
 ·refine yv hl (Γ:=r++((.lst true (vs.map T.hole),some (.ref a))::((env.set i .any).zip σ++Fr))) (rs3.2.perm ?_);refine r_ f' ?_;refine r_ ?_ (f' (l₁:=(t,some vs[p])::r)).symm;refine .cons _ ?_;refine r_ (q_ _ _ _) ?_;exact p1.append_right _
 refine⟨t,ts,al.zip σ++((.lst true (vs.map T.hole),some (.ref a))::(r++Fr)),_,l1,?_,q1,λt' r' w H' kt rp5=>c _ _ _ _ kt ?_⟩
 ·refine ii.2.perm ?_;refine r_ (q_ _ _ _) ?_;refine r_ ?_ f';refine MX _ ?_;refine r_ ?_ f';refine MX _ ?_;refine r_ (.cons _ (p1.append_right Fr)) ?_;exact .swap _ _ _
 have rp6:Rp X.K H' ((.lst true (vs.map T.hole),some (.ref a))::(zz (us.set p t') vs++((r',some w)::(al.zip σ++Fr)))):=by refine rp5.perm ?_;refine r_ (.swap _ _ _) ?_;refine r_ ?_ (.cons _ ((p2 t').symm.append_right _));refine r_ ?_ (.swap _ _ _);refine .cons _ ?_;refine r_ (.cons _ f') ?_;refine r_ (.swap _ _ _) (.cons _ ?_);refine r_ (.cons _ (q_ _ _ _)) ?_;exact f'.symm
 have rp7:=Ar (by rw[Mc];exact l) rp6;have rs8:Rs X.K H' al σ ((.lst true (us.set p t'),some (.ref a))::((r',some w)::Fr)):=.of ii.1 (rp7.perm (.cons _ f'.symm));exact Rs.kU rs8 (by rw[rs8.1];exact(e_.mp ex).1) ex
theorem AR(i j:Nat)(slot:Yg "list" name id)(hty:XU (.builtin id)=pure (.type "method_descriptor"))(hm:MtP X id m)(ha:GA X (e::es) fr)(hN:X.N[i]?=some x:=by rfl)(hv:Vis X.env.scope x:=by first|exact f_ rfl|exact m_ (f_ rfl)|exact m_ (m_ rfl))(hd:(x ==("__debug__":Str))=false:=by decide)(hcd:(x ==("__classdict__":Str))=false:=by decide)
  (hN2:X.N[j]?=some y:=by rfl) (hv2:Vis X.env.scope y:=by first|exact f_ rfl|exact m_ (f_ rfl)|exact m_ (m_ rfl)) (hd2:(y ==("__debug__":Str))=false:=by decide) (hcd2:(y ==("__classdict__":Str))=false:=by decide) (hix:tm (.Name y yp):=by intro _ _;rfl)
  (hbase:T4 (.Subscript (.Name x xp) (.Name y yp) spos) name X.env (RF (.Subscript (.Name x xp) (.Name y yp) spos) X.env)=RF (.Subscript (.Name x xp) (.Name y yp) spos) X.env:=by rfl)
  (hfew:((Ta lv (Ru (e::es) X.env)).all (λx=>!x.1)&&(Xu lv (V3 [] X.env)).all (λx=>x.1.isSome)&&decide ((e::es).length+([]:List UY).length+(if([]:List UY).isEmpty then 0 else 1)<30))=true:=by rfl)
  (hline:(apos.endLine == lv.line)=true:=by rfl) (hs:Ru (e::es) X.env=(false,RF e X.env)::Ru es X.env:=by rfl) (hplain:(Ta lv (Ru es X.env)).any (·.1)=false:=by rfl) :
  GE X (.Call (.Attribute (.Subscript (.Name x xp) (.Name y yp) spos) name apos) (e::es) [] lv) (yq i j m fr):=PE.imp (GH Um slot hty hm (Ec uy (jq hN hv hd hcd) (jq hN2 hv2 hd2 hcd2) hix) ha hbase hfew hline hs hplain) Lv
end
end PL
namespace L2
open PySem PySem.Spec PyProof.Rows
theorem B4{α β:Type}{f:α->β}{o m:List β}(h:o.Perm m):∀(l:List α),l.map f=m->∃l':List α,l'.Perm l/\l'.map f=o:=by
 induction h with
 |nil=>exact λl e=>⟨l,.refl _,e⟩
 |cons x p ih=>
  intro l e;cases l with
  |nil=>cases e
  |cons a l=>
   rw[d_]at e;obtain⟨l',p',e'⟩:=ih l (MK e).2;exact⟨a::l',p'.cons a,by rw[d_,e',(MK e).1]⟩
 |swap x y l=>
  intro l2 e;cases l2 with
  |nil=>cases e
  |cons a l2=>
   cases l2 with
   |nil=>cases e
   |cons b l2=>
    rw[d_,d_]at e;have e1:=(MK e).1;have e2:=(MK (MK e).2).1;exact⟨b::a::l2,.swap _ _ _,by rw[d_,d_,e1,e2,(MK (MK e).2).2]⟩
 |trans p q ih1 ih2=>
  intro l e;obtain⟨l2,p2,e2⟩:=ih2 l e;obtain⟨l1,p1,e1⟩:=ih1 l2 e2;exact⟨l1,p1.trans p2,e1⟩
end L2
namespace PL
open PySem PySem.Spec PyProof.Rows L2
def slH(t:T)(i j:Int)[k:Th (T->Prop)]:Prop:=∃o ts,t=.lst o ts/\aY ts=true/\0<=i/\0<j/\k.v (.lst true (ij ts i j))
theorem Il{o:Bool}{ts:List T}{i j:Int}{k:Th (T->Prop)}(h0:0<=i)(h1:0<j)(hn:aY ts=true)(q:k.v (.lst true (ij ts i j))):slH (.lst o ts) i j (k:=k):=⟨o,ts,rfl,hn,h0,h1,q⟩
theorem eV{fe fa fk:PF}{env:Ev}{k:T->Ev->Prop}:Hu fe fa fk env k=fe env λt al=>fa al λu bn=>fk bn λv dL=>asI u (k:=⟨λi=>asI v (k:=⟨λj=>slH t i j (k:=⟨λu=>k u dL⟩)⟩)⟩):=by
 unfold Hu;refine congrArg (fe env) (funext λt=>funext λal=>congrArg (fa al) (funext λu=>funext λbn=>congrArg (fk bn) (funext λv=>funext λdL=>propext ?_)));constructor
 ·rintro⟨o,ts,i,j,rfl,rfl,rfl,a,b,b2,c⟩;exact⟨o,ts,rfl,a,b,b2,c⟩
 intro h;cases u <;> first|exact Rt h|skip
 have h:asI v (k:=_):=h;cases v <;> first|exact Rt h|skip
 obtain⟨o,ts,e,a,b,b2,c⟩:=h;exact⟨o,ts,_,_,e,rfl,rfl,a,b,b2,c⟩
end PL
namespace L2
open PySem PySem.Spec PyProof.Rows
def Itf(o:Obj)(d:Ra):It:=
  ⟨λi H=>∃kvs,Rd H d (.frz o (.dT kvs))/\i<kvs.length,
   λi H v H'=>H'=H/\∀kvs,Rd H d (.frz o (.dT kvs))->∃k x b,kvs[i]?=some (k,x)/\v=.ref b/\H b=some (.tup (k.map kV)),
   λi H=>∃kvs,Rd H d (.frz o (.dT kvs))/\kvs.length<=i⟩
theorem ER{H:Hp}{d:Ra}{o:Obj}{a b:List (List Key×V)}(h:Rd H d (.frz o (.dT a)))(g:Rd H d (.frz o (.dT b))):a=b:=by rcases h with h|⟨o1,h⟩ <;> rcases g with g|⟨o2,g⟩ <;> rw[h]at g <;> cases g <;> rfl
theorem wD{X:Cx}{ac:List (Ra×Obj)}{σ:St}{H:Hp}{s:Rf}{o:Obj}{d:Ra}{kvs:List (List Key×V)}(I:Inv X ac σ H s)(e:Rd H d (.frz o (.dT kvs))) :
  s.heap.get? d=some o/\(d == RI)=false/\∃xs es ep,KT H kvs xs/\o.ExactDict/\o.data=.dict es ep/\es.toList=xs.map (UE (Sl (br X.prog X.w)))/\es.size=kvs.length:=by
 obtain⟨h0,h1,h2,xs,kt,o',es,ep,g1,g2,g3,g4,g5⟩:=(show cz X.prog X.w H s.heap d (.frz o (.dT kvs))from e.ok I.hok);rw[h0]at g1;cases g1;refine⟨h0,h2,xs,es,ep,kt,g2,g3,g4,?_⟩;rw[<-l_,g4,a_];exact(Sg kt).symm
theorem xT{P:Rj}{w:Ro}{K:Rb}{tg:Rr}(o:Obj)(d it:Ra)(es:Array Td)(ep:Nat)(hdat:o.data=.dict es ep):Turn P w K tg (Itf o d) [it] it (λi h=>h.IsKeyIter it d i es.size ep) where
 mem:=by simp
 obj:=λi h st b hb=>by
  have e:b=it:=by simpa using hb
  subst e;obtain⟨oi,q1,q2,q3⟩:=st;exact⟨oi,q1,λv z=>by rw[q3]at z;cases z⟩
 keep:=λi h h' st k=>st.at λoo e=>k it (by simp) oo e
 item:=by
  intro X hP hw hK hc i ac s σ H E I hf st hg;subst hP hw hK;obtain⟨kvs,hq,hx⟩:=hg;obtain⟨h0,h1,xs,es',ep',kt,g2,g3,g4,g5⟩:=wD I hq;rw[hdat]at g3;cases g3;obtain⟨f0,f1,f2,f3,f4,f5⟩:=hf it (by simp);have hi:i<es.size:=by lia
  have hxs:i<xs.length:=by rw[<-l_,g4,a_]at hi;exact hi
  have he:es[i]?=some (UE (Sl (br X.prog X.w)) xs[i]):=by
   rw[<-A_,g4,o_,b_ hxs]
   rfl
  refine ZG.GN st h0 hdat he λh' am sb=>?_;have I1:Inv X ac σ H {s with heap:=h'}:=I.turned (t':=s.toks) (λb ob hb e=>(sb.2 b hb).trans e) f0 f1 f3 f4 f5;obtain⟨oi,q1,q2,q3⟩:=id am;refine⟨_,rfl,ya (s:={s with heap:=h'}) q1 q2 q3 (by decide) ⟨.ref xs[i].2.1,H,I1,rfl,⟨rfl,λlm hk'=>?_⟩,am,λb hb=>(hf b hb).1⟩⟩;cases ER hq hk';obtain⟨p,p1,p2,p3,p4⟩:=qH kt (b_ hxs);exact⟨p.1,p.2,_,p1,rfl,p3⟩
 done:=by intro X hP hw hK hc i ac s σ H E I hf st hg;subst hP hw hK;obtain⟨kvs,hq,hx⟩:=hg;obtain⟨h0,h1,xs,es',ep',kt,g2,g3,g4,g5⟩:=wD I hq;rw[hdat]at g3;cases g3;obtain⟨f0,f1,f2,f3,f4,f5⟩:=hf it (by simp);exact ZG.Li (I.ok.hd hc) st h0 hdat (by rw[Mm];lia) λh' eb=>⟨rfl,I.turned (t':=s.toks) (λb ob hb e=>eb b ob hb e) f0 f1 f3 f4 f5⟩
 self:=λ_ _ _ _ _ st h=>WA st h
def Kz(te:TE):TI:=λσ H R=>te σ H λx H1=>∃d kvs,x=.ref d/\((H1 d=some (.dT kvs)/\∀o H2,Put H1 d (.frz o (.dT kvs)) H2->R (Itf o d) H2)\/∃o,H1 d=some (.frz o (.dT kvs))/\R (Itf o d) H1)
theorem C4{X:Cx}{tg l:Rr}{tl:TE}(hl:PE X l tl):PI X tg l (Kz tl):=by
 intro ac s σ H R I h;refine thn (hl ac s σ H _ I h) ?_;rintro v s1 ⟨x,H1,I1,r1,q1⟩;obtain⟨d,kvs,e,q1⟩:=q1;subst e;cases r1;have key:∀(o:Obj) (H2:Hp),Inv X ac σ H2 s1->H2 d=some (.frz o (.dT kvs))->R (Itf o d) H2->Rh (Rn X.prog X.w) X.A (Ut (.ref d)) (PIE X ac σ tg R) X.xe s1:=λo H2 I2 e2 q2=>by
  obtain⟨h0,h1,xs,es,ep,kt,g2,g3,g4,g5⟩:=ES I2 e2;refine ZG.GU h1 h0 g2 g3 ⟨s1.heap.objs.size,[s1.heap.objs.size],_,_,H2,rfl,I2.kept (t':=s1.toks) λb ob z=>Rg _ z,xT o d _ es ep g3,⟨_,Ri _ rfl,rfl,rfl⟩,λb hb=>?_,q2⟩;have e:b=s1.heap.objs.size:=by simpa using hb
  subst e;exact I2.ve (c_ _) (I2.hok.fresh (c_ _))
 rcases q1 with⟨e1,q⟩|⟨o,e1,q⟩
 ·obtain⟨z,hd,xs,kt,o,es,ep,g1,g2,g3,g4,g5⟩:=(show cz X.prog X.w H1 s1.heap d (.dT kvs)from I1.hok d _ e1);refine key o (upd H1 d (.frz o (.dT kvs))) ?_ aU (q o _ Put.up);refine mW (h':=s1.heap) (t':=s1.toks) (ob:=.frz o (.dT kvs)) I1 (by rw[e1];exact TU) ⟨rfl,λ_ _=>rfl⟩ ⟨o,g1⟩ ⟨g1,z,hd,xs,KT.keeps kt λc zs ec=>?_,o,es,ep,g1,g2,g3,g4,g5⟩;rw[aH (zb ec e1 (λz=>nomatch z))];exact ec
 exact key o H1 I1 e1 q
end L2
namespace PL
open PySem PySem.Spec PyProof.Rows L2
noncomputable def kyI:Key->T
 | .inl i=>.int i
 | .inr (some s)=>.str s
 | .inr none=>.non
def kyT(k:List Key):T:=.tup (k.map kyI)
noncomputable def kpG(o:Obj)(d:Ra)(vs:List (List Key×V)):Hp:=λb=>if b=d then some (.frz o (.dT vs))else none
variable {vs:List (List Key×V)}
section
variable{K:Rb}
theorem zr{H H2:Hp}{d:Ra}{o:Obj}{ts:List (List Key×T)}{Γ:Fm}(h:Rp K H ((.dT false ts,some (.ref d))::Γ))(h1:H d=some (.dT vs)\/H d=some (.frz o (.dT vs)))(h2:H2 d=some (.frz o (.dT vs)))(h3:∀b,b≠d->H2 b=H b):Rp K H2 ((.kp (kpG o d vs),some .non)::(.dT false ts,some (.ref d))::Γ):=by
 obtain⟨Hz,N,h,nd,g,dj⟩:=h;have hz:∃w,Hz d=some w:=by
  cases h with
  |cons e h c=>
   rcases h with⟨z,_⟩|⟨v,ev,h⟩
   ·cases z
   cases ev;cases h with
   |dTZ r _=>exact Rd.some r
 let Z:Hp:=λb=>if b=d then some (.frz o (.dT vs))else Hz b
 have zd:Z d=some (.frz o (.dT vs)):=if_pos rfl;have ze:∀b,b≠d->Z b=Hz b:=λb hb=>if_neg hb;have gz:Gr Hz Z:=λb u r=>by
  by_cases e:b=d
  ·subst e;rcases g b u r with q|⟨o',q⟩ <;> rcases h1 with h1|h1 <;> rw[h1]at q <;> cases q
   ·exact .inr ⟨o,zd⟩
   ·exact .inl zd
   exact .inr ⟨o,zd⟩
  unfold Rd at *;rw[ze b e];exact r
 have gh:Gr Z H2:=λb u r=>by
  by_cases e:b=d
  ·subst e;unfold Rd at *;rw[zd]at r;rw[h2];exact r
  unfold Rd at r;rw[ze b e]at r;have:=g b u r;unfold Rd at *;rw[h3 b e];exact this
 have hd:∀b∈N,b≠d:=λb m z=>by obtain⟨w,e⟩:=hz;rw[<-z,dj b m]at e;cases e
 refine⟨Z,[]++N,.cons rfl (.inr ⟨_,rfl,.kp λb u r=>?_⟩) (h.move (λb xs e=>?_) gz λb m u e=>?_),nd,gh,λb m=>?_⟩
 ·by_cases e:b=d
  ·subst e;unfold Rd kpG at r;rw[if_pos rfl]at r;unfold Rd;rw[zd];exact r
  unfold Rd kpG at r;rw[if_neg e]at r;rcases r with r|⟨_,r⟩ <;> cases r
 ·by_cases z:b=d
  ·subst z;rcases h1 with h1|h1 <;> rw[h1]at e <;> cases e
  rw[h3 b z];exact e
 ·rw[h3 b (hd b m)];exact⟨e,λn=>n⟩
 have m:b∈N:=m;rw[ze b (hd b m)];exact dj b m
theorem sI{H:Hp}{Γ:Fm}:∀(k:List Key),Rp K H Γ->Rp K H (zz (k.map kyI) (k.map kV)++Γ)
 | [],h=>h
 | .inl _::r,h=>dk (sI r h) λ_=>.int
 | .inr (some _)::r,h=>dk (sI r h) λ_=>.str
 | .inr none::r,h=>dk (sI r h) λ_=>.non
theorem C9{o:Obj}{d:Ra}:ItOk K (Itf o d) (vs.map λp=>kyT p.1) [(.kp (kpG o d vs),some .non)] where
 turn:=λi t H Γ ei rp=>by
  have rd:Rd H d (.frz o (.dT vs)):=by
   obtain⟨Hz,N,h,_,g,_⟩:=rp;cases h with
   |cons e h c=>
    rcases h with⟨z,_⟩|⟨v,ev,h⟩
    ·cases z
    cases h with
    |kp gr=>exact g _ _ (gr d _ (.inl (if_pos rfl)))
  rw[o_]at ei;cases e:vs[i]? with
  |none=>rw[e]at ei;cases ei
  |some p=>
   rw[e]at ei;cases ei;refine⟨⟨vs,rd,(e_.mp e).1⟩,λx H' hy=>?_⟩;obtain⟨rfl,hy⟩:=hy;obtain⟨k,w,b,e1,rfl,hb⟩:=hy vs rd;rw[e]at e1;cases e1;exact jD (ts:=k.map kyI) (vs:=k.map kV) (sI k rp) (by rw[a_,a_]) .ip hb
 stop:=λH Γ rp=>by
  have rd:Rd H d (.frz o (.dT vs)):=by
   obtain⟨Hz,N,h,_,g,_⟩:=rp;cases h with
   |cons e h c=>
    rcases h with⟨z,_⟩|⟨v,ev,h⟩
    ·cases z
    cases h with
    |kp gr=>exact g _ _ (gr d _ (.inl (if_pos rfl)))
  exact⟨vs,rd,by rw[a_];exact c_ _⟩
end
def IG(fe:PF):PIt:=λenv k=>fe env λt al=>match t with
 | .dT _ kvs=>k (kvs.map λp=>kyT p.1) al
 | _=>False
section
variable{X:Cx}{pos:Pos}{e tg:Rr}{fe:PF}
theorem t9(h:GE X e fe):GI X tg e (IG fe):=by
 rintro ac s σ H R I ⟨env,Fr,k,rs,q,c⟩;refine C4 h ac s σ H R I ⟨env,Fr,_,rs,q,λt al v H1 q1 ii=>?_⟩;cases t <;> first|exact q1.elim|skip
 rename_i o ts;have rf:Rp X.K H1 ((.dT false (erT ts),some v)::(al.zip σ++Fr)):=mE ii.head;obtain⟨d,vs,rfl,hq,ek,ge⟩:=jV rf;have ek2:ts.map (·.1)=vs.map (·.1):=by
  rw[<-ek];clear ek rf q1 ii ge;induction ts with
  |nil=>rfl
  |cons a l ih=>rw[erT,d_,d_,ih]
 have e3:(ts.map λp=>kyT p.1)=vs.map λp=>kyT p.1:=by have:=congrArg (Mx kyT) ek2;rw[F',F']at this;exact this
 have q1:k (ts.map λp=>kyT p.1) al:=q1;rw[e3]at q1;refine⟨d,vs,rfl,?_⟩;rcases hq with hq|⟨ob,hq⟩
 ·refine .inl ⟨hq,λob H2 p=>c _ _ _ [(.kp (kpG ob d vs),some .non)] _ q1 ?_ C9⟩;have r:=zr (o:=ob) (H2:=H2) rf (.inl hq) p.at_ λb hb=>p.else_ b hb;exact .of ii.1 (r.perm (.swap _ _ _)).tail
 refine .inr ⟨ob,hq,c _ _ _ [(.kp (kpG ob d vs),some .non)] _ q1 ?_ C9⟩;have r:=zr (o:=ob) (H2:=H1) rf (.inr hq) hq λb hb=>rfl;exact .of ii.1 (r.perm (.swap _ _ _)).tail
end
noncomputable def asD(t:T)[k:Th (List (List Key×T)->Prop)]:Prop:=match t with
 | .dT _ kvs=>k.v kvs
 | _=>False
theorem iZ{o:Bool}{kvs:List (List Key×T)}{k:Th (List (List Key×T)->Prop)}:asD (.dT o kvs) (k:=k)=k.v kvs:=rfl
theorem eO{env:Ev}{fe:PF}{ki:List T->Ev->Prop}:IG fe env ki=fe env λt al=>asD t (k:=⟨λkvs=>ki (kvs.map λp=>kyT p.1) al⟩):=by unfold IG asD;refine congrArg (fe env) (funext λt=>funext λal=>?_);cases t <;> rfl
end PL
namespace ZT
open PySem
abbrev Up(l:List Nat):Prop:=l.Pairwise (·<·)
variable {i j:Nat}
theorem zl{l:List Nat}(h:Up l){x y:Nat}(hi:l[i]?=some x)(hj:l[j]?=some y)(lf:i<j):x<y:=by obtain⟨a,rfl⟩:=e_.mp hi;obtain⟨b,rfl⟩:=e_.mp hj;exact MN.mp h i j a b lf
theorem uf{xs:Array Nat}{j:Nat}(hu:Up xs.toList):∀(f lo hi:Nat),lo<=hi->hi<=xs.size->hi-lo<=f->(∀k x,k<lo->xs[k]?=some x->x<j)->(∀k x,hi<=k->xs[k]?=some x->j<=x)->
  Uq xs j f lo hi<=xs.size/\(∀k x,k<Uq xs j f lo hi->xs[k]?=some x->x<j)/\∀k x,Uq xs j f lo hi<=k->xs[k]?=some x->j<=x
 |0,lo,hi,h1,h2,h3,a,b=>by
  have e:lo=hi:=by omega
  subst e;exact⟨h2,a,b⟩
 |f+1,lo,hi,h1,h2,h3,a,b=>by
  unfold Uq;by_cases hl:lo<hi
  ·rw[if_pos hl];have hm:(lo+hi)/2<xs.size:=by omega
   have e:xs.getD ((lo+hi)/2) j=xs[(lo+hi)/2]:=by rw[J',k_ hm];rfl
   have em:xs.toList[(lo+hi)/2]?=some xs[(lo+hi)/2]:=by rw[A_];exact k_ hm
   dsimp only;rw[e];by_cases hx:xs[(lo+hi)/2]<j
   ·rw[if_pos hx];refine uf hu f _ _ (by omega) h2 (by omega) (λk x hk ek=>?_) b;by_cases hk2:k=(lo+hi)/2
    ·subst hk2;rw[k_ hm]at ek;cases ek;exact hx
    exact NX (zl hu (by rw[A_];exact ek) em (by omega)) hx
   rw[if_neg hx];refine uf hu f _ _ (by omega) (by omega) (by omega) a λk x hk ek=>?_
   by_cases hk2:k=(lo+hi)/2
   ·subst hk2;rw[k_ hm]at ek;cases ek;exact MF hx
   have:=zl hu em (by rw[A_];exact ek) (by omega);omega
  rw[if_neg hl];have e:lo=hi:=by omega
  subst e;exact⟨h2,a,b⟩
variable {xs:Array Nat}
theorem kh(j:Nat)(hu:Up xs.toList):RC xs j<=xs.size/\(∀k x,k<RC xs j->xs[k]?=some x->x<j)/\∀k x,RC xs j<=k->xs[k]?=some x->j<=x:=
 uf hu _ _ _ (Me _) (c_ _) (by omega) (λk x hk=>by omega) λk x hk ek=>by rw[Mm hk]at ek;cases ek
theorem below_at(hu:Up xs.toList){x:Nat}(hi:xs[i]?=some x):RC xs (x+1)=i+1:=by
 obtain⟨h1,h2,h3⟩:=kh (x+1) hu;have hlt:i<xs.size:=(OO.mp hi).1;have a:i<RC xs (x+1):=Qi λz=>by have:=h3 i x z hi;omega
 by_cases c:i+1<RC xs (x+1)
 ·have hn:i+1<xs.size:=by omega
  have:=h2 (i+1) _ c (k_ hn);have g:=zl hu (by rw[A_];exact hi) (by rw[A_];exact k_ hn) (MI i);omega
 omega
theorem Fe(hu:Up xs.toList):RC xs 0=0:=by
 obtain⟨h1,h2,h3⟩:=kh 0 hu;refine Nat.eq_zero_of_not_pos λz=>?_;have hn:0<xs.size:=by omega
 have:=h2 0 _ z (k_ hn);omega
theorem rK(hu:Up xs.toList)(hj:xs[RC xs j]?≠some j):Up (RZ xs (RC xs j) j).toList:=by
 obtain⟨h1,h2,h3⟩:=kh j hu;rw[YU];have sp:xs.toList=xs.toList.take (RC xs j)++xs.toList.drop (RC xs j):=(Ni _ _).symm;have hu':=hu;rw[sp]at hu';obtain⟨p,q,r⟩:=Nl.mp hu';have lt:∀x∈xs.toList.take (RC xs j),x<j:=λx hx=>by obtain⟨k,hk,e⟩:=MH.mp hx;rw[L_]at hk;rw[List.getElem_take]at e;exact h2 k x (by omega) (by rw[<-A_,e_];exact⟨by omega,e⟩)
 have gt:∀x∈xs.toList.drop (RC xs j),j<x:=λx hx=>by
  obtain⟨k,hk,e⟩:=MH.mp hx;rw[MP]at hk;rw[List.getElem_drop]at e;have e2:xs[RC xs j+k]?=some x:=by rw[<-A_,e_];exact⟨by omega,e⟩
  refine NY (h3 _ x (by omega) e2) λz=>?_
  subst z;by_cases k0:k=0
  ·subst k0;exact hj e2
  have hb:RC xs j<xs.size:=by rw[l_]at hk;omega
  have g:=zl hu (i:=RC xs j) (j:=RC xs j+k) (by rw[A_];exact k_ hb) (by rw[A_];exact e2) (by omega);have:=h3 _ _ (c_ _) (k_ hb);omega
 exact Nl.mpr ⟨p,MR.mpr ⟨gt,q⟩,λa ha b hb=>by
  rcases i_.mp hb with e|hb
  ·rw[e];exact lt a ha
  exact r a ha b hb⟩
structure Gd (bt:Bool) (t:RT):Prop where
 up:Up t.place.toList
 no:t.dummies=#[]
 led:bt=false->t.led=true
theorem CM(bt:Bool)(f m:Nat):Gd bt (.fresh f m (!bt)):=⟨.nil,rfl,λe=>by rw[e];rfl⟩
variable {t:RT}
theorem mJ{bt:Bool}(h:Gd bt t)(n:Nat):Gd bt (t.standIn n):=⟨by show Up (Array.range n).toList;rw[Array.toList_range];exact N_,rfl,h.led⟩
theorem Ks{bt:Bool}(h:Gd bt t)(n:Nat):Gd bt (t.orStandIn n):=by
 unfold ZI;split
 ·exact h
 exact mJ h n
theorem pF(j:Nat):YV #[] j=false:=rfl
theorem xQ{bt:Bool}(h:Gd bt t)(e:t.slot j=.empty):t.place[RC t.place j]?≠some j:=λz=>by unfold T8 at e;dsimp only at e;rw[z,if_pos (beq_self_eq_true _)]at e;cases e
theorem oV{t:RT}(hd:t.dummies=#[]){H:Nat->Int}{h:Int}:∀(f:Nat) (p:R_) (j:Nat) (d:Option Nat),p.dummy=none->TN t H h f p=some (.empty j d)->t.slot j=.empty/\d=none
 |0,p,j,d,_,e=>by cases e
 |f+1,p,j,d,hp,e=>by
  unfold TN at e;split at e
  ·rename_i z;cases e;exact⟨z,hp⟩
  ·rename_i z;unfold T8 at z;dsimp only at z;rw[hd,pF]at z;split at z <;> first|cases z|(rename_i q;split at z <;> cases z)
  have ad:(t.advance p).dummy=none:=by unfold T1;split <;> exact hp
  split at e
  ·cases e
  exact oV hd f _ j d ad e
theorem IA{bt:Bool}(h:Gd bt t)(e:t.slot j=.empty):Gd bt (t.put j).1:=by
 refine⟨rK h.up (xQ h e),?_,h.led⟩;show(if YV t.dummies j then _ else t.dummies)=#[];rw[h.no]
 rfl
theorem IE{bt:Bool}(h:Gd bt t)(es:Array (Int×Q_))(k:Int)(x:Q_):Gd bt (layNew t es k x).2.1:=by
 unfold layNew;split
 ·rename_i slot wd e;have hs:t.slot slot=.empty:=by
   unfold ZM at e;split at e
   ·rename_i j d q;cases e;obtain⟨a,b⟩:=oV h.no _ _ _ _ rfl q;rw[b];exact a
   cases e
  exact Ks (IA h hs) _
 exact mJ h _
theorem BG{bt:Bool}(h:Gd bt t)(es:Array (Int×Q_))(n:Nat):Gd bt (VH t es n).2.1:=by
 unfold VH;split
 ·rename_i t' order e;dsimp only;split
  ·unfold Z7 WK at e;cases q:Vn (Sm n-1) (es.map λx=>x.1)with
   |none=>rw[q]at e;cases e
   |some ow=>
    rw[q]at e;cases e;refine⟨?_,rfl,h.led⟩;show List.Pairwise (λx y=>x<y) (Mx (λx=>x.1) (List.filterMap (λj=>(ow.getD j none).map λy=>(j,y)) (p_ (Sm n-1+1))));rw[J_,O8];refine List.Pairwise.imp (λ{a b} hab c hc d hd=>?_) N_;obtain⟨_,_,ec⟩:=MV.mp hc;obtain⟨_,_,ed⟩:=MV.mp hd;rw[<-ec,<-ed];exact hab
  exact mJ h _
 exact mJ h _
open PySem PyProof.Rows
variable {S:Int->Prop}{a:Ra}{ep m:Nat}{es:Array (Int×Q_)}{h:Rq}{ns:List Int}{o:Obj}{vs:List Q_}
section
variable{prog:Rj}{w:Ro}{A:Rw}{E:Q_->Rf->Prop}{s:Rf}
abbrev bt(w:Ro):Bool:=w.params.followText "set-order"
structure SI (prog:Rj) (w:Ro) (o:Obj) (ks:List Int) (es:Array (Int×Q_)) (ep:Nat) (t:RT):Prop where
 ex:o.ExactSet
 dat:o.data=.set es ep t
 el:ElemsOf (Tg prog w) es.toList
 rd:SF (es.toList.map (·.2)) ks
 nd:ks.Nodup
 sm:es.size<scanBound
 ft:t.fits es.size=true
 gd:Gd (bt w) t
noncomputable def SG(prog:Rj)(w:Ro)(h:Rq)(a:Ra)(S:Int->Prop)(n:Nat):Prop:=∃o ks es ep t,h.get? a=some o/\SI prog w o ks es ep t/\(∀z,z∈ks↔S z)/\ks.length<=n
theorem lE:∀{vs:List Q_}{ns:List Int},SF vs ns->vs.length=ns.length
 | _,_,.nil=>rfl
 | _,_,.cons n t h=>by rw[gV,gV,lE h]
theorem Hx{k i:Int}{t:Tok}:(Tg prog w).is k (.int i t)=decide (k=i):=KeyKind.is_eq_decide (Vs prog w i t) k
theorem pV:∀{es:List (Int×Q_)}{ks:List Int},SF (es.map (·.2)) ks->∀k,k∈ks↔∃e∈es,(Tg prog w).is k e.2=true
 | [],_,.nil,k=>⟨λh=>(nomatch h),λ⟨e,h,_⟩=>(nomatch h)⟩
 | (h0,_)::es,_,.cons n t h,k=>by
  rw[i_,pV h k];constructor
  ·rintro(rfl|⟨e,m,q⟩)
   ·exact⟨_,.head _,Vs _ _ _ _⟩
   exact⟨e,.tail _ m,q⟩
  rintro⟨e,m,q⟩;rcases i_.mp m with rfl|m
  ·exact .inl (of_decide_eq_true (by rw[<-Hx (prog:=prog) (w:=w) (t:=t)];exact q))
  exact .inr ⟨e,m,q⟩
theorem lJ:∀{us vs:List Q_},us.Perm vs->∀{ns:List Int},SF us ns->∃ms,SF vs ms/\ns.Perm ms:=by
 intro us vs p;induction p with
 |nil=>exact λh=>⟨_,h,.refl _⟩
 |cons x p ih=>
  intro ns h;cases h with
  |cons n t h=>
   obtain⟨ms,a,b⟩:=ih h;exact⟨n::ms,.cons n t a,.cons n b⟩
 |swap x y l=>
  intro ns h;cases h with
  |cons n t h=>
   cases h with
   |cons m u h=>exact⟨_,.cons m u (.cons n t h),.swap _ _ _⟩
 |trans p q ih jh=>
  intro ns h;obtain⟨ms,a,b⟩:=ih h;obtain⟨ls,c,d⟩:=jh a;exact⟨ls,c,b.trans d⟩
theorem Ah{n:Int}{t:Tok}(h:SF vs ns):SF (vs++[.int n t]) (ns++[n]):=by
 induction h with
 |nil=>exact .cons n t .nil
 |cons m u h ih=>exact .cons m u ih
theorem stored{es':Array (Int×Q_)}{t':RT}(ho:h.get? a=some o)(hd:o.data=.set es ep t) :
  (h.update a (UP es' t')).get? a=some {o with data:=.set es' (ep+1) t'}:=by
 have e:=RR (UP es' t') ho (by rw[putSet_of es' t' hd];rfl);rw[putSet_of es' t' hd]at e;exact e
theorem uL{g:Bool->Sem Unit}(hg:∀(b:Bool) (s₁:Rf) (Q':Unit->Rf->Prop),Q' () s₁->Rh (Rn prog w) A (g b) Q' E s₁)
  {a:Ra}{o:Obj}{es es1:Array (Int×Q_)}{ep:Nat}{t t2:RT}{ks:List Int} (ho:s.heap.get? a=some o) (hd:o.data=.set es ep t)
  (hI:SI prog w {o with data:=.set es1 (ep+1) t2} ks es1 (ep+1) t2) {wd:Bool} {R:Option Bool->Rf->Prop}
  (h:∀h' o' es' ep' t' ks',RN a s.heap h'->h'.get? a=some o'->SI prog w o' ks' es' ep' t'->ks'.Perm ks->R (some true) {s with heap:=h'}) :
  Rh (Rn prog w) A (YW a es1 t2 >>= λ_=>if(!wd&&t2.tooFull)=true then g (VH t2 es1 (Sy es1.size)).2.2 >>= λ_=>YW a (VH t2 es1 (Sy es1.size)).1 (VH t2 es1 (Sy es1.size)).2.1 >>= λ_=>pure (some true)else pure (some true)) R E s:=by
 refine Q9 (Ur ho hd ?_ (TQ hI.sm));have e1:=stored (es':=es1) (t':=t2) ho hd;have b1:=RD s.heap a (UP es1 t2);split
 ·have hp:=relayAll_perm t2 es1 (Sy es1.size);have hf:=relayAll_fits t2 es1 (Sy es1.size);have hG:=BG hI.gd es1 (Sy es1.size);generalize VH t2 es1 (Sy es1.size)=Rl at hp hf hG ⊢;obtain⟨es2,t3,gave⟩:=Rl;dsimp only at hp hf hG ⊢;have sz:es2.size=es1.size:=by rw[<-l_,hp.length_eq,l_]
  have sm2:es2.size<scanBound:=by rw[sz];exact hI.sm
  obtain⟨ks2,rd2,kp⟩:=lJ (hp.symm.map (·.2)) hI.rd;refine Q9 (hg _ _ _ (Q9 (Ur e1 rfl ?_ (TQ sm2))));have e2:=stored (es':=es2) (t':=t3) e1 rfl;exact Rc (h _ _ es2 _ t3 ks2 (b1.trans (RD _ a _)) e2 ⟨hI.ex,rfl,hI.el.perm hp,rd2,kp.nodup_iff.mp hI.nd,sm2,hf,hG⟩ kp.symm)
 exact Rc (h _ _ es1 _ t2 ks b1 e1 hI (.refl _))
theorem add_int{n:Int}{tk:Tok}{Q:Bool->Rf->Prop}(hS:SG prog w s.heap a S m)(hm:m+1<scanBound)
  (h:∀b h',RN a s.heap h'->SG prog w h' a (λz=>S z\/z=n) (m+1)->Q b {s with heap:=h'}) :
  Rh (Rn prog w) A (VI a (.int n tk) ((Tg prog w).hash n)) Q E s:=by
 obtain⟨o,ks,es,ep,t,ho,I,mem,kl⟩:=hS;have kn:es.size=ks.length:=by rw[<-lE I.rd,a_,l_]
 have hk:=Vs prog w n tk;unfold VI Ym;refine Ry (Q9 (R7 ho I.dat I.ft ?_));dsimp only;rw[byScan_of rfl I.sm I.el,if_pos rfl];unfold setAddByScan;refine Q9 (Q9 (Ss (Q9 (wpAny_setScan_of hk ho I.dat I.ft I.el ?_))));cases hr:List.findIdx? (λe=>(Tg prog w).is n e.2) es.toList with
 |some j=>
  dsimp only;obtain⟨hj,pj,_⟩:=Np.mp hr;have hn:n∈ks:=(pV (prog:=prog) (w:=w) I.rd n).mpr ⟨_,MG hj,pj⟩;refine Rc (Rc ?_);exact h _ s.heap (ZN a s.heap) ⟨o,ks,es,ep,t,ho,I,λz=>by rw[mem z];exact⟨.inl,λq=>q.elim id λe=>by rw[e];exact(mem n).mp hn⟩,by omega⟩
 |none=>
  dsimp only;have hn:n ∉ ks:=λz=>by obtain⟨e,me,q⟩:=(pV (prog:=prog) (w:=w) I.rd n).mp z;have:=OU.mp hr e me;rw[q]at this;cases this
  have pm:=layNew_perm t es ((Tg prog w).hash n) (.int n tk);have ft:=layNew_fits t es ((Tg prog w).hash n) (.int n tk);have gd:=IE I.gd es ((Tg prog w).hash n) (.int n tk);generalize layNew t es ((Tg prog w).hash n) (.int n tk)=L at pm ft gd ⊢;obtain⟨es1,t1,wd,gave⟩:=L;dsimp only at pm ft gd ⊢;rw[OS]at pm;have s1:es1.size=es.size+1:=by rw[<-l_,pm.length_eq,n_,l_];rfl
  have el1:ElemsOf (Tg prog w) es1.toList:=(I.el.push hk rfl).perm pm;have rdp:SF (Mx (·.2) (es.toList++[((Tg prog w).hash n,Sk n tk)])) (ks++[n]):=by rw[z_];exact Ah I.rd
  obtain⟨ks1,rd1,kp⟩:=lJ (pm.symm.map (·.2)) rdp;have nd1:ks1.Nodup:=kp.nodup_iff.mp (MT.mpr ⟨I.nd,E_.mpr ⟨(nomatch ·),NC⟩,λx hx y hy e=>by rw[x_.mp hy]at e;exact hn (e▸hx)⟩);have fin:∀h' o' es' ep' t' ks',RN a s.heap h'->h'.get? a=some o'->SI prog w o' ks' es' ep' t'->ks'.Perm ks1->Q true {s with heap:=h'}:=λh' o' es' ep' t' ks' b g I' p=>by
   refine h _ h' b ⟨o',ks',es',ep',t',g,I',λz=>?_,?_⟩
   ·rw[p.mem_iff,<-kp.mem_iff,C',mem z,x_]
   rw[p.length_eq,<-kp.length_eq,n_];exact O0 kl
  have gw:∀(b:Bool) (s₁:Rf) (Q':Unit->Rf->Prop),Q' () s₁->Rh (Rn prog w) A (match b with|true=>rule "set.scan.the-table-gave-way" |false=>pure ()) Q' E s₁:=λb s₁ Q' q=>by cases b <;> first|exact Rc q|exact Ss q
  refine Q9 (?_:Rh _ _ (match gave with|true=>_|false=>_) _ _ _);have sm1:es1.size<scanBound:=by omega
  refine gw gave s _ ?_;split
  ·refine Q9 ?_;rw[hashByValue_scannable 8 (x:=.int n tk) rfl];refine Rc ?_;refine uL (ks:=ks1) gw ho I.dat ⟨I.ex,rfl,el1,rd1,nd1,sm1,?_,?_⟩ λh' o' es' ep' t' ks' b g I' p=>Rc (fin h' o' es' ep' t' ks' b g I' p)
   ·exact ft
   exact gd
  refine Q9 (Rc ?_);rw[if_pos rfl];exact uL (ks:=ks1) gw ho I.dat ⟨I.ex,rfl,el1,rd1,nd1,sm1,ft,gd⟩ λh' o' es' ep' t' ks' b g I' p=>Rc (fin h' o' es' ep' t' ks' b g I' p)
end
open PySem PyProof.Rows
theorem FR:XD Zq "set.__iter__"=some R9.«frozenset.__iter__»:=Yn (id':="frozenset.__iter__") (by kernel_rfl) rfl (by rfl') (by kernel_rfl)
theorem jy:Yg "set_iterator" "__next__" "set_iterator.__next__":=
 .of (owner:="set_iterator") (n:="__next__") (by rw[VT,UC];kernel_rfl) (by rfl') (by rfl') (by rfl') (by first|exact .inl (by rfl')|exact .inr (by rfl')) (by rw[Wh];kernel_rfl)
theorem zB:Yg "set_iterator" "__iter__" "set_iterator.__iter__":=
 .of (owner:="set_iterator") (n:="__iter__") (by rw[VT,UC];kernel_rfl) (by rfl') (by rfl') (by rfl') (by first|exact .inl (by rfl')|exact .inr (by rfl')) (by rw[Wh];kernel_rfl)
theorem G1:XD Zq "set_iterator.__iter__"=some R9.«dict_keyiterator.__iter__»:=Yn (id':="dict_keyiterator.__iter__") (by kernel_rfl) rfl (by rfl') (by kernel_rfl)
theorem zF:XD Zq "set_iterator.__next__"=some R9.«set_iterator.__next__»:=XE (by kernel_rfl)
theorem GB:Z8.lookup (String.ofList ['r','o','t','a','r','e','t','i','_','t','e','s'].reverse)=some YK:=by kernel_rfl
theorem zt(a:Q_):X6 "set_iterator.__next__" ⟨[a],[]⟩:=by unfold X6;rw[YA (id:="set_iterator.__next__") (n:=['_','_','t','x','e','n','_','_']) (o:=['r','o','t','a','r','e','t','i','_','t','e','s']) (by kernel_rfl) GB];kernel_rfl
theorem EU(a:Q_):X6 "set_iterator.__iter__" ⟨[a],[]⟩:=by unfold X6;rw[YA (id:="set_iterator.__iter__") (n:=['_','_','r','e','t','i','_','_']) (o:=['r','o','t','a','r','e','t','i','_','t','e','s']) (by kernel_rfl) GB];kernel_rfl
theorem uv{α:Type}:∀{l:List α}{i:Nat} (h:i<l.length),(l[i]::l.eraseIdx i).Perm l
 |x::l,0,_=>.refl _
 |x::l,i+1,h=>by have g:i<l.length:=Nz h;show(l[i]::x::l.eraseIdx i).Perm (x::l);exact(Nd ..).trans (.cons x (uv g))
theorem sF{α:Type}{next:Nat->Nat}:∀(f k:Nat) (l:List α) (out:Array α),l.length=f->(YX next f k l out).toList.Perm (out.toList++l)
 |0,k,l,out,h=>by rw[Mi h,L'];exact .refl _
 |f+1,k,l,out,h=>by
  unfold YX;have lt:next k%l.length<l.length:=NL _ (by omega)
  rw[b_ lt];refine(sF f _ _ _ (by rw[OP lt];omega)).trans ?_;rw[OS,w_];refine MX _ ?_;exact uv lt
variable {Q:Q_->Rf->Prop}{f:Q_}{it:Ra}{n:Nat}{sl:Nat->Nat}
section
variable{prog:Rj}{w:Ro}{A:Rw}{E:Q_->Rf->Prop}{s:Rf}
theorem wp_choose{src:Source}{Q:Nat->Rf->Prop}(hn:n≠0)(h:∀i d,i<n->Q i {s with drawn:=d}):Rh (Rn prog w) A (choose src n) Q E s:=
 λ_ _ _=>⟨hn,h _ _ (NL _ (Nf hn))⟩
theorem yf{α:Type}:∀(n:Nat) (xs:List α) {s:Rf}{Q:List α->Rf->Prop},xs.length=n->(∀ys d,ys.Perm xs->Q ys {s with drawn:=d})->Rh (Rn prog w) A (drawOrder n xs) Q E s
 |0,xs,s,Q,hl,h=>by rw[Mi hl]at h ⊢;exact Rc (h [] s.drawn (.refl _))
 |n+1,[],s,Q,hl,h=>by cases hl
 |n+1,x::xs,s,Q,hl,h=>by unfold drawOrder;refine Q9 (wp_choose (by simp) λi d hi=>?_);rw[b_ hi];dsimp only;refine Q9 (yf n _ (by rw[OP hi,hl];rfl) λys d' p=>Rc (h _ d' ?_));exact(N2 _ p).trans (uv hi)
noncomputable def Itr(h:Rq)(it:Ra)(first:Q_)(i:Nat)(a:Ra)(n ep:Nat):Prop:=∃o,h.get? it=some o/\o.cls=.type "set_iterator"/\o.data=.fields #[first,.int i 0,.ref a,.int n 0,.int ep 0]
theorem Itr.ty (x:Itr s.heap it f i a n ep):s.TypeIs (.ref it) "set_iterator":=let ⟨o,ho,hc,_⟩:=x;⟨o,ho,hc⟩
theorem Itr.at {h':Rq}(x:Itr h it f i a n ep)(e:∀o,h.get? it=some o->h'.get? it=some o):Itr h' it f i a n ep:=let ⟨o,ho,r⟩:=x;⟨o,e _ ho,r⟩
theorem zX(x:Itr s.heap it f i a n ep)(h:Q (.ref it) s):Rh (Rn prog w) A (Ut (.ref it)) Q E s:=by refine Vm x.ty zB (RM zB x.ty G1 ?_ (EU _));show Rh _ _ (ret (.ref it)) _ _ s;exact Rc ⟨_,rfl,"set_iterator",_,x.ty,jy.lookup,h⟩
noncomputable def Nx(prog:Rj)(w:Ro)(a:Ra)(o:Obj)(ep:Nat)(vs:List Q_)(sl:Nat->Nat):Prop:=∀(A:Rw) (E:Q_->Rf->Prop) (s:Rf) (i:Nat) (Q:Option (Q_×Nat)->Rf->Prop),s.heap.get? a=some o->i<=vs.length->Q (vs[i]?.map λv=>(v,sl (i+1))) s->Rh (Rn prog w) A (Yo a (sl i) i ep) Q E s
theorem yx{Q:Option Q_->Rf->Prop}(x:Itr s.heap it (.int (sl i) 0) i a es.size ep)(ho:s.heap.get? a=some o)(hd:o.data=.set es ep t)(hf:t.fits es.size=true)(N:Nx prog w a o ep vs sl)(hi:i<=vs.length)(hh:A.handled=none)
  (h1:∀v h',vs[i]?=some v->Itr h' it (.int (sl (i+1)) 0) (i+1) a es.size ep->RN it s.heap h'->Q (some v) {s with heap:=h'}) (h2:∀h',vs[i]?=none->TJ it s.heap h'->Q none {s with heap:=h'}):Rh (Rn prog w) A (SQ (.ref it)) Q E s:=by
 obtain⟨oi,hoi,hc,hdi⟩:=id x;unfold SQ;refine Q9 (SN (RS (name:=SJ "__next__") x.ty jy (RM jy x.ty zF ?_ (zt _))));unfold R9.«set_iterator.__next__»;refine Q9 (Rc (Q9 (U1 hoi hdi ?_)));show Rh _ _ (setEntries a >>= _) _ _ s;refine Q9 (UT ho hd hf ?_);rw[if_neg (show ¬_ by simp)];show Rh _ _ (Yo a _ _ _ >>= _) _ _ s;refine Q9 ?_;rw[Mr,Mr,Mr];refine N _ _ _ i _ ho hi ?_;cases e:vs[i]? with
 |some v=>
  dsimp only[NK];refine Q9 (Sv hoi hdi (by simp) ?_);have e1:=RR (T6 (·.setIfInBounds 0 (R8 (sl (i+1))))) hoi (SU (RO hdi _));refine Q9 (Sv e1 (RO hdi _) (by simp) ?_);have e2:=RR (T6 (·.setIfInBounds 1 (R8 ((i:Int)+1)))) e1 (SU (RO (RO hdi _) _));refine Rc ⟨_,rfl,Rc (h1 v _ e ⟨_,e2,((TM ..).trans (TM ..)).trans hc,?_⟩ ((RD ..).trans (RD ..)))⟩;rw[RO (RO hdi _)];simp[R8]
 |none=>
  dsimp only[NK];refine Q9 (Sv hoi hdi (by simp) (show Rh _ _ (VE (.type "StopIteration") [] >>= _) _ _ _ from Q9 ?_));simp only[VE,Xw];refine Q9 (RA (Q9 (m:=S8 _ _) (T9 (a:=R0) (by first|rfl|(simp only[S8];rfl)) (RA ?_ (by size_fits)))) (by size_fits));simp only[Xx];refine Q9 (Vf ?_);rw[show A.in1.handled=none from hh];refine Q9 (Rc (V4 ?_));refine Q9 (Tw (T:="StopIteration") (b:=true) (by exact⟨_,Ri _ rfl,rfl⟩) U0 (Rc ?_));exact h2 _ e (((RD ..).extBut.push _).push _)
theorem BJ(ld:a≠it)(hd:o.data=.set es ep t)(hf:t.fits es.size=true)(N:Nx prog w a o ep vs sl)(hh:A.handled=none) :
  Zs prog w A it [it,a] [it] vs.length (λi v=>vs[i]?=some v) (λi h=>i<=vs.length/\Itr h it (.int (sl i) 0) i a es.size ep/\h.get? a=some o) where
 sub:=λb hb=>by simp at hb;simp[hb]
 frame:=λ_ _ _ st hk=>⟨st.1,st.2.1.at λo e=>hk it (by simp) o e,hk a (by simp) o st.2.2⟩
 item:=λi s Q E hi st hQ=>yx st.2.1 st.2.2 hd hf N st.1 hh (λv h' e x sb=>hQ v h' s.toks e ⟨hi,x,sb.extBut a o ld st.2.2⟩ λb o hb e=>sb.extBut b o (λz=>hb (by simp[z])) e) λh' e=>by rw[b_ hi]at e;cases e
 done:=λs Q E st hQ=>yx st.2.1 st.2.2 hd hf N st.1 hh (λv h' e=>by rw[Mj (c_ _)]at e;cases e) λh' _ eb=>hQ h' s.toks λb o hb e=>eb b o (λz=>hb (by simp[z])) e
 self:=λ_ _ _ _ st hQ=>zX st.2.1 hQ
end
open PySem PyProof.Rows
variable {ks:List Int}{ps:List Nat}
section
variable{prog:Rj}{w:Ro}{A:Rw}{E:Q_->Rf->Prop}{s:Rf}
theorem wp_text{Q:Bool->Rf->Prop}(h:Q (bt w) s):Rh (Rn prog w) A setsByText Q E s:=Q9 (VJ (Rc h))
theorem Df:(es.toList.map (·.2))[i]?=es[i]?.map (·.2):=by rw[o_,A_]
theorem FA(I:SI prog w o ks es ep t)(hb:bt w=true) :
  Nx prog w a o ep ((pickOrder (w.params.setOrder a ep) es).toList.map (·.2)) (λ_=>0):=by
 intro A E s i Q ho hi h;unfold Yo;refine Q9 (R7 ho I.dat I.ft (Q9 (wp_text ?_)));rw[hb,if_pos rfl];dsimp only;rw[if_neg (by simp)];refine Q9 ?_;unfold setWalk;refine Q9 (R7 ho I.dat I.ft (Q9 (wp_text ?_)));rw[hb,if_pos rfl];refine Q9 (VJ (Rc (Rc ?_)));rw[Df,Option.map_map]at h;exact h
noncomputable def slP(t:RT):Nat->Nat
 |0=>0
 |i+1=>t.place.getD i 0+1
theorem D7(I:SI prog w o ks es ep t)(hb:bt w=false)(hdr:(!t.plain&&decide (es.size > 1))=false) :
  Nx prog w a o ep (es.toList.map (·.2)) (slP t):=by
 intro A E s i Q ho hi h;have hz:t.place.size=es.size:=by have:=I.ft;unfold WL at this;simp at this;exact this.1
 unfold Yo;refine Q9 (R7 ho I.dat I.ft (Q9 (wp_text ?_)));rw[hb,if_neg (by simp)];dsimp only;refine Sj (λz=>absurd (show(!t.plain&&decide (es.size > 1))=true from z) (by rw[hdr];simp)) λ_=>Q9 ?_
 show Rh _ _ (if(!t.led&&!es.isEmpty)=true then _ else _) _ _ _;rw[I.gd.led hb,if_neg (by simp)];refine Rc ?_;have eb:RC t.place (slP t i)=i:=by
  match i,hi with
  |0,_=>exact Fe I.gd.up
  |i+1,hi=>
   have hi:i<t.place.size:=by rw[a_,l_]at hi;omega
   have e:t.place[i]?=some (t.place.getD i 0):=by rw[k_ hi,J',k_ hi];rfl
   exact below_at I.gd.up e
 rw[eb];refine Rc ?_;rw[Df]at h;by_cases c:i<es.size
 ·rw[k_ c,k_ (show i<t.place.size by omega)];rw[k_ c]at h;have e:slP t (i+1)=t.place[i]+1:=by show t.place.getD i 0+1=_;rw[J',k_ (by omega)];rfl
  dsimp only[NK]at h;rw[e]at h;exact h
 rw[Mm (by omega)];rw[Mm (by omega)]at h;exact h
theorem zo{tp:Ra}{ot:Obj}{c:Nat}{Q:Option Q_->Rf->Prop}(x:Itr s.heap it (.ref tp) i a es.size ep)(ho:s.heap.get? a=some o)(hd:o.data=.set es ep t)(hf:t.fits es.size=true)(hot:s.heap.get? tp=some ot)(hdt:ot.data=.seq (ps.map λ(j:Nat)=>R8 j).toArray c)(hps:∀p∈ps,p<es.size)(hh:A.handled=none)
  (h1:∀p v h',ps[i]?=some p->(es[p]?.map (·.2))=some v->Itr h' it (.ref tp) (i+1) a es.size ep->RN it s.heap h'->Q (some v) {s with heap:=h'}) (h2:∀h',ps[i]?=none->TJ it s.heap h'->Q none {s with heap:=h'}):Rh (Rn prog w) A (SQ (.ref it)) Q E s:=by
 obtain⟨oi,hoi,hc,hdi⟩:=id x;unfold SQ;refine Q9 (SN (RS (name:=SJ "__next__") x.ty jy (RM jy x.ty zF ?_ (zt _))));unfold R9.«set_iterator.__next__»;refine Q9 (Rc (Q9 (U1 hoi hdi ?_)));show Rh _ _ (setEntries a >>= _) _ _ s;refine Q9 (UT ho hd hf ?_);rw[if_neg (show ¬_ by simp)];show Rh _ _ (VS (.ref tp) >>= _) _ _ s;unfold VS;refine Q9 (Q9 (Vp hot ?_));rw[hdt];refine Rc ?_;dsimp only;rw[Mr,Mr];have ea:((ps.map λ(j:Nat)=>R8 j).toArray)[i]?=ps[i]?.map λ(j:Nat)=>R8 j:=by rw[List.getElem?_toArray,o_]
 rw[ea];cases e:ps[i]? with
 |some p=>
  have hp:=hps p (F_ e);dsimp only[NK,R8];unfold setNextDrawn;refine Q9 (Q9 (R7 ho hd hf ?_));dsimp only;rw[if_neg (by simp),Mr,k_ hp];refine Rc (Q9 (Sv hoi hdi (by simp) ?_));have e1:=RR (T6 (·.setIfInBounds 1 (R8 ((i:Int)+1)))) hoi (SU (RO hdi _));refine Rc ⟨_,rfl,Rc (h1 p _ _ e (by rw[k_ hp];rfl) ⟨_,e1,(TM ..).trans hc,?_⟩ (RD ..))⟩;rw[RO hdi _];simp[R8]
 |none=>
  dsimp only[NK];refine Q9 (Sv hoi hdi (by simp) ?_);have e1:=RR (T6 (·.setIfInBounds 0 (R8 0))) hoi (SU (RO hdi _));refine Q9 (Sv e1 (RO hdi _) (by simp) (show Rh _ _ (VE (.type "StopIteration") [] >>= _) _ _ _ from Q9 ?_));simp only[VE,Xw];refine Q9 (RA (Q9 (m:=S8 _ _) (T9 (a:=R0) (by first|rfl|(simp only[S8];rfl)) (RA ?_ (by size_fits)))) (by size_fits));simp only[Xx];refine Q9 (Vf ?_);rw[show A.in1.handled=none from hh];refine Q9 (Rc (V4 ?_));refine Q9 (Tw (T:="StopIteration") (b:=true) (by exact⟨_,Ri _ rfl,rfl⟩) U0 (Rc ?_));exact h2 _ e ((((RD ..).trans (RD ..)).extBut.push _).push _)
theorem Cg{tp:Ra}(ld:a≠it)(hnt:tp≠it){ot:Obj}{c:Nat}(hd:o.data=.set es ep t)(hf:t.fits es.size=true)(hdt:ot.data=.seq (ps.map λ(j:Nat)=>R8 j).toArray c)(hps:∀p∈ps,p<es.size)(hh:A.handled=none) :
  Zs prog w A it [it,a,tp] [it] ps.length (λi v=>∃p,ps[i]?=some p/\es[p]?.map (·.2)=some v) (λi h=>Itr h it (.ref tp) i a es.size ep/\h.get? a=some o/\h.get? tp=some ot) where
 sub:=λb hb=>by simp at hb;simp[hb]
 frame:=λ_ _ _ st hk=>⟨st.1.at λo e=>hk it (by simp) o e,hk a (by simp) o st.2.1,hk tp (by simp) ot st.2.2⟩
 item:=λi s Q E hi st hQ=>zo st.1 st.2.1 hd hf st.2.2 hdt hps hh (λp v h' e1 e2 x sb=>hQ v h' s.toks ⟨p,e1,e2⟩ ⟨x,sb.extBut a o ld st.2.1,sb.extBut tp ot hnt st.2.2⟩ λb o hb e=>sb.extBut b o (λz=>hb (by simp[z])) e) λh' e=>by rw[b_ hi]at e;cases e
 done:=λs Q E st hQ=>zo st.1 st.2.1 hd hf st.2.2 hdt hps hh (λp v h' e=>by rw[Mj (c_ _)]at e;cases e) λh' _ eb=>hQ h' s.toks λb o hb e=>eb b o (λz=>hb (by simp[z])) e
 self:=λ_ _ _ _ st hQ=>zX st.1 hQ
end
open PySem PyProof.Rows
variable {acc:Array Q_}
section
variable{prog:Rj}{w:Ro}{A:Rw}{E:Q_->Rf->Prop}{s:Rf}
theorem CA(h:We (λi v=>vs[i]?=some v) acc vs.length):acc.toList=vs:=by
 refine N6 λj=>?_;rw[A_];by_cases hj:j<vs.length
 ·have hja:j<acc.size:=by rw[h.1];exact hj
  have e:=k_ hja;rw[e];exact(h.2 j _ e).symm
 rw[Mm (by rw[h.1];omega),Mj (by omega)]
theorem Bj(hp:ps.Perm (p_ es.size))(h:We (λi v=>∃p,ps[i]?=some p/\es[p]?.map (·.2)=some v) acc ps.length):acc.toList.Perm (es.toList.map (·.2)):=by
 have e:acc.toList=ps.filterMap λp=>es[p]?.map λ(x:Int×Q_)=>x.2:=by
  have g:∀(qs:List Nat) (vs:List Q_),vs.length=qs.length->(∀(j:Nat) v,vs[j]?=some v->∃p:Nat,qs[j]?=some p/\es[p]?.map (λ(x:Int×Q_)=>x.2)=some v)->vs=qs.filterMap λp=>es[p]?.map λ(x:Int×Q_)=>x.2:=by
   intro qs;induction qs with
   |nil=>exact λvs l _=>Mi l
   |cons q qs ih=>
    intro vs l k
    match vs,l,k with
    |v::vs,l,k=>
     obtain⟨p,e1,e2⟩:=k 0 v rfl;cases e1;rw[M_ (f:=λp=>NK (λ(x:Int×Q_)=>x.2) es[p]?) e2,<-ih vs (Nr l) λj v e=>k (j+1) v e]
  exact g ps acc.toList (by rw[l_];exact h.1) λj v e=>h.2 j v (by rw[<-A_];exact e)
 rw[e];refine(hp.filterMap _).trans ?_;have e2:(p_ es.size).filterMap (λp=>es[p]?.map (·.2))=((p_ es.size).filterMap λp=>es[p]?).map (·.2):=by rw[List.map_filterMap]
 rw[e2,filterMap_getElem?_range]
theorem CP(ho:s.heap.get? a=some o)(I:SI prog w o ks es ep t)(hh:A.handled=none)
  (h:∀(h1:Rq) d (it:Ra) (fp:List Ra) (P:Nat->Q_->Prop) (St:Nat->Rq->Prop),s.heap.objs.size<=it->it<h1.objs.size->(∀b u,s.heap.get? b=some u->h1.get? b=some u)->(∀b∈fp,b=a\/s.heap.objs.size<=b)->Zs prog w A it fp [it] es.size P St->St 0 h1->(∀acc,We P acc es.size->acc.toList.Perm (es.toList.map (·.2)))->Q (.ref it) {s with heap:=h1,drawn:=d}) :
  Rh (Rn prog w) A (Ut (.ref a)) Q E s:=by
 have hT:s.TypeIs (.ref a) "set":=⟨o,ho,I.ex.1⟩;have lt:=Rm ho;have hz:es.size<=sizeLine:=TQ I.sm;refine Vm hT X7 (RM X7 hT FR ?_ (F.args_set_iter_1 _));unfold R9.«frozenset.__iter__»;refine Q9 ?_;unfold Y2;refine Q9 (Rc (Rc (Q9 ?_)));unfold YY;refine Q9 (UT ho I.dat I.ft (Rc (Q9 ?_)));unfold setDrawn;refine Q9 (R7 ho I.dat I.ft (Q9 (wp_text (Rc ?_))));have plain:∀(vs:List Q_) (sl:Nat->Nat),sl 0=0->vs.Perm (es.toList.map (·.2))->Nx prog w a o ep vs sl->Q (.ref s.heap.objs.size) {s with heap:=s.heap.push { cls:=.type "set_iterator",data:=.fields #[.int 0 0,.int 0 0,.ref a,.int es.size 0,.int ep 0] } }:=λvs sl h0 pm N=>by
  have ln:vs.length=es.size:=by rw[pm.length_eq,a_,l_]
  have W:=BJ (A:=A) (it:=s.heap.objs.size) (s_ lt) I.dat I.ft N hh;rw[ln]at W;refine h _ s.drawn _ _ _ _ (c_ _) (by rw[RK];exact MI _) (λb u e=>Rg _ e) (λb hb=>?_) W ⟨Me _,⟨_,Ri _ rfl,rfl,?_⟩,Rg _ ho⟩ λacc it=>?_
  ·rcases i_.mp hb with e|hb
   ·exact .inr (OW e.symm)
   exact .inl (x_.mp hb)
  ·rw[h0]
   rfl
  rw[<-ln]at it;rw[CA it];exact pm
 cases hb:bt w with
 |true=>
  refine Q9 ?_;refine Rc ?_;refine Q9 (Vo ho I.dat I.ft ?_);refine Q9 (RA ?_);refine Rc ⟨_,rfl,"set_iterator",_,⟨_,Ri _ rfl,rfl⟩,jy.lookup,?_⟩;exact plain _ _ rfl ((sF _ _ _ _ (by rw[l_])).map _) (FA I hb)
 |false=>
  cases hdr:(!t.plain&&decide (es.size > 1))with
  |false=>
   refine Sj (λz=>absurd (show(!false&&(!t.plain&&decide (es.size > 1)))=true from z) (by rw[hdr];simp)) λ_=>Q9 (Rc ?_)
   refine Q9 (Vo ho I.dat I.ft ?_);refine Q9 (RA ?_);refine Rc ⟨_,rfl,"set_iterator",_,⟨_,Ri _ rfl,rfl⟩,jy.lookup,?_⟩;exact plain _ _ rfl (.refl _) (D7 I hb hdr)
  |true=>
   refine Sj (λ_=>?_) λz=>absurd (show(!false&&(!t.plain&&decide (es.size > 1)))=true by rw[hdr];rfl) z
   refine Q9 (yf _ _ (by rw[B_]) λys d pm=>?_);refine Q9 (RA ?_ ?_);refine Q9 (Vo (Rg _ ho) I.dat I.ft ?_);refine Q9 (RA ?_);refine Rc ⟨_,rfl,"set_iterator",_,⟨_,Ri _ rfl,rfl⟩,jy.lookup,?_⟩
   ·have yl:ys.length=es.size:=by rw[pm.length_eq,B_]
    have hz2:∀x:Obj,(s.heap.push x).objs.size=s.heap.objs.size+1:=λx=>RK ..;have W:=Cg (prog:=prog) (w:=w) (A:=A) (it:=s.heap.objs.size+1) (a:=a) (tp:=s.heap.objs.size) (s_ (Ms lt)) (s_ (MI _)) (ot:={ cls:=.type "tuple",data:=.seq (ys.map λ(j:Nat)=>R8 j).toArray}) I.dat I.ft rfl (λp hp=>mo.mp (pm.mem_iff.mp hp)) hh;rw[yl]at W;have e2:∀x y:Obj,y.isFreed=false->((s.heap.push x).push y).get? (s.heap.objs.size+1)=some y:=λx y q=>by rw[<-hz2 x];exact Ri _ q
    have r:=h ((s.heap.push { cls:=.type "tuple",data:=.seq (ys.map λ(j:Nat)=>R8 j).toArray}).push { cls:=.type "set_iterator",data:=.fields #[.ref s.heap.objs.size,.int 0 0,.ref a,.int es.size 0,.int ep 0] }) d (s.heap.objs.size+1) _ _ _ (Oa _) (by rw[RK,RK];exact MI _) (λb u e=>Rg _ (Rg _ e)) (λb hb=>?_) W ⟨⟨_,e2 _ _ rfl,rfl,rfl⟩,Rg _ (Rg _ ho),Rg _ (Ri _ rfl)⟩ λacc it=>Bj pm (by rw[yl];exact it)
    ·rw[<-hz2]at r;exact r
    simp only[i_,Mg,or_false]at hb;rcases hb with e|e|e
    ·exact .inr (by rw[e];exact Oa _)
    ·exact .inl e
    exact .inr (OW e.symm)
   show _<=_;rw[g_,a_,pm.length_eq,B_];exact hz
end
open PySem PyProof.Rows
section
variable{prog:Rj}{w:Ro}{A:Rw}{E:Q_->Rf->Prop}{s:Rf}
theorem Cy{Q:Bool->Rf->Prop}(hT:s.TypeIs (.ref a) "set")(h:Q false s):Rh (Rn prog w) A (U_ (.ref a)) Q E s:=by
 unfold U_;refine Q9 (UK hT F.slot_set_len.lookup ?_);generalize hid:("set.__len__":String)=id0
 wp_delta
 rw[show splitId id0=some ("set","__len__")from by subst hid;rfl'];subst hid;refine Q9 (Tw (T:="set") (b:=true) hT (by rw[Wh];kernel_rfl) ?_);refine Sj (λz=>absurd z (by decide)) λ_=>Sj (λ_=>Q9 (Ue hT (Rc h))) λz=>absurd (by rfl') z
theorem Fb{R:WY->Rf->Prop}(ho:s.heap.get? a=some o)(I:SI prog w o ks es ep t)(hh:A.handled=none)(S:Ra)(hSa:S≠a)(res:Q_)(c₀:Nat)(hS:s.heap.get? S=some { cls:=.type "list",data:=.seq #[] c₀ })
  (hR:∀h' tk d acc c,(∀b u,b≠S->s.heap.get? b=some u->h'.get? b=some u)->h'.get? S=some { cls:=.type "list",dict:=none,data:=.seq acc c,slots:=#[] }->acc.toList.Perm (es.toList.map (·.2))->R (.ok (.ret res)) {s with heap:=h',drawn:=d,toks:=tk}) :
  Rh (Rn prog w) A.in1 (U' (.ref S) (.ref a) res) (λfin s'=>match fin with | .done f=>R (.ok f) s' | .again c'=>c'.quiet=true/\S7 (Rn prog w) A c' R s') (λe s'=>R (.error e) s') s:=by
 have hz:es.size<=sizeLine:=TQ I.sm;have lS:=Rm hS;unfold U';refine Q9 (Ue (T:="set") ⟨o,ho,I.ex.1⟩ ?_);have h1:VL (.ref S) (.ref a)=false:=by simp[VL,hSa]
 have h2:(Sr "set" == Sr "list")=false:=by decide
 have h3:(Sr "set" == Sr "tuple")=false:=by decide
 simp only[h1,h2,h3,QE,I_,if_false];refine Q9 (CP ho I hh λh1 d it fp P St hit hlt kp hfp W st pm=>?_);have hSf:S ∉ fp:=λz=>(hfp S z).elim hSa λz=>O1 z lS;have hSi:S≠it:=λz=>by rw[z]at lS;exact O1 hit lS
 have key:∀(h:Rq) (c₁:Nat) (tk:Nat),St 0 h->(∀b u,b≠S->h1.get? b=some u->h.get? b=some u)->h.get? S=some { cls:=.type "list",data:=.seq #[] c₁ }->S7 (Rn prog w) A (.builtin "list.extend.loop" ⟨[.ref S,.ref it,res],[]⟩) R {s with heap:=h,drawn:=d,toks:=tk}:=by
  intro h c₁ tk hst hk hS₁;refine codeAny_extend_loopS W.toS hz S hSf res es.size 0 _ #[] c₁ rfl (Me _) hst hS₁ (ItemsOf.nil _) λs' acc' c' hm hS' hacc=>?_;rw[Moved.eq_with hm];refine hR s'.heap s'.toks d acc' c' (λb u hb e=>hm.heap b u (λz=>?_) (hk b u hb (kp b u e))) hS' (pm _ hacc);rcases i_.mp z with z|z
  ·exact hb z
  have:=Rm e;rw[x_.mp z]at this;exact O1 hit this
 have hS₁:=kp _ _ hS;refine Q9 (Ry (Cy ⟨o,kp _ _ ho,I.ex.1⟩ ?_));refine Sj (λ_=>?_) (λ_=>Rc ⟨S4 Vt _,key _ c₀ _ st (λb u _ e=>e) hS₁⟩);refine Q9 (Ss ?_);refine Q9 ?_;show Rh _ _ (updateSeq S (·.push .none) >>= λ_=>updateSeq S (·.pop)) _ _ _;refine Q9 (X8 hS₁ rfl ?_);have hS₂:=RR (R5 (·.push R0)) hS₁ rfl;refine X8 (hz:=by seq_fits) hS₂ rfl ?_;have hS₃:=RR (R5 (·.pop)) hS₂ rfl;refine Rc ⟨S4 Vt _,key _ _ _ ?_ (λb u hb e=>?_) hS₃⟩
 ·refine W.frame 0 _ _ st λb hb u e=>?_;have hbS:b≠S:=λz=>hSf (z▸hb);exact(SK _ _ (Ti hbS)).trans ((SK _ _ (Ti hbS)).trans e)
 exact(SK _ _ (Ti hb)).trans ((SK _ _ (Ti hb)).trans e)
theorem uK{Q:List Q_->Rf->Prop}(ho:s.heap.get? a=some o)(I:SI prog w o ks es ep t)(hh:A.handled=none)
  (h:∀h' tk d (vs:List Q_),s.heap.objs.size<=h'.objs.size->(∀b u,s.heap.get? b=some u->h'.get? b=some u)->vs.Perm (es.toList.map (·.2))->Q vs {s with heap:=h',drawn:=d,toks:=tk}):Rh (Rn prog w) A (Xb (.ref a)) Q E s:=by
 unfold Xb;refine Q9 (U3 (R1 Wf ?_));rw[RU Wg _];show Rh _ A.in1 (Zl [] >>= λl=>again (.builtin "list.__iadd__" ⟨[l,.ref a],[]⟩)) _ _ s;refine Q9 (RA ?_);refine Rc ⟨S4 Uo _,R1 Xi ?_⟩;rw[RU Uo _];have hS:(s.heap.push { cls:=.type "list",data:=.seq ([]:List Q_).toArray}).get? s.heap.objs.size=some { cls:=.type "list",data:=.seq ([]:List Q_).toArray}:=Ri _ rfl;have ld:s.heap.objs.size≠a:=MY (Rm ho);have fin:∀(s':Rf) (h':Rq) (tk:Nat) (d:YG) (acc:Array Q_) (c:Nat),s'={s with heap:=h',drawn:=d,toks:=tk}->(∀b u,s.heap.get? b=some u->h'.get? b=some u)->h'.get? s.heap.objs.size=some { cls:=.type "list",dict:=none,data:=.seq acc c,slots:=#[] }->acc.toList.Perm (es.toList.map (·.2))->
   Rh (Rn prog w) A (load s.heap.objs.size >>= λo=>match o.data with
    | .seq xs _=>pure xs.toList
    | _=>Zf "internal:collect") Q E s':=λs' h' tk d acc c es' kp e it=>by
  subst es';refine Q9 (Vp e ?_);exact Rc (h h' tk d _ (Mt (Rm e)) kp it)
 refine RL (Fb (s:={s with heap:=s.heap.push { cls:=.type "list",data:=.seq ([]:List Q_).toArray} }) (R:=λr s'=>∃(h':Rq) (tk:Nat) (d:YG) (acc:Array Q_) (c:Nat),r=.ok (.ret (.ref s.heap.objs.size))/\s'={s with heap:=h',drawn:=d,toks:=tk}/\(∀b u,s.heap.get? b=some u->h'.get? b=some u)/\h'.get? s.heap.objs.size=some { cls:=.type "list",dict:=none,data:=.seq acc c,slots:=#[] }/\acc.toList.Perm (es.toList.map (·.2)))
  (Rg _ ho) I hh s.heap.objs.size ld (.ref s.heap.objs.size) 0 hS (λh' tk d acc c kp e it=>⟨h',tk,d,acc,c,rfl,rfl,λb u eb=>kp b u (s_ (Rm eb)) (Rg _ eb),e,it⟩)) (λfn s' hf=>?_) (λe s' hf=>?_)
 ·cases fn with
  |done f=>
   obtain⟨h',tk,d,acc,c,ef,es',kp,e,it⟩:=hf;cases ef;exact fin s' h' tk d acc c es' kp e it
  |again c'=>
   refine⟨hf.1,SH hf.2 λr s'' hr=>?_⟩;obtain⟨h',tk,d,acc,c,er,es',kp,e,it⟩:=hr;subst er;exact fin s'' h' tk d acc c es' kp e it
 obtain⟨_,_,_,_,_,ef,_⟩:=hf;cases ef
end
open PySem PyProof.Rows
section
variable{prog:Rj}{w:Ro}{A:Rw}{R:WY->Rf->Prop}{I:Ra}{fp wr:List Ra}{G:Array Vy->Array Vy->Prop}{n:Nat}{P:Nat->Q_->Prop}{St:Nat->Rf->Prop}
theorem SG.at {h':Rq}(x:SG prog w h a S m)(k:∀o,h.get? a=some o->h'.get? a=some o):SG prog w h' a S m:=by obtain⟨o,ks,es,ep,t,e,r⟩:=x;exact⟨o,ks,es,ep,t,k _ e,r⟩
theorem SG.congr {S':Int->Prop}(x:SG prog w h a S m)(k:∀z,S z↔S' z):SG prog w h a S' m:=by obtain⟨o,ks,es,ep,t,e,r,q⟩:=x;exact⟨o,ks,es,ep,t,e,r,λz=>(q.1 z).trans (k z),q.2⟩
theorem Cc(W:WalksS prog w A.in1 I fp wr G n P St)(S:Ra)(hSf:S ∉ fp)(val:Nat->Int)(hval:∀i v,P i v->∃t,v=.int (val i) t)(hb:n+1<scanBound) :
  ∀(k i:Nat) (s:Rf),n-i=k->i<=n->St i s->SG prog w s.heap S (λz=>∃j,j<i/\val j=z) i->(∀s',Moved (S::wr) G s s'->SG prog w s'.heap S (λz=>∃j,j<n/\val j=z) n->R (.ok (.ret .none)) s')->S7 (Rn prog w) A (.builtin "set.update.loop" ⟨[.ref S,.ref I],[]⟩) R s:=by
 have hSw:S ∉ wr:=λh=>hSf (W.sub _ h);have hsub:∀b∈wr,b∈S::wr:=λb hb=>j_ _ hb;intro k;induction k with
 |zero=>
  intro i s hk hi hst hS hR;obtain rfl:i=n:=by omega
  refine R1 TB ?_;rw[RU Sz _];show Rh _ A.in1 (SQ (.ref I) >>= _) _ _ s;refine Q9 (W.done s _ _ hst λs' hm=>?_);show Rh _ A.in1 (ret R0) _ _ s';exact Rc (hR s' (hm.mono hsub) (hS.at λo e=>hm.heap S _ hSw e))
 |succ k ih=>
  intro i s hk hi hst hS hR;have hlt:i<n:=by omega
  refine R1 TB ?_;rw[RU Sz _];show Rh _ A.in1 (SQ (.ref I) >>= _) _ _ s;refine Q9 (W.item i s _ _ hlt hst λv s' hP hst' hm=>?_);obtain⟨t,rfl⟩:=hval i v hP;have hS':=hS.at (h':=s'.heap) λo e=>hm.heap S _ hSw e;show Rh _ A.in1 (TC [Sk (val i) t] (YZ S (.int (val i) t)) >>= _) _ _ s';refine Q9 (Ry ?_);unfold YZ;refine Ry (Q9 ((Tg prog w).pyHash (k:=val i) (Vs _ _ _ _) ?_));refine add_int (s:={s' with toks:=s'.toks+1}) hS' (by omega) λ_ h' sb hS2=>?_
  have hSi:SG prog w h' S (λz=>∃j,j<i+1/\val j=z) (i+1):=hS2.congr λz=>⟨λq=>q.elim (λ⟨j,a,b⟩=>⟨j,by omega,b⟩) λe=>⟨i,by omega,e.symm⟩,λ⟨j,a,b⟩=>by
   by_cases c:j=i
   ·exact .inr (by rw[<-b,c])
   exact .inl ⟨j,by omega,b⟩⟩
  refine Rc ⟨S4 Sz _,ih (i+1) _ (by omega) hlt (W.frame _ s' _ _ hst' (Oa _) λb hb o e=>?_) hSi λs'' hm'' hS''=>?_⟩
  ·rw[sb.2 b (λh:b=S=>hSf (by rw[<-h];exact hb))];exact e
  refine hR s'' (Zh W.gtrans ((hm.mono hsub).then_heap (Oa _) λb o hb e=>?_) hm'') hS'';rw[sb.2 b (λh:b=S=>hb (by rw[h];exact t_))];exact e
end
section
variable{prog:Rj}{w:Ro}{A:Rw}{E:Q_->Rf->Prop}{s:Rf}
abbrev nob(w:Ro):Obj:={ cls:=.type "set",dict:=none,data:=.set #[] 0 (.fresh 0 0 (!bt w)) }
theorem yo(a:Q_)(h:Q (.ref s.heap.objs.size) {s with heap:=s.heap.push (nob w) }):S7 (Rn prog w) A (.call (.builtin "set.__new__") ⟨[.type "set",a],[]⟩) (wants Q E) s:=by
 refine VX ?_;show Rh _ A.in1 (checkBuiltinCall "set.__new__" ⟨[.type "set",a],[]⟩ >>= λ_=>again (.builtin "set.__new__" ⟨[.type "set",a],[]⟩)) _ _ s;refine Q9 (T9 (F.newCall_set_1 a) (Rc ⟨S4 X9 _,R1 F.entry_set_new ?_⟩));rw[RU X9 _];unfold R9.«set.__new__» YB;have hsub:=sub_set_self;obtain⟨hp,g,d,tk,os⟩:=s;dsimp only
 wp_walk
 refine VJ (Rc ?_);dsimp only;simp only[newObj];refine Q9 (wpAny_alloc (Rc ?_));exact Rc h
theorem Ik:SG prog w (h.push (nob w)) h.objs.size (λ_=>False) 0:=
 ⟨_,[],#[],0,_,Ri _ rfl,⟨⟨rfl,rfl,rfl⟩,rfl,λe he=>(nomatch he),.nil,NC,by decide,rfl,CM _ _ _⟩,λz=>⟨(nomatch ·),Rt⟩,c_ _⟩
set_option maxHeartbeats 3200000 in
theorem BD{l:Ra}{items:Array Q_}(hh:A.handled=none)(hl:s.heap.IsList l items)(hi:SF items.toList ns)(hb:items.size+1<scanBound)
  (h:∀(h':Rq) (tk:Nat),SG prog w h' s.heap.objs.size (λz=>z∈ns) items.size->(∀b o,b<s.heap.objs.size->s.heap.get? b=some o->h'.get? b=some o)->Q (.ref s.heap.objs.size) {s with heap:=h',toks:=tk}) :
  Rh (Rn prog w) A (call (.type "set") [.ref l]) Q E s:=by
 obtain⟨c,tl,hmro⟩:=R4.mro;have hmade:=R4.made;have hsub:=R4.sub;refine XO (VX ?_);show Rh _ _ (callAny (.type "set") _) _ _ _;refine Rc ⟨W8 _ (by rfl'),R1 Xj ?_⟩;rw[W9 (Wj "set" [.ref l] []) rfl];have h1:=R4.notType;have h2:=R4.canCreate;have hct:=XH (.ref l)
 repeat (any_goals (first|assumption|wp_step))
 refine SH (yo (.ref l) (E:=E) (Q:=λobj s₁=>obj=.ref s.heap.objs.size/\s₁={s with heap:=s.heap.push (nob w) }) ⟨rfl,rfl⟩) λr s₁ hr=>?_;cases r with
 |error e=>exact hr
 |ok fl=>
  cases fl with
  |ret obj=>
   obtain⟨rfl,rfl⟩:=hr;have hS:(s.heap.push (nob w)).get? s.heap.objs.size=some (nob w):=Ri _ rfl;have hT:YC {s with heap:=s.heap.push (nob w) } (.ref s.heap.objs.size) "set":=⟨_,hS,rfl⟩;have hli:=R4.init.lookup;have hbi:=R4.init.bind (.ref s.heap.objs.size)
   repeat (any_goals (first|assumption|wp_step))
   refine SH (WD (R:=wants (λr s₂=>r=.none/\∃h' tk,s₂={s with heap:=h',toks:=tk}/\SG prog w h' s.heap.objs.size (λz=>z∈ns) items.size/\(∀b o,b<s.heap.objs.size->s.heap.get? b=some o->h'.get? b=some o)) E) R4.init.plain XI (XJ hT ?_)) λr₂ s₂ hr₂=>?_
   ·obtain⟨ol,hol,hcl,nl,hdl⟩:=hl;obtain⟨ocls,odict,odata,oslots⟩:=ol;simp only at hcl hdl;subst hcl;subst hdl;have hol':(s.heap.push (nob w)).get? l=some { cls:=.type "list",dict:=odict,data:=.seq items nl,slots:=oslots}:=Rg _ hol;have hsls:=Yp;have hslf:=WE;have ld:(Sr "list" == Sr "dict")=false:=by decide
    have hl1:(s.heap.push (nob w)).IsList l items:=⟨_,hol',rfl,nl,rfl⟩;unfold R9.«set.__init__» noKeywords U4;generalize hPI:Ut=PI
    wp_walk
    subst hPI;refine Sh hl1 ?_;refine Q9 (U3 ?_);have hlS:l<s.heap.objs.size:=Rm hol;have hh3:A.in1.in1.in1.handled=none:=by simp[hh]
    have hneI:l≠(s.heap.push (nob w)).objs.size:=by rw[RK];exact s_ (Ms hlS)
    have hSf:s.heap.objs.size ∉ [(s.heap.push (nob w)).objs.size,l]:=by rw[RK];simp only[i_,x_,Mg,or_false,not_or];exact⟨s_ (MI _),MY hlS⟩
    have hval:∀(i:Nat) (v:Q_),items[i]?=some v->∃t,v=.int ((λi=>ns.getD i 0) i) t:=λi v hv=>IntsAre.int_at hi i v (by rw[A_];exact hv)
    refine Cc ((X0 hh3 _ l hneI items).toS) s.heap.objs.size hSf (λi=>ns.getD i 0) hval hb (items.size-0) 0 _ (by omega) (Me _) ⟨⟨_,Ri _ rfl,rfl,rfl⟩,(hl1.push _)⟩ ?hS0 ?hR
    case hS0=>exact(Ik.at λo e=>Rg _ e).congr λz=>⟨Rt,λ⟨j,a,_⟩=>absurd a (by omega)⟩
    case hR=>
     intro s' hm hS';obtain⟨h',g',d',tk',os'⟩:=s';have eg:g'=s.gens:=hm.gens;have ed:d'=s.drawn:=hm.drawn;have eo:os'=s.os:=hm.os;subst eg;subst ed;subst eo;refine Rc ?_;show Rh _ _ (ret R0) _ _ _;have nl:items.size=ns.length:=by rw[<-lE hi,l_]
     refine Rc ⟨rfl,h',tk',rfl,hS'.congr λz=>⟨λ⟨j,a,b⟩=>?_,λq=>?_⟩,λb o hb e=>?_⟩
     ·rw[<-b,D_,b_ (by omega)];exact MG _
     ·obtain⟨j,a,b⟩:=MH.mp q;exact⟨j,by omega,by rw[D_,b_ a];exact b⟩
     refine hm.heap b o ?_ (Rg _ (Rg _ e));rw[RK];simp only[i_,x_,Mg,or_false,not_or];exact⟨s_ hb,s_ (Ms hb)⟩
   ·cases r₂ with
    |error e=>exact hr₂
    |ok fl₂=>
     cases fl₂ with
     |ret r=>
      obtain⟨rfl,h',tk,rfl,hS',hk'⟩:=hr₂
      repeat (any_goals (first|assumption|wp_step))
      exact h _ _ hS' hk'
     | _=>exact hr₂.elim
  | _=>exact hr.elim
end
open PySem PyProof.Rows
section
variable{prog:Rj}{w:Ro}{A:Rw}{E:Q_->Rf->Prop}{s:Rf}
theorem oh:∀{vs:List Q_}{ns:List Int},SF vs ns->vs.map ZS.kj=ns/\∀v∈vs,∃i t,v=.int i t/\i∈ns
 | _,_,.nil=>⟨rfl,λv h=>(nomatch h)⟩
 | _,_,.cons n t h=>by
  obtain⟨a,b⟩:=oh h;refine⟨by rw[d_,a];rfl,λv hv=>?_⟩;rcases i_.mp hv with e|hv
  ·exact⟨n,t,e,.head _⟩
  obtain⟨i,u,e,m⟩:=b v hv;exact⟨i,u,e,.tail _ m⟩
end
end ZT
namespace L2
open PySem PySem.Spec PyProof.Rows
section
variable{X:Cx}
theorem Inv.drw {ac:List (Ra×Obj)}{s:Rf}{σ:St}{H:Hp}{d:YG}(I:Inv X ac σ H s):Inv X ac σ H {s with drawn:=d}:=⟨I.ok,I.os,I.bare,I.base,I.loc,I.cell,I.free,I.freeC,I.pin,I.hok,I.len⟩
theorem DU:∀{vs:List Q_}{ns:List Int},SF vs ns->Vals (ns.map V.int) vs
 | _,_,.nil=>.nil
 | _,_,.cons n t h=>.cons ⟨t,rfl⟩ (DU h)
end
end L2
namespace PL
open PySem PySem.Spec PyProof.Rows L2
def Eh:P2
 | .lst true [t],.int n,k=>(0<=n/\n<=100000)/\k (.lst true (B' n.toNat (er t)))
 | _,_,_=>False
section
variable{X:Cx}{pos:Pos}{e:Rr}{es:List Rr}{fe:PF}{fr:PFs}{m:PM}{name:Str}{id:String}{apos lv spos xp yp kp vp p1 pos1:Pos}{x:Str}{κ:Nat->Bool}{kn:Nat}
theorem yU{H:Hp}{t:T}{v:V}{Γ:Fm}(n:aK t=true):∀(k:Nat),Rp X.K H ((t,some v)::Γ)->Rp X.K H (zz (B' k t) (B' k v)++((t,some v)::Γ))
 |0,h=>h
 |k+1,h=>by have:=yU n k h;have h2:=jB (this.perm (f' (l₁:=zz (B' k t) (B' k v)))) n;exact h2.perm (.cons _ f'.symm)
theorem Cd:OpP X (Sf .Mult) Eh:=by
 rintro ac s σ H x y v u Q I rx ry ⟨tx,ty,Γ,k,rp,g,c⟩;unfold Eh at g;split at g
 ·rename_i k t n;rw[aM rp]at ry;obtain⟨a,vs,ea,ha,la,ge⟩:=jj rp.tail;cases ea;cases vs with
  |nil=>cases la
  |cons w vs=>
   cases vs with
   |cons _ _=>cases la
   |nil=>
    have gl:Rp X.K H ((t,some w)::Γ):=ge.tail;have rp4:=yU (aI t) n.toNat (mE gl);have rp5:Rp X.K H (zz (B' n.toNat (er t)) (B' n.toNat w)++Γ):=(rp4.perm f').tail;have sz:n.toNat<=sizeLine:=by rw[sizeLine_eq];omega
    refine J4 ac s σ H _ _ v u Q I rx ry ⟨a,n,[w],rfl,rfl,ha,by omega,by omega,by rw[Pj,OG];exact sz,λp hp=>c _ _ _ g.2 ?_⟩;have ef:(B' n.toNat [w]).flatten=B' n.toNat w:=by
     generalize n.toNat=j;induction j with
     |zero=>rfl
     |succ j ih=>rw[Mv,NB,ih,Mv];rfl
    rw[ef];exact jm rp5 (by rw[Ol,Ol]) hp (dg hp _) aU
 exact Rt g
end
theorem cK{t:T}{n:Int}{k:T->Prop}:Eh (.lst true [t]) (.int n) k=((0<=n/\n<=100000)/\k (.lst true (B' n.toNat (er t)))):=rfl
end PL
namespace ZS
open PySem PyProof.Rows
variable {n:Nat}
theorem Eb(h:n<64):Wc n n 0=n:=by
 cases n with
 |zero=>rfl
 |succ n=>rw[YT,if_pos (by first|exact h|(show _<_;lia)|decide)]
def zq(rk:RQ->Nat)(xs:Array RQ):Prop:=(∀i j,i<j->j<xs.size->R rk xs i<R rk xs j)\/∀i j,i<j->j<xs.size->R rk xs j<R rk xs i
noncomputable def uP(rk:RQ->Nat)(vs:List Q_):Prop:=vs.length<64\/(vs.length<=sizeLine/\(vs.Pairwise (λx y=>rk (x,x)<rk (y,y))\/vs.Pairwise (λx y=>rk (y,y)<rk (x,x))))
variable {Q:Option Nat->RE->Prop}{st:RE}
section
variable{M:Ui}{A:Rw}{E:Q_->Rf->Prop}{s:Rf}{kd:S0}{rk:RQ->Nat}{S:RQ->Prop}
theorem xM{q0:Nat}(L:mC M A E s kd rk S)(hk:kindOf st=kd)(hS:m8 S st)(hsz:q0<=(Rk st).size)(h2:2<=q0)(hs:∀i j,i<j->j<q0->R rk (Rk st) j<R rk (Rk st) i)(hr:∀x,Rh M A (rule x) (λ_ s'=>s'=s) E s)
  (h:∀am,Within st am 0 q0->iQ rk (Rk am) 0 q0->Q (some q0) am):wpS M A E s (o8 0 1 q0) Q st:=by
 unfold o8;refine RB (Wz (RL (hr _) (λ_ _ z=>⟨z,?_⟩) λ_ _ z=>z));dsimp only;refine RB (TZ (S3 (I:=λx c am=>am=st/\c=(none,x,0)) (Q:=λc am=>am=st/\c=(none,q0,0)) ?_ ?_ ⟨rfl,rfl⟩) ?_)
 ·rintro x c io hx1 hx2 ⟨rfl,rfl⟩;dsimp only;refine RB (ji L hk hS (by lia) (by lia) ?_);dsimp only;have w:=hs (x-1) x (by lia) hx2;rw[<-show 0+x-1=x-1 by lia]at w;rw[decide_eq_true (show R rk (Rk io) (0+x)<R rk (Rk io) (0+x-1) by rw[My]at w ⊢;exact w),if_pos rfl,if_neg (by decide)];exact RV ⟨rfl,rfl⟩
 ·rintro c io ⟨rfl,rfl⟩;rw[NJ h2];exact⟨rfl,rfl⟩
 rintro c io ⟨rfl,rfl⟩;dsimp only;rw[if_neg (by decide)];refine nN L hk hS (by rw[My];exact hsz) (by lia) (c_ _) (λi j lf hj=>?_) λn am g1 g2 W o=>?_
 ·rw[My,My];rcases PV lf with rfl|l
  ·exact c_ _
  exact Mt (hs i j l hj)
 have e:n=q0:=NQ g2 g1;subst e;exact h am W o
theorem tZ(L:mC M A E s kd rk S)(hk:kindOf st=kd)(hS:m8 S st)(h1:1<=(Rk st).size)(hr:∀x,Rh M A (rule x) (λ_ s'=>s'=s) E s)(hm:zq rk (Rk st))
  (h:∀am,Within st am 0 (Rk st).size->iQ rk (Rk am) 0 (Rk st).size->Q (some (Rk st).size) am):wpS M A E s (U9 0 (Rk st).size) Q st:=by
 have up:iQ rk (Rk st) 0 (Rk st).size->wpS M A E s (U9 0 (Rk st).size) Q st:=λo=>sU L hk hS (by rw[My];exact c_ _) h1 o (h st .ip o)
 rcases hm with m|m
 ·refine up λi j lf hj=>?_;rw[My,My];rcases PV lf with rfl|l
  ·exact c_ _
  exact Mt (m i j l hj)
 by_cases z:(Rk st).size=1
 ·refine up λi j lf hj=>?_;rw[show i=j by lia];exact c_ _
 generalize hq:(Rk st).size=q0 at *;rw[DE];dsimp only;refine RB (TZ (S3 (I:=λx c am=>am=st/\c=(none,1)/\x=1) (Q:=λc am=>am=st/\c=(none,1)) ?_ ?_ ⟨rfl,rfl,rfl⟩) ?_)
 ·rintro x c io hx1 hx2 ⟨rfl,rfl,rfl⟩;dsimp only;refine RB (ji L hk hS (by lia) (by lia) ?_);dsimp only;rw[decide_eq_true (show R rk (Rk io) (0+1)<R rk (Rk io) (0+1-1)from m 0 1 (by decide) hx2),if_pos rfl];exact RV ⟨rfl,rfl⟩
 ·rintro c io ⟨rfl,rfl,e⟩;lia
 rintro c io ⟨rfl,rfl⟩;dsimp only;rw[if_neg (by simpa using λe=>z e.symm),if_neg (by decide)];exact xM L hk hS (by lia) (by lia) m hr h
theorem wY{sz:Nat}{Q:ForInStep LS->RE->Prop}(hp:RW st=#[])(h:∀am,Rk am=Rk st->S9 am=S9 st->(RW am).size<=1->Q (Si (none,0+n)) am):wpS M A E s (tl sz 0 n) Q st:=by unfold tl;refine RB (Wb ?_);rw[hp];show wpS M A E s (tM 0 n) _ st;unfold tM;refine RB (X5 (RV (h _ rfl rfl ?_)));show((RW st).push _).size<=1;rw[hp];exact c_ _
theorem tB(hn:(Rk st).size<64\/zq rk (Rk st)){Q:Unit->RE->Prop}(L:mC M A E s kd rk S)(hS:∀p∈(Rk st).toList,S p)(hr:∀x,Rh M A (rule x) (λ_ s'=>s'=s) E s)(hk:kindOf st=kd)(hf:S9 st=none)(hp:RW st=#[])
  (h:∀am,(Rk am).Perm (Rk st)->S9 am=none->Srt rk (Rk am).toList->Q () am):wpS M A E s sortRuns' Q st:=by
 rw[JP];refine RB (Wb ?_);refine RB (TZ (S3 (I:=λx c am=>(x=0/\c=(none,0)/\am=st)\/(c=(none,(Rk st).size)/\(Rk am).Perm (Rk st)/\iQ rk (Rk am) 0 (Rk st).size/\S9 am=none/\(RW am).size<=1)) (Q:=λc am=>c.1=none/\(Rk am).Perm (Rk st)/\iQ rk (Rk am) 0 (Rk st).size/\S9 am=none/\(RW am).size<=1) ?_ ?_ (.inl ⟨rfl,rfl,rfl⟩)) ?_)
 ·rintro x c io _ hx (⟨rfl,rfl,rfl⟩|⟨rfl,g1,g2,g3,g4⟩)
  ·unfold nB;rw[if_neg (Q4.mpr hx),QM];have fin:∀jp:RE,Within io jp 0 (Rk io).size->iQ rk (Rk jp) 0 (Rk io).size->∀kw,Rk kw=Rk jp->S9 kw=S9 jp->(RW kw).size<=1->((none,0+(Rk io).size):LS)=(none,(Rk io).size)/\(Rk kw).Perm (Rk io)/\iQ rk (Rk kw) 0 (Rk io).size/\S9 kw=none/\(RW kw).size<=1:=λjp W o kw e1 e2 e3=>by rw[e1,e2,My];exact⟨rfl,W.kp.a,o,W.kp.f.trans hf,e3⟩
   rcases hn with hn|hm
   case inr=>
    refine RB (tZ L hk hS hx hr hm λjp W1 o1=>?_);dsimp only;have mr:¬(Rk io).size<Wc (Rk io).size (Rk io).size 0:=N1.mpr (yH _ _ 0);rw[if_neg mr];exact wY (W1.kp.p.trans hp) λst4 e1 e2 e3=>.inr (fin jp W1 o1 st4 e1 e2 e3)
   rw[Eb hn,OY];refine RB (vm L hk hS (by rw[My];exact c_ _) hx hr λn jp g1 g2 W1 o1=>?_);dsimp only;by_cases w:n<(Rk io).size
   ·rw[if_pos w];refine RB (Wz (RL (hr _) (λ_ _ z=>⟨z,?_⟩) λ_ _ z=>z));refine RB (Gn L (W1.kp.k.trans hk) (m8.kp hS W1.kp) (by rw[W1.kp.size,My];exact c_ _) (Mt w) o1 λkw W2 o2=>?_);rw[if_neg (by simp)];exact wY ((W1.trans W2).kp.p.trans hp) λst4 e1 e2 e3=>.inr (fin kw (W1.trans W2) o2 st4 e1 e2 e3)
   rw[if_neg w];have e:n=(Rk io).size:=NQ g2 (MF w);rw[e]at o1 ⊢;exact wY (W1.kp.p.trans hp) λst4 e1 e2 e3=>.inr (fin jp W1 o1 st4 e1 e2 e3)
  unfold nB;rw[if_pos (c_ _)];exact RV ⟨rfl,g1,g2,g3,g4⟩
 ·rintro c io (⟨e,rfl,rfl⟩|⟨rfl,g1,g2,g3,g4⟩)
  ·exact⟨rfl,O' _,λi j _ hj=>by lia,hf,by rw[hp];exact Me _⟩
  exact⟨rfl,g1,g2,g3,g4⟩
 rintro⟨c,n⟩ io ⟨rfl,g1,g2,g3,g4⟩;dsimp only;refine RB (TZ (S3 (I:=λx c am=>c=(none,())/\am=io) (Q:=λc am=>c=(none,())/\am=io) ?_ (λ_ _ z=>z) ⟨rfl,rfl⟩) ?_)
 ·rintro x c jp _ _ ⟨rfl,rfl⟩;unfold zm;refine RB (Wb ?_);rw[if_pos g4];exact RV ⟨rfl,rfl⟩
 rintro c jp ⟨rfl,rfl⟩;refine RV (h jp g1 g3 ?_);have:=BX g2;rw[List.drop_zero,Pc (by rw[l_,g1.size_eq];exact c_ _)]at this;exact this
end
variable {S:RQ->Prop}{rk:RQ->Nat}{vs:List Q_}
section
variable{prog:Rj}{w:Ro}{A:Rw}{E:Q_->Rf->Prop}{s:Rf}
theorem BM{kd:S0}(h:uP rk vs):(Rk (Vu kd (vs.toArray.zip vs.toArray) #[] 7 none)).size<64\/zq rk (Rk (Vu kd (vs.toArray.zip vs.toArray) #[] 7 none)):=by
 have hl:(vs.toArray.zip vs.toArray).size=vs.length:=by rw[<-l_,l9,a_]
 have at':∀i (hi:i<vs.length),R rk (vs.toArray.zip vs.toArray) i=rk (vs[i],vs[i]):=λi hi=>by
  unfold R;rw[<-A_,l9,o_,b_ hi]
  rfl
 show(vs.toArray.zip vs.toArray).size<64\/zq rk (vs.toArray.zip vs.toArray);rcases h with h|⟨_,h|h⟩
 ·exact .inl (by rw[hl];exact h)
 ·refine .inr (.inl λi j lf hj=>?_);rw[hl]at hj;rw[at' i (by lia),at' j hj];exact MN.mp h i j _ hj lf
 refine .inr (.inr λi j lf hj=>?_);rw[hl]at hj;rw[at' i (by lia),at' j hj];exact MN.mp h i j _ hj lf
theorem ue{a:Ra}{kd:S0}{P:PySem.Fin->Rf->Prop}(ho:s.heap.get? a=some (RX "list" vs.toArray n))(hn:uP rk vs)(hS:∀v∈vs,S (v,v))
  (kind:∀h',(∀b o,b≠a->s.heap.get? b=some o->h'.get? b=some o)->∀{Q:S0->Rf->Prop},vs≠[]->Q kd {s with heap:=h'}->Rh (Rn prog w) A (VG vs.toArray) Q E {s with heap:=h'})
  (lt:∀h',(∀b o,b≠a->s.heap.get? b=some o->h'.get? b=some o)->mC (Rn prog w) A E {s with heap:=h'} kd rk S)
  (h:∀(o:List Q_) c h',o.Perm vs->o.Pairwise (λx y=>rk (x,x)<=rk (y,y))->(∀b u,b≠a->s.heap.get? b=some u->h'.get? b=some u)->h'.get? a=some (RX "list" o.toArray c)->P (.done (.ret .none)) {s with heap:=h'}) :
  Rh (Rn prog w) A (R9.«list.sort» ⟨[.ref a],[]⟩) P E s:=by
 have hz:vs.length<=sizeLine:=hn.elim (λh=>by rw[sizeLine_eq];lia) (·.1);rw[list_sort_plain];have ha:a<s.heap.objs.size:=Rm ho;refine Q9 (listItems_at ho rfl ?_);refine Q9 (YD ho rfl ?_ (by rw[g_];exact hz) (Me _));obtain⟨e1,ho1⟩:∃e1,(s.heap.update a (R5 λ_=>(#[]:Array Q_))).get? a=some (RX "list" #[] e1):=⟨_,X_ ho λ_=>#[]⟩;refine Q9 (Zi ho1 rfl ?_);refine Q9 (Yj ?_ hz);refine Q9 (T5 ?_ (Me _));refine Ry ?_;have k2:∀b u,(s.heap.update a (R5 λ_=>(#[]:Array Q_))).get? b=some u->(((s.heap.update a (R5 λ_=>(#[]:Array Q_))).push (RX "tuple" vs.toArray 0)).push (RX "list" #[] 0)).get? b=some u:=λb u e=>Rg _ (Rg _ e);have k3:∀b u,b≠a->s.heap.get? b=some u->(((s.heap.update a (R5 λ_=>(#[]:Array Q_))).push (RX "tuple" vs.toArray 0)).push (RX "list" #[] 0)).get? b=some u:=λb u hb e=>k2 b u (by rw[UU _ _ _ _ hb];exact e)
 have ho6:=k2 _ _ ho1;show Rh (Rn prog w) A _ P E {s with heap:=((s.heap.update a (R5 λ_=>(#[]:Array Q_))).push (RX "tuple" vs.toArray 0)).push (RX "list" #[] 0) };generalize ((s.heap.update a (R5 λ_=>(#[]:Array Q_))).push (RX "tuple" vs.toArray 0)).push (RX "list" #[] 0)=h1 at k3 ho6 ⊢;dsimp only;have fin:∀am:RE,(Rk am).Perm (vs.toArray.zip vs.toArray)->Srt rk (Rk am).toList->S9 am=none->Rh (Rn prog w) A (do
   let touched:=(<-seqEpoch a) != e1
   Y3 (.ref a) λ_=>(Rk am).map (·.2)
   if let some e:=S9 am then rule "list.sort.comparison-raised";throw e
   if touched then rule "list.sort.modified";raiseError "ValueError" "list modified during sort"
   ret .none) P E {s with heap:=h1}:=λam hp hs hf=>by
  have lp:(Rk am).toList.Perm (vs.map λv=>(v,v)):=by have:=OM.mp hp;rw[l9]at this;exact this
  have op:((Rk am).toList.map (·.2)).Perm vs:=by have:=lp.map (·.2);rw[F',show((λx:RQ=>x.2) ∘ λv:Q_=>(v,v))=id from rfl,Pb]at this;exact this
  have tw:∀p∈(Rk am).toList,p=(p.2,p.2):=λp hp=>by obtain⟨v,_,e⟩:=h_.mp (lp.mem_iff.mp hp);rw[<-e]
  have osr:((Rk am).toList.map (·.2)).Pairwise (λx y=>rk (x,x)<=rk (y,y)):=by rw[J_];refine M' (λ{p q} hp hq hr=>?_) hs;rw[<-tw p hp,<-tw q hq];exact hr
  have os:((Rk am).map (·.2)).size<=sizeLine+1:=by rw[<-l_,Qj,op.length_eq];lia
  refine Q9 (Zi ho6 rfl ?_);refine Q9 (YD ho6 rfl ?_ (Me _) os);rw[hf];simp only[bne_self_eq_false,I_,if_false];obtain⟨c,hc⟩:∃c,(h1.update a (R5 λ_=>(Rk am).map (·.2))).get? a=some (RX "list" ((Rk am).toList.map (·.2)).toArray c):=by have:=X_ ho6 λ_=>(Rk am).map (·.2);rw[show((Rk am).toList.map (·.2)).toArray=(Rk am).map (·.2) by rw[<-Qj]];exact⟨_,this⟩
  refine Rc (h _ c _ op osr (λb u hb e=>?_) hc);rw[UU _ _ _ _ hb];exact k3 b u hb e
 by_cases h2:vs.toArray.size<2
 ·rw[if_pos h2,if_pos h2];refine Q9 (Rc ?_);rw[StateT.run_pure];refine Q9 (Rc ?_);refine fin (Vu general' (vs.toArray.zip vs.toArray) #[] 7 none) (O' _) ?_ rfl;show Srt rk (vs.toArray.zip vs.toArray).toList;rw[l9];have h3:vs.length<2:=h2;clear fin h lt kind hS ho
  match vs,h3 with
  | [],_=>exact .nil
  | [v],_=>exact Nv _ _
  | _::_::_,h3=>exact absurd h3 (by rw[gV,gV];lia)
 rw[if_neg h2,if_neg h2];refine Q9 (kind h1 k3 (λz=>by rw[z]at h2;simp at h2) ?_);refine Q9 (RL (tB (BM hn) (st:=Vu kd (vs.toArray.zip vs.toArray) #[] 7 none) (Q:=λ_ am=>(Rk am).Perm (vs.toArray.zip vs.toArray)/\S9 am=none/\Srt rk (Rk am).toList) (lt h1 k3) (λp hp=>?_) (λx=>Ss rfl) rfl rfl rfl λam a1 a2 a3=>⟨a1,a2,a3⟩) ?_ λ_ _ e=>e)
 ·rw[show(Rk (Vu kd (vs.toArray.zip vs.toArray) #[] 7 none))=vs.toArray.zip vs.toArray from rfl,l9]at hp;obtain⟨v,hv,e⟩:=h_.mp hp;rw[<-e];exact hS v hv
 rintro⟨⟨⟩,am⟩ s' ⟨rfl,hp,hf,hs⟩;exact fin am hp hs hf
theorem CG{l:Ra}{kd:S0}{Q:Q_->Rf->Prop}(hl:s.heap.IsList l vs.toArray)(hn:uP rk vs)(hS:∀v∈vs,S (v,v))
  (kind:∀h',(∀b o,s.heap.get? b=some o->h'.get? b=some o)->∀{Q:S0->Rf->Prop}{E:Q_->Rf->Prop},vs≠[]->Q kd {s with heap:=h'}->Rh (Rn prog w) A.in1.in1 (VG vs.toArray) Q E {s with heap:=h'})
  (lt:∀h' E,(∀b o,s.heap.get? b=some o->h'.get? b=some o)->mC (Rn prog w) A.in1.in1 E {s with heap:=h'} kd rk S)
  (h:∀(o:List Q_) a c h',o.Perm vs->o.Pairwise (λx y=>rk (x,x)<=rk (y,y))->s.heap.objs.size<=a->(∀b u,s.heap.get? b=some u->h'.get? b=some u)->h'.get? a=some (RX "list" o.toArray c)->Q (.ref a) {s with heap:=h'}) :
  Rh (Rn prog w) A (call (.builtin "sorted") [.ref l]) Q E s:=by
 have hz:vs.length<=sizeLine:=hn.elim (λh=>by rw[sizeLine_eq];lia) (·.1);refine Tq Xq W_ W' (Xa _) ?_;unfold R9.«sorted»;refine Q9 (m:=X' "sorted" 1 1 _) (Rc ?_);refine Q9 (collect_list hl ?_ hz);refine Q9 (T5 ?_ hz);have hsz:((s.heap.push (RX "list" #[] 0)).update s.heap.objs.size (R5 (·++vs.toArray))).objs.size=s.heap.objs.size+1:=by rw[Heap.size_update,size_push']
 have hoL:(((s.heap.push (RX "list" #[] 0)).update s.heap.objs.size (R5 (·++vs.toArray))).push (RX "list" vs.toArray 0)).get? (s.heap.objs.size+1)=some (RX "list" vs.toArray 0):=by rw[<-hsz];exact Ri _ rfl
 have keep:∀b o,s.heap.get? b=some o->(((s.heap.push (RX "list" #[] 0)).update s.heap.objs.size (R5 (·++vs.toArray))).push (RX "list" vs.toArray 0)).get? b=some o:=λb o q=>by have hlt:b<s.heap.objs.size:=Rm q;rw[Xk _ _ _ (by rw[hsz];exact s_ (Ms hlt)),UU _ _ _ _ (s_ hlt),Xk _ _ _ (s_ hlt)];exact q
 show Rh _ _ _ _ _ {s with heap:=((s.heap.push (RX "list" #[] 0)).update s.heap.objs.size (R5 (·++vs.toArray))).push (RX "list" vs.toArray 0) };rw[hsz];generalize ((s.heap.push (RX "list" #[] 0)).update s.heap.objs.size (R5 (·++vs.toArray))).push (RX "list" vs.toArray 0)=h1 at hoL keep ⊢;have ne:∀b o,s.heap.get? b=some o->b≠s.heap.objs.size+1:=λb o e=>s_ (Ms (Rm e));refine Q9 (Ry (RM Wk ⟨_,hoL,rfl⟩ VY ?body (Wl _)))
 case body=>
  refine ue (s:={s with heap:=h1}) (kd:=kd) (rk:=rk) (S:=S) hoL hn hS (λh' k {Q} ld q=>kind h' (λb o e=>k b o (ne b o e) (keep b o e)) ld q) (λh' k=>lt h' _ λb o e=>k b o (ne b o e) (keep b o e)) λo c h' g1 g2 g3 g4=>?_;exact⟨_,rfl,Rc ⟨_,rfl,h o _ c h' g1 g2 (Oa _) (λb u e=>g3 b u (ne b u e) (keep b u e)) g4⟩⟩
end
end ZS
namespace ZT
open PySem PyProof.Rows
section
variable{prog:Rj}{w:Ro}{A:Rw}{E:Q_->Rf->Prop}{s:Rf}
theorem wq{a:Ra}{o:Obj}{ks:List Int}{es:Array (Int×Q_)}{ep:Nat}{t:RT}{Q:Q_->Rf->Prop}(ho:s.heap.get? a=some o)(I:SI prog w o ks es ep t)(hh:A.handled=none)(hn:ks.length<64)
  (h:∀(out:List Q_) (ms:List Int) p c h' tk d,SF out ms->ms.Perm ks->ms.Pairwise (·<=·)->s.heap.objs.size<=p->(∀b u,s.heap.get? b=some u->h'.get? b=some u)->h'.get? p=some (RX "list" out.toArray c)->Q (.ref p) {s with heap:=h',drawn:=d,toks:=tk}) :
  Rh (Rn prog w) A (call (.builtin "sorted") [.ref a]) Q E s:=by
 refine Tq Xq W_ W' (Xa _) ?_;unfold R9.«sorted»;refine Q9 (m:=X' "sorted" 1 1 _) (Rc ?_);refine Q9 (uK ho I hh λh0 tk d vs le k0 pm=>?_);obtain⟨ns,hI,kp⟩:=lJ pm.symm I.rd;obtain⟨keys,each⟩:=oh hI;have hz:vs.length<=sizeLine:=by rw[pm.length_eq,a_,l_];exact TQ I.sm
 have hn':vs.length<64:=by have:=lE I.rd;rw[a_,l_]at this;rw[pm.length_eq,a_,l_];omega
 refine Q9 (T5 ?_ hz);have hoL:(h0.push (RX "list" vs.toArray 0)).get? h0.objs.size=some (RX "list" vs.toArray 0):=Ri _ rfl;have keep:∀b o,s.heap.get? b=some o->(h0.push (RX "list" vs.toArray 0)).get? b=some o:=λb o q=>Rg _ (k0 b o q);show Rh _ _ _ _ _ {s with heap:=h0.push (RX "list" vs.toArray 0),drawn:=d,toks:=tk};have ne:∀b o,s.heap.get? b=some o->b≠h0.objs.size:=λb o e=>s_ (Rm (k0 b o e));generalize h0.push (RX "list" vs.toArray 0)=h1 at hoL keep ⊢;refine Q9 (Ry (RM Wk ⟨_,hoL,rfl⟩ VY ?body (Wl _)))
 case body=>
  refine ZS.ue (s:={s with heap:=h1,drawn:=d,toks:=tk}) (kd:=XF) (rk:=λx=>ZS.rnk ZS.ltI ns (ZS.kj x.1)) (S:=λx=>x.1∈vs) hoL (.inl hn') (λv hv=>hv) (λh' k {Q} ld q=>?_) (λh' k=>ZS.E2 λx hx=>each _ hx) λout c h' g1 g2 g3 g4=>?_
  ·obtain⟨v1,vs',ev⟩:=List.exists_cons_of_ne_nil ld;rw[ev]at hI ⊢;exact ZS.Bg hI q
  obtain⟨ms,om,mp⟩:=lJ g1.symm hI;have eo:=(oh om).1;refine⟨_,rfl,Rc ⟨_,rfl,h out ms _ c h' tk d om (mp.symm.trans kp.symm) ?_ le (λb u e=>g3 b u (ne b u e) (keep b u e)) g4⟩⟩;rw[<-eo,J_];refine M' (λ{x y} hx hy hxy=>?_) g2;by_cases z:ZS.kj x<=ZS.kj y
  ·exact z
  have:=ZS.nW ZS.Lj (ks:=ns) (a:=ZS.kj y) (b:=ZS.kj x) (by rw[<-keys];exact y_ (g1.mem_iff.mp hy)) (decide_eq_true (by omega));exact absurd this (N1.mpr hxy)
end
end ZT
namespace L2
open PySem PySem.Spec PyProof.Rows
theorem m7{l m:List Int}(nd:l.Nodup)(h:∀z∈l,z∈m):l.length<=m.length:=by
 induction l generalizing m with
 |nil=>exact Me _
 |cons a l ih=>
  obtain⟨n1,n2⟩:=E_.mp nd;have hm:a∈m:=h a t_;have:=ih (m:=m.erase a) n2 λz hz=>(Oy (λe:z=a=>n1 (by rw[<-e];exact hz))).mpr (h z (j_ _ hz))
  rw[N0 hm]at this;have:=NA hm;rw[gV];omega
theorem Bu(a b:List Int):(((p_ (min a.length b.length)).all λj=>a.getD j 0 == b.getD j 0)&&a.length == b.length)=decide (a=b):=by
 refine NR.mpr ?_;rw[K_,Mk,beq_iff_eq,decide_eq_true_iff];constructor
 ·rintro⟨h,l⟩;refine Qg l λi h1 h2=>?_;have:=beq_iff_eq.mp (h i (mo.mpr (Nat.lt_min.mpr ⟨h1,h2⟩)));rw[D_,D_,b_ h1,b_ h2]at this;exact this
 rintro rfl;exact⟨λj _=>beq_self_eq_true _,rfl⟩
section
variable{X:Cx}{ac:List (Ra×Obj)}{σ:St}{H:Hp}{s:Rf}{A:Rw}
theorem k9{a b:List Int}{us vs:List Q_}(r1:Vals (a.map V.int) us)(r2:Vals (b.map V.int) vs)(j:Nat)(g1:j<us.toArray.size)(g2:j<vs.toArray.size):SeqAt.EqAt A s us.toArray[j] vs.toArray[j] (a.getD j 0 == b.getD j 0):=by
 obtain⟨ps,rfl,rfl⟩:=fR r1;obtain⟨qs,rfl,rfl⟩:=fR r2;have h1:j<ps.length:=by simpa using g1
 have h2:j<qs.length:=by simpa using g2
 rw[D_,D_,o_,o_,b_ h1,b_ h2,Pu,Pu,Qk,Qk];exact .int_int _ _ _ _
def EqS(K:Rb)(H:Hp)(x y:V)(b:Bool):Prop:=
 (∃i j,x=.int i/\y=.int j/\b=decide (i=j))\/(∃i j,x=.str i/\y=.str j/\b=decide (i=j))\/(∃i j,x=.bl i/\y=.bl j/\b=(i == j))\/
 ∃c p q,∃u v:List Int,x=.ref p/\y=.ref q/\b=decide (u=v)/\SqG c K H p (u.map V.int)/\SqG c K H q (v.map V.int)
theorem DN(I:Inv X ac σ H s)(hu:A.units<cLine){x y:V}{v u:Q_}{b:Bool}(rx:RelV x v)(ry:RelV y u)(h:EqS X.K H x y b):SeqAt.RcAt A s v u b/\SeqAt.RcNeAt A s v u (!b):=by
 rcases h with⟨i,j,rfl,rfl,rfl⟩|⟨i,j,rfl,rfl,rfl⟩|⟨i,j,rfl,rfl,rfl⟩|⟨c,p,q,a,d,rfl,rfl,rfl,s1,s2⟩
 ·obtain⟨_,rfl⟩:=rx;obtain⟨_,rfl⟩:=ry;rw[<-Po];exact⟨.int_int _ _ _ _,.int_int _ _ _ _⟩
 ·obtain⟨_,rfl⟩:=rx;obtain⟨_,rfl⟩:=ry;rw[<-Po];exact⟨.str_str _ _ _ _,.str_str _ _ _ _⟩
 ·cases rx;cases ry;exact⟨.bool_bool _ _,.bool_bool _ _⟩
 cases rx;cases ry;have key:=Bu a d;cases c with
 |true=>
  obtain⟨us,r1,p1,_⟩:=I.tuple s1;obtain⟨vs,r2,p2,_⟩:=I.tuple s2;have l1:us.toArray.size=a.length:=by rw[g_,<-r1.length,a_]
  have l2:vs.toArray.size=d.length:=by rw[g_,<-r2.length,a_]
  have k1:=ZO p1 p2 hu (k9 r1 r2);have k2:=ZA p1 p2 hu (k9 r1 r2);rw[l1,l2,key]at k1 k2;exact⟨k1,k2⟩
 |false=>
  obtain⟨us,r1,p1,_⟩:=I.list s1;obtain⟨vs,r2,p2,_⟩:=I.list s2;have l1:us.toArray.size=a.length:=by rw[g_,<-r1.length,a_]
  have l2:vs.toArray.size=d.length:=by rw[g_,<-r2.length,a_]
  by_cases e:a.length=d.length
  ·have k1:=ZW p1.isList p2.isList (by rw[l1,l2,e]) hu (k9 r1 r2);have k2:=ZJ p1.isList p2.isList (by rw[l1,l2,e]) hu (k9 r1 r2);rw[<-e,OY,beq_self_eq_true,PC]at key;rw[l1,key]at k1 k2;exact⟨k1,k2⟩
  have hz:(us.toArray.size != vs.toArray.size)=true:=by rw[l1,l2];exact bne_iff_ne.mpr e
  rw[decide_eq_false λz=>e (by rw[z])];exact⟨.lists_lengths p1.isList p2.isList hz hu,.lists_lengths p1.isList p2.isList hz hu⟩
def Kh(K:Rb)(neg:Bool):R2:=λx y H Q=>∃b,EqS K H x y b/\Q (.bl (b != neg)) H
theorem E6(hu:X.A.units<cLine):OpR X (RJ .Eq) (Kh X.K false):=by rintro ac s σ H x y v u Q I rx ry ⟨b,e,q⟩;rw[Qy]at q;exact(DN I hu rx ry e).1 _ _ _ _ ⟨.bl b,H,I,rfl,q⟩
theorem HN(hu:X.A.units<cLine):OpR X (RJ .NotEq) (Kh X.K true):=by rintro ac s σ H x y v u Q I rx ry ⟨b,e,q⟩;rw[QF]at q;exact(DN I hu rx ry e).2 _ _ _ _ ⟨.bl (!b),H,I,rfl,q⟩
end
end L2
namespace PL
open PySem PySem.Spec PyProof.Rows L2
def Je(t u:T):Option Bool:=match t with
 | .int i=>match u with
  | .int j=>some (decide (i=j))
  | _=>none
 | .str i=>match u with
  | .str j=>some (decide (i=j))
  | _=>none
 | .bl i=>match u with
  | .bl j=>some (i == j)
  | _=>none
 | _=>(items t).bind λts=>(items u).bind λus=>(intsOf ts).bind λa=>(intsOf us).bind λb=>if kD t=kD u then some (decide (a=b))else none
def eqS:P2:=λt u k=>got (Je t u) λb=>k (.bl b)
def neS:P2:=λt u k=>got (Je t u) λb=>k (.bl (!b))
theorem DP{K:Rb}{H:Hp}{Γ:Fm}{t u:T}{x y:V}{b:Bool}(rp:Rp K H ((u,some y)::(t,some x)::Γ))(e:Je t u=some b):EqS K H x y b:=by
 have seq:∀{t:T},Rp K H ((u,some y)::(t,some x)::Γ)->((items t).bind λts=>(items u).bind λus=>(intsOf ts).bind λa=>(intsOf us).bind λb=>if kD t=kD u then some (decide (a=b))else none)=some b->EqS K H x y b:=by
  intro t rp e;obtain⟨ts,e1,f1⟩:=Nw.mp e;obtain⟨us,e2,f2⟩:=Nw.mp f1;obtain⟨a,e3,f3⟩:=Nw.mp f2;obtain⟨c,e4,f4⟩:=Nw.mp f3;clear e f1 f2 f3;have e5:=iE e3;have e6:=iE e4;subst e5 e6;by_cases h:kD t=kD u
  ·rw[if_pos h]at f4;cases f4;obtain⟨p,xs,rfl,s1,l1,r1⟩:=aD e1 rp.tail;obtain⟨q,ys,rfl,s2,l2,r2⟩:=aD e2 rp;have v1:=jg l1 r1;have v2:=jg l2 r2;subst v1 v2;rw[h]at s1;exact .inr (.inr (.inr ⟨_,p,q,a,c,rfl,rfl,rfl,s1,s2⟩))
  rw[if_neg h]at f4;cases f4
 cases t <;> try exact seq rp e
 ·cases u <;> cases e
  rw[kA rp,kA rp.tail];exact .inr (.inr (.inl ⟨_,_,rfl,rfl,rfl⟩))
 ·cases u <;> cases e
  rw[aM rp,aM rp.tail];exact .inl ⟨_,_,rfl,rfl,rfl⟩
 cases u <;> cases e
 rw[kO rp,kO rp.tail];exact .inr (.inl ⟨_,_,rfl,rfl,rfl⟩)
section
variable{X:Cx}
theorem fH{k:Nat}(hr:Room k X.A):OpP X (RJ .Eq) eqS:=.of (E6 (Hi hr (n:=0) (by decide))) λtx ty x y H Γ k Q rp g c=>by obtain⟨b,e,g⟩:=aF g;refine⟨b,DP rp e,?_⟩;rw[Qy];exact c _ _ _ g (dk rp.tail.tail λ_=>.bl)
theorem u6{k:Nat}(hr:Room k X.A):OpP X (RJ .NotEq) neS:=.of (HN (Hi hr (n:=0) (by decide))) λtx ty x y H Γ k Q rp g c=>by obtain⟨b,e,g⟩:=aF g;refine⟨b,DP rp e,?_⟩;rw[QF];exact c _ _ _ g (dk rp.tail.tail λ_=>.bl)
end
section
variable{i j:Int}{x y:Str}{b c:Bool}{k:T->Prop}
theorem gI:eqS (.int i) (.int j) k=k (.bl (decide (i=j))):=rfl
theorem gM:neS (.int i) (.int j) k=k (.bl (!decide (i=j))):=rfl
theorem Jy{a b c d:Int}:neS (.tup [.int a,.int b]) (.tup [.int c,.int d]) k=k (.bl (!decide (a=c/\b=d))):=by show k (.bl (!decide ([a,b]=[c,d])))=_;simp only[Mu,and_true]
end
end PL
namespace ZV
open PySem
theorem pS:∀j:Nat,∃m,5 ^ 2 ^ j=1+2 ^ (j+2)*(2*m+1)
 |0=>⟨0,rfl⟩
 |j+1=>by
  obtain⟨m,e⟩:=pS j;refine⟨m+2 ^ j*((2*m+1)*(2*m+1)),?_⟩;rw[Mn 2 j,QX,e,show j+1+2=j+3 from rfl,show(2:Nat) ^ (j+3)=2*2 ^ (j+2)from by rw[Mn];exact QL _ _,show(2:Nat) ^ (j+2)=4*2 ^ j from by rw[Mn,Mn];omega];generalize 2 ^ j=a;generalize hc:2*m+1=c;rw[show 2*(m+a*(c*c))+1=c+2*(a*(c*c)) by omega,Nat.pow_two];clear e hc
  grind
theorem oU{M x:Nat}(h:x%M=1%M):∀n,x ^ n%M=1%M
 |0=>rfl
 |n+1=>by rw[Mn,Ob,oU h n,h,<-Ob]
theorem vI:∀(k n:Nat),5 ^ n%2 ^ (k+2)=1->2 ^ k ∣ n
 |0,n,_=>Nat.one_dvd _
 |k+1,n,h=>by
  have h0:5 ^ n%2 ^ (k+2)=1:=by have:5 ^ n%2 ^ (k+1+2)%2 ^ (k+2)=5 ^ n%2 ^ (k+2):=Nat.mod_mod_of_dvd _ ⟨2,by rw[<-Mn]⟩;rw[h]at this;rw[<-this];exact O2 (PX (by omega))
  obtain⟨q,rfl⟩:=vI k n h0;rcases Nat.mod_two_eq_zero_or_one q with e|e
  ·obtain⟨r,rfl⟩:=Pd e;exact⟨r,by rw[Mn,Og]⟩
  exfalso;obtain⟨m,em⟩:=pS k;obtain⟨r,rfl⟩:∃r,q=2*r+1:=⟨q/2,by omega⟩;have s2:5 ^ 2 ^ (k+1)%2 ^ (k+3)=1%2 ^ (k+3):=by obtain⟨m',e'⟩:=pS (k+1);rw[e',show k+1+2=k+3 from rfl,Nm]
  have e1:5 ^ (2 ^ k*(2*r+1))=(5 ^ 2 ^ (k+1)) ^ r*5 ^ 2 ^ k:=by rw[<-QX,<-QY];congr 1;rw[QZ,Qb,Mn,Og]
  have h1:5 ^ (2 ^ k*(2*r+1))%2 ^ (k+3)=1:=h;rw[e1,Ob,oU s2 r,<-Ob,OG,em,show(2:Nat) ^ (k+3)=2 ^ (k+2)*2 from Mn ..]at h1;have p:0<2 ^ (k+2):=MB _;have:(1+2 ^ (k+2)*(2*m+1))%(2 ^ (k+2)*2)=1+2 ^ (k+2):=by
   rw[show 1+2 ^ (k+2)*(2*m+1)=1+2 ^ (k+2)+2 ^ (k+2)*2*m by rw[QZ,Qb,Og];omega,Nm];refine O2 ?_;have:4<=2 ^ (k+2):=by rw[Mn,Mn];have:=MB k;omega
   omega
  omega
noncomputable def lp(k:Nat):Nat->Nat->Nat
 |0,i=>i
 |n+1,i=>lp k n ((i*5+1)%2 ^ k)
theorem He{k:Nat}:∀{n i:Nat},i<2 ^ k->lp k n i<2 ^ k
 |0,_,h=>h
 |n+1,i,_=>He (n:=n) (i:=(i*5+1)%2 ^ k) (NL _ (MB k))
theorem uh{k:Nat}:∀(n i:Nat),(4*lp k n i+1)%2 ^ (k+2)=5 ^ n*(4*i+1)%2 ^ (k+2)
 |0,i=>by rw[QN,OG];rfl
 |n+1,i=>by
  have e:(4*((i*5+1)%2 ^ k)+1)%2 ^ (k+2)=5*(4*i+1)%2 ^ (k+2):=by
   rw[show(2:Nat) ^ (k+2)=4*2 ^ k from by rw[Mn,Mn];omega];have d:=Nat.div_add_mod (i*5+1) (2 ^ k);rw[show 5*(4*i+1)=4*((i*5+1)%2 ^ k)+1+4*2 ^ k*((i*5+1)/2 ^ k) by rw[Og];omega,Nm]
  rw[lp,uh n,Ob,e,<-Ob,show 5 ^ (n+1)=5 ^ n*5 from Mn ..,Og]
variable {i:Nat}
theorem BL{k:Nat}:∀{m n:Nat},m<=n->n<2 ^ k->lp k m i=lp k n i->m=n:=by
 intro m n hmn hn h;have f1:=uh (k:=k) m i;have f2:=uh (k:=k) n i;rw[h]at f1;have e:5 ^ m*(4*i+1)%2 ^ (k+2)=5 ^ n*(4*i+1)%2 ^ (k+2):=f1.symm.trans f2;obtain⟨d,rfl⟩:∃d,n=m+d:=⟨n-m,by omega⟩;have le:5 ^ m*(4*i+1)<=5 ^ (m+d)*(4*i+1):=Nat.mul_le_mul_right _ (Pw (by decide) hmn);have dv:2 ^ (k+2) ∣ 5 ^ (m+d)*(4*i+1)-5 ^ m*(4*i+1):=Pd (Nat.sub_mod_eq_zero_of_mod_eq e.symm);have ee:5 ^ (m+d)*(4*i+1)-5 ^ m*(4*i+1)=5 ^ m*(4*i+1)*(5 ^ d-1):=by rw[Nat.mul_sub,Qb,QY,Nat.mul_right_comm]
 rw[ee]at dv;have co:Nat.Coprime (2 ^ (k+2)) (5 ^ m*(4*i+1)):=by refine Nat.Coprime.pow_left _ (Nat.Coprime.mul_right (Nat.Coprime.pow_right _ (by decide)) ?_);show Nat.gcd 2 (4*i+1)=1;rw[Nat.gcd_rec,show(4*i+1)%2=1 by omega];exact Nat.gcd_one_left 2
 have dd:=co.dvd_of_dvd_mul_left dv;have p5:0<5 ^ d:=Nat.pow_pos (by decide);have m1:5 ^ d%2 ^ (k+2)=1:=by obtain⟨c,hc⟩:=dd;rw[show 5 ^ d=1+2 ^ (k+2)*c by omega,Nm];exact O2 (PX (by omega))
 obtain⟨c,hc⟩:=vI k d m1;cases c with
 |zero=>omega
 |succ c=>
  have:2 ^ k<=d:=by rw[hc,PY];omega
  omega
variable {α:Type}
theorem Hd{l m:List α}(nd:l.Nodup)(h:∀z∈l,z∈m):l.length<=m.length:=by
 haveI:DecidableEq α:=λa b=>Y4 (a=b)
 induction l generalizing m with
 |nil=>exact Me _
 |cons a l ih=>
  obtain⟨n1,n2⟩:=E_.mp nd;have hm:a∈m:=h a t_;have:=ih (m:=m.erase a) n2 λz hz=>(Oy (λe:z=a=>n1 (by rw[<-e];exact hz))).mpr (h z (j_ _ hz))
  rw[N0 hm]at this;have:=NA hm;rw[gV];omega
theorem J8{N:Nat}:∀{l:List Nat},l.Nodup->(∀x∈l,x<N)->N<=l.length->∀j,j<N->j∈l:=by
 intro l nd h hl j hj;refine SY λhn=>?_;have sub:∀x∈j::l,x∈p_ N:=λx m=>mo.mpr ((i_.mp m).elim (λe=>by rw[e];exact hj) (h x))
 have nd2:(j::l).Nodup:=E_.mpr ⟨hn,nd⟩;have:=Hd nd2 sub;rw[gV,B_]at this;omega
variable {j:Nat}
theorem J6{k:Nat}(hi:i<2 ^ k)(hj:j<2 ^ k):∃n,n<2 ^ k/\lp k n i=j:=by
 have nd:((p_ (2 ^ k)).map λn=>lp k n i).Nodup:=by
  refine J_.mpr (M' (λ{a b} ha hb hab e=>?_) O3);have ha:=mo.mp ha;have hb:=mo.mp hb;rcases QO a b with h|h
  ·exact hab (BL h hb e)
  exact hab (BL h ha e.symm).symm
 have:=J8 nd (λx m=>by obtain⟨n,_,rfl⟩:=h_.mp m;exact He hi) (by rw[a_,B_];exact c_ _) j hj;obtain⟨n,hn,e⟩:=h_.mp this;exact⟨n,mo.mp hn,e⟩
noncomputable def hd(k:Nat):Nat->Nat->Nat->Nat
 |0,i,_=>i
 |n+1,i,p=>hd k n ((i*5+1+p/32)%2 ^ k) (p/32)
theorem Lh{k:Nat}:∀{n i:Nat},hd k n i 0=lp k n i
 |0,_=>rfl
 |n+1,i=>by show hd k n ((i*5+1+0/32)%2 ^ k) (0/32)=lp k n ((i*5+1)%2 ^ k);rw[Nat.zero_div,OX,Lh]
theorem xD{k j:Nat}(hj:j<2 ^ k):∀{m i p:Nat},p<32 ^ m->i<2 ^ k->∃n,n<m+2 ^ k/\hd k n i p=j
 |0,i,p,hp,hi=>by
  have e:p=0:=by rw[QN]at hp;omega
  subst e;obtain⟨n,hn,e⟩:=J6 hi hj;exact⟨n,by omega,by rw[Lh,e]⟩
 |m+1,i,p,hp,hi=>by obtain⟨n,hn,e⟩:=xD hj (m:=m) (i:=(i*5+1+p/32)%2 ^ k) (p:=p/32) (by rw[Mn]at hp;omega) (NL _ (MB k));exact⟨n+1,by omega,e⟩
open PySem ZT
variable {p:R_}
section
variable{t:RT}{k:Nat}
noncomputable def adv(t:RT):Nat->R_->R_
 |0,p=>p
 |n+1,p=>adv t n (t.advance p)
structure GoP (k:Nat) (p:R_):Prop where
 i:p.i<2 ^ k
 more:p.more<=9
 pb:p.perturb<32 ^ 13
 no:p.dummy=none
theorem BB{mask:Nat}:UQ mask i-i<=9:=by unfold UQ;split <;> omega
theorem zI{h:Int}:S5 h<32 ^ 13:=by unfold S5;have:=Ng h (show(0:Int)<2 ^ 64 by decide);have:=Ny h (show((2:Int) ^ 64)≠0 by decide);omega
theorem vT(hm:t.mask+1=2 ^ k)(h:Int):GoP k (t.probeStart h):=⟨by show S5 h%(t.mask+1)<2 ^ k;rw[hm];exact NL _ (MB k),BB,zI,rfl⟩
theorem Jo(hm:t.mask+1=2 ^ k)(g:GoP k p):GoP k (t.advance p):=by
 unfold T1;split
 ·exact⟨g.i,G' (Ov _ _) g.more,g.pb,g.no⟩
 refine⟨?_,BB,MC (Qw _ _) g.pb,g.no⟩;show(p.i*5+1+p.perturb/32)%(t.mask+1)<2 ^ k;rw[hm];exact NL _ (MB k)
theorem qj(hm:t.mask+1=2 ^ k):∀{m:Nat}{p:R_},p.more=m->∃q,adv t (m+1) p=q/\q.j=q.i/\q.i=(p.i*5+1+p.perturb/32)%2 ^ k/\q.perturb=p.perturb/32
 |0,p,e=>by refine⟨_,rfl,?_⟩;show(t.advance p).j=(t.advance p).i/\(t.advance p).i=_/\(t.advance p).perturb=_;unfold T1;rw[if_neg (by omega)];refine⟨rfl,?_,rfl⟩;show(p.i*5+1+p.perturb/32)%(t.mask+1)=_;rw[hm]
 |m+1,p,e=>by
  have e1:t.advance p={p with j:=p.j+1,more:=p.more-1}:=by unfold T1;rw[if_pos (by omega)]
  obtain⟨q,h1,h2⟩:=qj hm (m:=m) (p:=t.advance p) (by rw[e1];show p.more-1=m;omega);refine⟨q,h1,?_⟩;rw[e1]at h2;exact h2
theorem yn{a b:Nat}:∀{p:R_},adv t (a+b) p=adv t b (adv t a p):=by
 induction a with
 |zero=>intro p;rw[My];rfl
 |succ a ih=>intro p;rw[Nat.succ_add];exact ih
theorem tE(hm:t.mask+1=2 ^ k):∀{n:Nat}{p:R_},GoP k p->GoP k (adv t n p)
 |0,_,g=>g
 |n+1,_,g=>tE hm (n:=n) (Jo hm g)
theorem DR(hm:t.mask+1=2 ^ k):∀{n:Nat}{p:R_},GoP k p->∃M,M<=10*(n+1)/\(adv t M p).j=hd k (n+1) p.i p.perturb
 |0,p,g=>by obtain⟨q,h1,h2,h3,h4⟩:=qj hm (p:=p) rfl;exact⟨p.more+1,by have:=g.more;omega,by rw[h1,h2,h3];rfl⟩
 |n+1,p,g=>by
  obtain⟨q,h1,h2,h3,h4⟩:=qj hm (p:=p) rfl;have gq:GoP k q:=by rw[<-h1];exact tE hm g
  obtain⟨M,hM,e⟩:=DR hm (n:=n) gq;refine⟨p.more+1+M,by have:=g.more;omega,?_⟩;rw[yn,h1,e,h3,h4]
  rfl
theorem Jk(hm:t.mask+1=2 ^ k)(g:GoP k p)(hj:j<2 ^ k):∃M,M<=10*(13+2 ^ k)/\(adv t M p).j=j:=by obtain⟨n,hn,e⟩:=xD hj (m:=13) (i:=(p.i*5+1+p.perturb/32)%2 ^ k) (p:=p.perturb/32) (MC (Qw _ _) g.pb) (NL _ (MB k));obtain⟨M,hM,e2⟩:=DR hm (n:=n) g;exact⟨M,by omega,e2.trans e⟩
theorem Fc(hm:t.mask+1=2 ^ k)(hu:Up t.place.toList)(hn:t.dummies=#[])(hf:t.place.size<=t.mask):∃j,j<2 ^ k/\t.slot j=.empty:=by
 refine SY λhc=>?_;have all:∀j∈p_ (2 ^ k),j∈t.place.toList:=λj mj=>by refine SY λnj=>hc ⟨j,mo.mp mj,?_⟩;unfold T8;dsimp only;rw[if_neg,hn,pF,if_neg C_];intro z;exact nj (F_ (by rw[A_];exact eq_of_beq z))
 have:=Hd O3 all;rw[B_,l_]at this;omega
theorem reach(hm:t.mask+1=2 ^ k)(hu:Up t.place.toList)(hn:t.dummies=#[])(hf:t.place.size<=t.mask)(g:GoP k p):∃M,M<10*S_ t.mask/\t.slot (adv t M p).j=.empty:=by obtain⟨j,hj,e⟩:=Fc hm hu hn hf;obtain⟨M,hM,e2⟩:=Jk hm g hj;exact⟨M,by unfold S_;omega,by rw[e2];exact e⟩
theorem Fp(hn:t.dummies=#[])(j:Nat):t.slot j≠.dummy:=by
 unfold T8;dsimp only;split
 ·exact λz=>by cases z
 rw[hn,pF,if_neg C_];exact λz=>by cases z
theorem uY(hn:t.dummies=#[]){hashAt:Nat->Int}{h:Int}:∀{M:Nat}{p:R_}{f:Nat},p.dummy=none->t.slot (adv t M p).j=.empty->M<f->
  (∃j,TN t hashAt h f p=some (.empty j none)/\t.slot j=.empty)\/∃m i,m<M/\TN t hashAt h f p=some (.candidate (adv t m p).j i (adv t (m+1) p))/\t.slot (adv t m p).j=.live i/\hashAt i=h
 |M,p,0,_,_,l=>absurd l (Na _)
 |M,p,f+1,nd,e,l=>by
  unfold TN;cases hs:t.slot p.j with
  |empty=>exact .inl ⟨p.j,by rw[nd],hs⟩
  |dummy=>exact absurd hs (Fp hn _)
  |live i=>
   dsimp only;cases M with
   |zero=>rw[show adv t 0 p=p from rfl,hs]at e;cases e
   |succ M=>
    by_cases hh:(hashAt i == h)=true
    ·rw[if_pos hh];exact .inr ⟨0,i,Nt _,rfl,hs,eq_of_beq hh⟩
    rw[if_neg hh];have nd':(t.advance p).dummy=none:=by unfold T1;split <;> exact nd
    rcases uY hn (M:=M) (p:=t.advance p) (f:=f) nd' e (Nz l)with h1|⟨m,i',hm,h1,h2,h3⟩
    ·exact .inl h1
    exact .inr ⟨m+1,i',Nat.succ_lt_succ hm,h1,h2,h3⟩
end
open PySem ZT
variable {owner:Array (Option Nat)}
section
variable{k mask:Nat}
theorem yG(hm:mask+1=2 ^ k){owner:Array (Option Nat)}:∀{n i p f:Nat},owner.getD (hd k n i p) (some 0)=none->n<f->∃j,TL mask owner f i p=some j/\owner.getD j (some 0)=none
 |n,i,p,0,_,l=>absurd l (Na _)
 |n,i,p,f+1,e,l=>by
  unfold TL;cases hf:(p_ (UQ mask i+1-i)).find? λx=>(owner.getD (i+x) (some 0)).isNone with
  |some x=>
   have:=List.find?_some hf;exact⟨i+x,rfl,Option.isNone_iff_eq_none.mp this⟩
  |none=>
   dsimp only;cases n with
   |zero=>
    have:=List.find?_eq_none.mp hf 0 (mo.mpr (by unfold UQ;split <;> omega));rw[OX,show owner.getD i (some 0)=none from e]at this;exact absurd rfl this
   |succ n=>
    have e':owner.getD (hd k n ((i*5+1+p/32)%(mask+1)) (p/32)) (some 0)=none:=by rw[hm];exact e
    exact yG hm e' (Nz l)
theorem vH{α:Type}{p q:α->Bool}{j:α}(hp:p j=false)(hq:q j=true)(he:∀x,x≠j->q x=p x):∀{l:List α},l.Nodup->j∈l->(l.filter q).length=(l.filter p).length+1
 | [],_,m=>by cases m
 |x::l,nd,m=>by
  obtain⟨n1,n2⟩:=E_.mp nd;by_cases h:x=j
  ·subst h;rw[Mh,Mh,hp,hq,if_pos rfl,if_neg C_,gV];congr 2;exact N7 λy hy=>he y λz=>n1 (by rw[<-z];exact hy)
  have ih:=vH hp hq he n2 ((i_.mp m).resolve_left λz=>h z.symm);rw[Mh,Mh,he x h];split
  ·rw[gV,gV,ih]
  exact ih
structure Own (k:Nat) (owner:Array (Option Nat)) (c:Nat):Prop where
 sz:owner.size=2 ^ k
 cnt:((p_ (2 ^ k)).filter λj=>(owner.getD j none).isSome).length=c
 lt:∀j x,owner.getD j none=some x->x<c
theorem KL:Own k (Array.replicate (2 ^ k) none) 0 where
 sz:=Array.size_replicate
 cnt:=by rw[List.length_eq_zero_iff,Pe];intro j hj;rw[J',O4];split <;> exact C_
 lt:=λj x e=>by rw[J',O4]at e;split at e <;> cases e
theorem Bd{c:Nat}(o:Own k owner c)(hc:c<2 ^ k):∃j,j<2 ^ k/\owner.getD j (some 0)=none:=by
 refine SY λhn=>?_;have all:((p_ (2 ^ k)).filter λj=>(owner.getD j none).isSome)=p_ (2 ^ k):=by
  refine NN.mpr λj mj=>?_;have hj:=mo.mp mj;cases h:owner.getD j none with
  |some x=>rfl
  |none=>
   refine absurd ⟨j,hj,?_⟩ hn;have hs:j<owner.size:=by rw[o.sz];exact hj
   rw[J',k_ hs]at h ⊢;exact h
 have:=o.cnt;rw[all,B_]at this;omega
theorem Gq{c:Nat}(o:Own k owner c)(e:owner.getD j (some 0)=none):Own k (owner.setIfInBounds j (some c)) (c+1):=by
 have hs:j<owner.size:=by refine Qi λz=>?_;rw[J',Mm z]at e;cases e
 have e0:owner.getD j none=none:=by rw[J',k_ hs]at e ⊢;exact e
 have g1:(owner.setIfInBounds j (some c)).getD j none=some c:=by
  rw[J',Array.getElem?_setIfInBounds_self_of_lt hs]
  rfl
 have g2:∀x,x≠j->(owner.setIfInBounds j (some c)).getD x none=owner.getD x none:=λx hx=>by rw[J',J',Array.getElem?_setIfInBounds_ne (Ti hx)]
 refine⟨by rw[Array.size_setIfInBounds];exact o.sz,?_,λx y h=>?_⟩
 ·rw[vH (p:=λx=>(owner.getD x none).isSome) (j:=j) (by rw[e0];rfl) (by rw[g1];rfl) (λx hx=>by rw[g2 x hx]) O3 (mo.mpr (by rw[<-o.sz];exact hs)),o.cnt]
 by_cases z:x=j
 ·rw[z,g1]at h;cases h;exact MI _
 rw[g2 x z]at h;exact Ms (o.lt x y h)
theorem vK(hm:mask+1=2 ^ k):∀(hs:List Int) {owner:Array (Option Nat)}{c:Nat},Own k owner c->c+hs.length<2 ^ k->
  ∃owner',Own k owner' (c+hs.length)/\hs.foldl (λ(acc:Option (Array (Option Nat)×Nat)) h=>do
   let (owner,k) <-acc
   let j <-TL mask owner (S_ mask) (S5 h%(mask+1)) (S5 h)
   pure (owner.setIfInBounds j (some k),k+1)) (some (owner,c))=some (owner',c+hs.length)
 | [],owner,c,o,_=>⟨owner,o,rfl⟩
 |h::hs,owner,c,o,l=>by rw[gV]at l;obtain⟨j,hj,e⟩:=Bd o (by omega);obtain⟨n,hn,eh⟩:=xD hj (m:=13) (i:=S5 h%(mask+1)) (p:=S5 h) zI (by rw[hm];exact NL _ (MB k));obtain⟨j',e1,e2⟩:=yG hm (owner:=owner) (n:=n) (f:=S_ mask) (by rw[eh];exact e) (by unfold S_;omega);obtain⟨o',h1,h2⟩:=vK hm hs (Gq o e2) (by omega);refine⟨o',by rw[gV,<-QG,OI];exact h1,?_⟩;rw[MU];show hs.foldl _ ((TL mask owner (S_ mask) (S5 h%(mask+1)) (S5 h)).bind λj=>some (owner.setIfInBounds j (some c),c+1))=_;rw[e1];rw[gV,<-QG,OI];exact h2
theorem qh{α β:Type}{f:α->Option β}:∀{l:List α},(l.filterMap f).length=(l.filter λx=>(f x).isSome).length
 | []=>rfl
 |x::l=>by
  rw[Nu,Mh];cases h:f x with
  |none=>exact qh
  |some y=>
   show(y::l.filterMap f).length=(x::_).length;rw[gV,gV,qh]
theorem Fl(hm:mask+1=2 ^ k){f m:Nat}{led plain:Bool}{hs:Array Int}(hl:hs.size<=mask):∃t order,WK mask f m led plain hs=some (t,order)/\t.mask=mask/\t.dummies=#[]/\t.led=led/\Up t.place.toList/\t.place.size=hs.size/\order.size=hs.size/\∀x∈order.toList,x<hs.size:=by
 obtain⟨owner,o,e⟩:=vK hm hs.toList (KL (k:=k)) (by rw[l_];omega);rw[My,l_]at o e;have e2:Vn mask hs=some owner:=by
  unfold Vn;rw[<-Array.foldl_toList,hm];rw[hm]at e;rw[e]
  rfl
 unfold WK;rw[e2];refine⟨_,_,rfl,rfl,rfl,rfl,?_,?_,?_,?_⟩
 ·show Up (((p_ (mask+1)).filterMap λj=>(owner.getD j none).map (j,·)).map (·.1));refine J_.mpr (O8.mpr (N_.imp λ{a b} hab x hx y hy=>?_));obtain⟨u,_,rfl⟩:=MV.mp hx;obtain⟨v,_,rfl⟩:=MV.mp hy;exact hab
 ·show(((p_ (mask+1)).filterMap λj=>(owner.getD j none).map (j,·)).map (·.1)).length=_;rw[a_,qh,<-o.cnt,hm];congr 1;refine N7 λj _=>?_;rw[N3]
 ·show(((p_ (mask+1)).filterMap λj=>(owner.getD j none).map (j,·)).map (·.2)).length=_;rw[a_,qh,<-o.cnt,hm];congr 1;refine N7 λj _=>?_;rw[N3]
 intro x hx;obtain⟨⟨j,y⟩,hy,rfl⟩:=h_.mp hx;obtain⟨j',_,h⟩:=NU.mp hy;obtain⟨v,hv,e⟩:=MV.mp h;cases e;exact o.lt _ _ hv
theorem v7{n:Nat}:∀(f a:Nat),n<2 ^ (a+f)->∃b,a<=b/\Wm n f (2 ^ a)=2 ^ b/\n<2 ^ b/\(b=a\/2 ^ b<=2*n)
 |0,a,h=>⟨a,c_ _,rfl,h,.inl rfl⟩
 |f+1,a,h=>by
  unfold Wm;by_cases c:2 ^ a<=n
  ·rw[if_pos c,<-Mn];obtain⟨b,h1,h2,h3,h4⟩:=v7 f (a+1) (by rw[OI];exact h);refine⟨b,by omega,h2,h3,.inr ?_⟩;rcases h4 with rfl|h4
   ·rw[Mn];omega
   exact h4
  rw[if_neg c];exact⟨a,c_ _,rfl,by omega,.inl rfl⟩
theorem BY{n:Nat}(h:n<1000000):∃b,Sm n=2 ^ b/\3<=b/\n<2 ^ b/\(b=3\/2 ^ b<=2*n):=by obtain⟨b,h1,h2,h3,h4⟩:=v7 (n:=n) 64 3 (A' h (by decide));exact⟨b,h2,h1,h3,h4⟩
end
open PySem ZT PyProof.Rows
variable {Q:Bool->Rf->Prop}{b:Ra}{h h':Rq}
section
variable{prog:Rj}{w:Ro}{A:Rw}{E:Q_->Rf->Prop}{s:Rf}
noncomputable def TI(h:Rq)(row:List Int)(b:Ra):Prop:=∃o n,∃ps:List (Int×Tok),h.get? b=some o/\o.cls=.type "tuple"/\o.data=.seq (ps.map λp=>Sk p.1 p.2).toArray n/\ps.map (·.1)=row
theorem jR:∀{ps:List (Int×Tok)},ItemsAre (Tg prog w) (ps.map (·.1)) (ps.map λp=>Sk p.1 p.2)
 | []=>.nil
 |p::ps=>.cons (Vs _ _ _ _) jR
theorem TI.key {row:List Int}(x:TI h row b):X1 (Tg prog w) h row b:=by obtain⟨o,n,ps,h1,h2,h3,rfl⟩:=x;exact⟨o,_,n,h1,h2,h3,jR⟩
theorem TI.at {row:List Int}(x:TI h row b)(k:∀o,h.get? b=some o->h'.get? b=some o):TI h' row b:=let ⟨o,n,ps,h1,r⟩:=x;⟨o,n,ps,k o h1,r⟩
theorem vR{row:List Int}(x:TI s.heap row b)(q:Q false s):Rh (Rn prog w) A (Us 8 (.ref b)) Q E s:=by
 have hT:=(x.key (prog:=prog) (w:=w)).typeIs;obtain⟨o,n,ps,h1,h2,h3,h4⟩:=x;unfold Us;refine Q9 (Ue hT ?_);dsimp only;refine Q9 (Rc ?_);rw[if_neg (by decide)];refine Q9 (Su h1 h3 ?_);refine Q9 ?_;show Rh _ _ (forIn (ps.map λp=>Sk p.1 p.2).toArray _ _) _ _ s;rw[<-PZ];refine Uz _ (λrest r s'=>r.1=none/\s'=s/\∀v∈rest,∃i t,v=Sk i t) _ ?_ ?_ _ _ ⟨rfl,rfl,λv hv=>?_⟩
 ·rintro v rest r s' ⟨hr,rfl,hall⟩;obtain⟨i,t,rfl⟩:=hall v t_;refine Q9 (?_:Rh _ _ (Us 7 (.int i t)) _ _ _);unfold Us;refine Rc ?_;simp only[I_,if_false];exact Rc ⟨rfl,rfl,λu hu'=>hall u (j_ _ hu')⟩
 ·rintro⟨r1,r2⟩ s' ⟨hr,rfl,_⟩;simp only at hr;subst hr;exact Rc q
 obtain⟨p,_,rfl⟩:=h_.mp (show v∈ps.map λp=>Sk p.1 p.2 from hv);exact⟨_,_,rfl⟩
theorem Cs{row:List Int}(x:TI s.heap row b)(q:Q true s):Rh (Rn prog w) A (V7 8 (.ref b)) Q E s:=by
 have hT:=(x.key (prog:=prog) (w:=w)).typeIs;obtain⟨o,n,ps,h1,h2,h3,h4⟩:=x;unfold V7;refine Q9 (UK hT F.slot_tuple_hash.lookup ?_);dsimp only;refine Q9 (Su h1 h3 ?_);refine Q9 ?_;show Rh _ _ (forIn (ps.map λp=>Sk p.1 p.2).toArray _ _) _ _ s;rw[<-PZ];refine Uz _ (λrest r s'=>r.1=none/\s'=s/\∀v∈rest,∃i t,v=Sk i t) _ ?_ ?_ _ _ ⟨rfl,rfl,λv hv=>?_⟩
 ·rintro v rest r s' ⟨hr,rfl,hall⟩;obtain⟨i,t,rfl⟩:=hall v t_;refine Q9 (?_:Rh _ _ (V7 7 (.int i t)) _ _ _);unfold V7;refine Rc ?_;simp only[ON,I_,if_false];exact Rc ⟨rfl,rfl,λu hu'=>hall u (j_ _ hu')⟩
 ·rintro⟨r1,r2⟩ s' ⟨hr,rfl,_⟩;simp only at hr;subst hr;exact Rc q
 obtain⟨p,_,rfl⟩:=h_.mp (show v∈ps.map λp=>Sk p.1 p.2 from hv);exact⟨_,_,rfl⟩
theorem Cr{row:List Int}(x:TI s.heap row b){vs:List Q_}(hv:∀v∈vs,∃c r,v=.ref c/\TI s.heap r c)(q:Q false s):Rh (Rn prog w) A (Xl (.ref b) vs) Q E s:=by
 unfold Xl;refine Q9 ?_;refine Uz _ (λrest r s'=>r.1=none/\s'=s/\∀v∈rest,∃c r,v=.ref c/\TI s.heap r c) _ ?_ ?_ _ _ ⟨rfl,rfl,hv⟩
 ·rintro v rest r s' ⟨hr,rfl,hall⟩;obtain⟨c,r',rfl,y⟩:=hall v t_;dsimp only;have fin:(none:Option Bool)=none/\s'=s'/\∀v∈rest,∃c r,v=.ref c/\TI s'.heap r c:=⟨rfl,rfl,λu hu'=>hall u (j_ _ hu')⟩;refine Sj (λ_=>Rc fin) (λ_=>?_);refine Q9 (Wn (x.key (prog:=prog) (w:=w)) ?_);rw[if_neg (by decide)];refine Q9 (Wn (y.key (prog:=prog) (w:=w)) ?_);rw[if_neg (by decide)];refine Q9 (vR x ?_);rw[if_neg (by decide)];refine Q9 (vR y ?_);rw[if_neg (by decide)];exact Rc fin
 rintro⟨r1,r2⟩ s' ⟨hr,rfl,_⟩;simp only at hr;subst hr;exact Rc q
end
open PySem ZT PyProof.Rows
section
variable{prog:Rj}{w:Ro}{A:Rw}{E:Q_->Rf->Prop}{s:Rf}
structure SV (L:Nat) (h:Rq) (o:Obj) (es:Array (Int×Q_)) (ep:Nat) (t:RT) (k:Nat) (S:List (List Int)):Prop where
 ex:o.ExactSet
 dat:o.data=.set es ep t
 k3:3<=k
 pw:t.mask+1=2 ^ k
 up:Up t.place.toList
 no:t.dummies=#[]
 pl:t.place.size=es.size
 nf:es.size*5<t.mask*3
 ub:t.mask+1<=8*es.size+8
 sz:es.size=S.length
 el:∀e∈es.toList,∃b row,e.2=.ref b/\row∈S/\b<L/\TI h row b
variable{L:Nat}{a b:Ra}{o:Obj}{es:Array (Int×Q_)}{ep k:Nat}{t:RT}{S:List (List Int)}{row:List Int}
theorem SV.ft (V:SV L h o es ep t k S):t.fits es.size=true:=by unfold WL Vj;rw[V.pl,V.no,beq_self_eq_true,MJ];refine decide_eq_true ?_;show es.size+0<=t.mask;have:=V.nf;omega
theorem SV.way (V:SV L h o es ep t k S):t.gaveWay=false:=by
 unfold ZX;have:t.mask%2=1:=by have h1:=V.pw;have h3:=V.k3;obtain⟨j,rfl⟩:∃j,k=j+1:=⟨k-1,by omega⟩;rw[Mn]at h1;omega
 rw[this]
 rfl
theorem Aa(h:t.slot j=.live i):t.place[i]?=some j:=by
 unfold T8 at h;dsimp only at h;split at h
 ·rename_i e;cases h;exact eq_of_beq e
 split at h <;> cases h
theorem rN(ho:s.heap.get? a=some o)(V:SV L s.heap o es ep t k S)(hx:TI s.heap row b)(hn:row ∉ S)(hu:A.units<cLine){hs:Int}{Q:SetFound->Rf->Prop}(q:∀j,t.slot j=.empty->Q (.free j false) s) :
  ∀{f M:Nat}{st:Option R_},GoP k (st.getD (t.probeStart hs))->t.slot (adv t M (st.getD (t.probeStart hs))).j=.empty->M<10*S_ t.mask->M<f->Rh (Rn prog w) A (YE a (.ref b) hs true f st) Q E s
 |0,M,st,_,_,_,l=>absurd l (Na _)
 |f+1,M,st,g,e,lt,l=>by
  unfold YE;refine Q9 (R7 ho V.dat V.ft ?_);dsimp only;rw[V.way,if_neg C_];have pg:=uY V.no (hashAt:=λi=>(es[i]?.map (·.1)).getD 0) (h:=hs) g.no e lt;split
  ·rename_i met heq;rcases pg with⟨j,h1,h2⟩|⟨m,i,hm,h1,h2,h3⟩
   ·have z:some met=some (ZK j none):=heq.symm.trans h1;cases z;exact Rc (q j h2)
   have z:some met=some (Zj (adv t m (st.getD (t.probeStart hs))).j i (adv t (m+1) (st.getD (t.probeStart hs)))):=heq.symm.trans h1;cases z;clear heq h1;have pi:=Aa h2;have hi:i<es.size:=by rw[<-V.pl];exact(OO.mp pi).1
   obtain⟨⟨h',y⟩,ei⟩:∃p,es[i]?=some p:=⟨_,k_ hi⟩;obtain⟨c,r,ec,mr,_,hc⟩:=V.el (h',y) (NM.mpr (Pp ei));have ec:y=.ref c:=ec;subst ec;have gn:GoP k (adv t (m+1) (st.getD (t.probeStart hs))):=tE V.pw g;have en:t.slot (adv t (M-(m+1)) (adv t (m+1) (st.getD (t.probeStart hs)))).j=.empty:=by rw[<-yn,show m+1+(M-(m+1))=M by omega];exact e
   have ih:=rN ho V hx hn hu (hs:=hs) q (f:=f) (M:=M-(m+1)) (st:=some (adv t (m+1) (st.getD (t.probeStart hs)))) gn en (by omega) (by omega);dsimp only;generalize (adv t m (st.getD (t.probeStart hs))).j=j at *;generalize adv t (m+1) (st.getD (t.probeStart hs))=nx at *;refine Sj (λ_=>Q9 (Cr hx (λv hv=>?_) ?sa)) (λz=>?sb)
   ·obtain⟨e',me,rfl⟩:=h_.mp hv;obtain⟨c',r',h4,_,_,h6⟩:=V.el e' (by have:=NM.mp me;exact NM.mpr (Array.mem_filter.mp this).1);exact⟨c',r',h4,h6⟩
   case' sb=>clear z
   case' sa=>
    rw[if_neg C_];refine ?sb
   case sb=>
    rw[ei];dsimp only;refine Q9 (Ry (wpAny_eqBool_tuple hu (hc.key (prog:=prog) (w:=w)) (hx.key (prog:=prog) (w:=w)) ?_));rw[decide_eq_false (λz:r=row=>hn (z▸mr))];refine Q9 (R7 ho V.dat V.ft ?_);dsimp only;rw[if_neg (by decide),show t.sameMemory t.moves t.mask=some true by unfold ZC;rw[if_pos (beq_self_eq_true _)]];dsimp only;rw[if_pos rfl,h2];dsimp only;rw[ei];dsimp only;refine Q9 (wpAny_isSame_ref_self ?_);refine Q9 (Rc ?_);rw[if_pos rfl];dsimp only;rw[if_neg C_];exact ih
  rename_i ld;rcases pg with⟨j,h1,h2⟩|⟨m,i,hm,h1,h2,h3⟩
  ·exact absurd h1 (ld _)
  exact absurd h1 (ld _)
noncomputable def SW(L:Nat)(h:Rq)(a:Ra)(S:List (List Int)):Prop:=∃o es ep t k,h.get? a=some o/\SV L h o es ep t k S
theorem SV.at (V:SV L h o es ep t k S)(kp:∀b row,b<L->TI h row b->TI h' row b):SV L h' o es ep t k S:=⟨V.ex,V.dat,V.k3,V.pw,V.up,V.no,V.pl,V.nf,V.ub,V.sz,λe me=>by obtain⟨c,r,h1,h2,h4,h3⟩:=V.el e me;exact⟨c,r,h1,h2,h4,kp c r h4 h3⟩⟩
theorem Fh{xs:Array α}{p:Nat}{x y:α}(h:y∈(RZ xs p x).toList):y=x\/y∈xs.toList:=by
 unfold RZ at h;rw[Array.toList_append,OS,C',C',x_]at h;have sub:∀{i j:Nat},y∈(xs.extract i j).toList->y∈xs.toList:=λ{i j} h=>by rw[Array.toList_extract]at h;exact Ot (Ou (by simpa using h))
 rcases h with (h|h)|h
 ·exact .inr (sub h)
 ·exact .inl h
 exact .inr (sub h)
theorem pO{xs:Array α}{p:Nat}{x:α}(h:p<=xs.size):(RZ xs p x).size=xs.size+1:=by unfold RZ;rw[Array.size_append,Array.size_push,P0,P0];omega
theorem vv(ho:s.heap.get? a=some o)(V:SV L s.heap o es ep t k S)(hx:TI s.heap row b)(bL:b<L)(na:∀c r,TI s.heap r c->c≠a)(hl:S.length<1000){es2:Array (Int×Q_)}{t2:RT}
  (e1:t2.mask=t.mask) (e2:Up t2.place.toList) (e3:t2.dummies=#[]) (e4:t2.place.size=es2.size) (e5:es2.size=es.size+1) (e6:∀e∈es2.toList,e.2=.ref b\/e∈es.toList) {Q:Bool->Rf->Prop}
  (q:∀h',RN a s.heap h'->SW L h' a (row::S)->Q true {s with heap:=h'}) :
  Rh (Rn prog w) A (YW a es2 t2 >>= λ_=>if(!false&&t2.tooFull)=true then setRelay a (Sy (es.size+1)) >>= λ_=>pure true else pure true) Q E s:=by
 have n1:=V.sz;have kp:∀{h'},RN a s.heap h'->∀c r,TI s.heap r c->TI h' r c:=λ{h'} sb c r x=>x.at λo' e=>sb.extBut _ _ (na c r x) e;have mem:∀{h'},RN a s.heap h'->∀e∈es2.toList,∃c r,e.2=.ref c/\r∈row::S/\c<L/\TI h' r c:=λ{h'} sb e me=>by
  rcases e6 e me with h|h
  ·exact⟨b,row,h,t_,bL,kp sb _ _ hx⟩
  obtain⟨c,r,h1,h2,h4,h3⟩:=V.el e h;exact⟨c,r,h1,j_ _ h2,h4,kp sb _ _ h3⟩
 refine Q9 (Ur ho V.dat ?_ (by rw[e5,n1];show _<=16777216;omega));have s1:=stored (es':=es2) (t':=t2) ho V.dat;have b1:=RD s.heap a (UP es2 t2);generalize s.heap.update a (UP es2 t2)=h1 at s1 b1 ⊢;have ub:=V.ub;by_cases c:t2.tooFull=true
 ·rw[if_pos (by rw[c];rfl)];have cc:t.mask*3<=(es.size+1)*5:=by have:decide (t2.fill*5>=t2.mask*3)=true:=c;have:=of_decide_eq_true this;unfold Vj at this;rw[e1,e3,e4,e5]at this;exact this
  have f2:t2.fits es2.size=true:=by unfold WL Vj;rw[e4,e3,beq_self_eq_true,MJ];refine decide_eq_true ?_;show es2.size+0<=t2.mask;rw[e1,e5];have:=V.nf;have h3:=V.k3;have pw:=V.pw;have:2 ^ 3<=2 ^ k:=Pw (by decide) h3;omega
  have gw:Sy (es.size+1)=(es.size+1)*4:=by unfold Sy;rw[if_neg (by omega)]
  obtain⟨kb,a1,a2,a3,a4⟩:=BY (n:=(es.size+1)*4) (by omega);rw[gw];unfold setRelay;refine Q9 (Q9 (R7 s1 rfl f2 ?_));dsimp only;have le:Sm ((es.size+1)*4)<=8*(es.size+1)+8:=by rw[a1];rcases a4 with rfl|a4 <;> omega
  rw[if_neg (show ¬Sm ((es.size+1)*4) > sizeLine by show ¬_ > 16777216;omega)];obtain⟨t3,od,l1,l2,l3,l4,l5,l6,l7,l8⟩:=Fl (k:=kb) (mask:=Sm ((es.size+1)*4)-1) (f:=t2.finger) (m:=t2.movedTo (Sm ((es.size+1)*4)-1)) (led:=t2.led) (plain:=t2.plain) (hs:=es2.map (·.1)) (by rw[a1];have:=MB kb;omega) (by rw[Qz,e5,a1];omega);rw[show t2.relaid (es2.map (·.1)) ((es.size+1)*4)=some (t3,od)from l1];rw[Qz]at l6 l7 l8;have fs:(od.filterMap (es2[·]?)).size=es2.size:=by rw[<-l_,Pf,qh,NN.mpr (λx hx=>by rw[k_ (l8 x hx)];rfl),l_,l7]
  have fm:∀e∈(od.filterMap (es2[·]?)).toList,e∈es2.toList:=λe me=>by rw[Pf]at me;obtain⟨x,_,h⟩:=NU.mp me;exact NM.mpr (Pp h)
  refine Q9 (Sj (λz=>absurd z ?_) (λ_=>Rc ?_))
  ·rw[fs,bne_self_eq_false];exact C_
  refine Ur s1 rfl ?_ (by rw[fs,e5,n1];show _<=16777216;omega);have s3:=stored (es':=od.filterMap (es2[·]?)) (t':=t3) s1 rfl;have b3:=b1.trans (RD h1 a (UP (od.filterMap (es2[·]?)) t3));refine Rc (q _ b3 ⟨_,_,_,t3,kb,s3,V.ex,rfl,a2,by rw[l2,a1];have:=MB kb;omega,l5,l3,by rw[l6,fs],?_,?_,by rw[fs,e5,n1];rfl,λe me=>mem b3 e (fm e me)⟩)
  ·rw[fs,l2,e5,a1];omega
  rw[fs,l2,e5];have:0<Sm ((es.size+1)*4):=by rw[a1];exact MB kb
  omega
 rw[if_neg (by rw[Pn,MJ];exact c)];refine Rc (q _ b1 ⟨_,es2,_,t2,k,s1,V.ex,rfl,V.k3,by rw[e1];exact V.pw,e2,e3,e4,?_,by rw[e1,e5];omega,by rw[e5,n1];rfl,mem b1⟩);have:¬decide (t2.fill*5>=t2.mask*3)=true:=c;rw[decide_eq_true_eq]at this;unfold Vj at this;rw[e3,e4]at this;show es2.size*5<t2.mask*3;have z:(#[]:Array Nat).size=0:=rfl;omega
theorem EF(hS:SW L s.heap a S)(hx:TI s.heap row b)(bL:b<L)(hn:row ∉ S)(hu:A.units<cLine)(hl:S.length<1000){hs:Int}
  (q:∀h',RN a s.heap h'->SW L h' a (row::S)->Q true {s with heap:=h'}):Rh (Rn prog w) A (VI a (.ref b) hs) Q E s:=by
 obtain⟨o,es,ep,t,k,ho,V⟩:=hS;have na:∀c r,TI s.heap r c->c≠a:=λc r ⟨o',n,ps,e,_,hd,_⟩ z=>by rw[z,ho]at e;cases e;rw[V.dat]at hd;cases hd
 unfold VI Ym;refine Ry (Q9 (R7 ho V.dat V.ft ?_));dsimp only;rw[if_neg (show ¬byScan (.ref b) es=true from λz=>by unfold byScan at z;rw[K_,K_]at z;exact absurd (show false=true from z.1.1) C_)];obtain⟨M,hM,e⟩:=reach V.pw V.up V.no (by have:=V.nf;have:=V.pl;omega) (vT V.pw hs);refine Q9 (rN ho V hx hn hu (st:=none) (M:=M) (λj hj=>?_) (vT V.pw hs) e hM (by have h1:=V.ub;have h2:=V.sz;unfold S_ at hM;omega))
 dsimp only;refine Q9 (R7 ho V.dat V.ft ?_);dsimp only;have bl:=(kh (xs:=t.place) j V.up).1;have pe:t.place[RC t.place j]?≠some j:=λz=>by unfold T8 at hj;dsimp only at hj;rw[if_pos (by rw[z];exact beq_self_eq_true _)]at hj;cases hj
 have dm:(t.put j).1.dummies=#[]:=by unfold SetTable.put;dsimp only;rw[V.no,pF,if_neg C_]
 have pl:=V.pl;have f4:(t.put j).1.place.size=(RZ es (t.put j).2 (hs,Rz b)).size:=by show(RZ t.place (RC t.place j) j).size=(RZ es (RC t.place j) (hs,Rz b)).size;rw[pO bl,pO (by omega),pl]
 have f5:(RZ es (t.put j).2 (hs,Rz b)).size=es.size+1:=pO (show RC t.place j<=es.size by omega);have f6:∀e∈(RZ es (t.put j).2 (hs,Rz b)).toList,e.2=.ref b\/e∈es.toList:=λe me=>(Fh me).imp (λz=>by rw[z]) id
 have f2:Up (t.put j).1.place.toList:=rK V.up pe;refine Sj (λ_=>?_) (λ_=>?_)
 ·refine Q9 (Cs hx ?_);rw[if_pos rfl];exact vv (t2:=(t.put j).1) (es2:=RZ es (t.put j).2 (hs,Rz b)) ho V hx bL na hl rfl f2 dm f4 f5 f6 q
 refine Q9 (Rc ?_);rw[if_pos rfl];exact vv (t2:=(t.put j).1) (es2:=RZ es (t.put j).2 (hs,Rz b)) ho V hx bL na hl rfl f2 dm f4 f5 f6 q
end
open PySem ZT PyProof.Rows
variable {L:Nat}{row:Nat->List Int}
section
variable{prog:Rj}{w:Ro}{A:Rw}{R:WY->Rf->Prop}{I:Ra}{fp wr:List Ra}{G:Array Vy->Array Vy->Prop}{n:Nat}{P:Nat->Q_->Prop}{St:Nat->Rf->Prop}
noncomputable def iR(row:Nat->List Int)(i:Nat):List (List Int):=((p_ i).map row).reverse
theorem Cz:iR row (i+1)=row i::iR row i:=by
 unfold iR;rw[Nj,z_,List.reverse_append]
 rfl
theorem BU{n:Nat}(h:∀j,j<i->row j≠row i):row i ∉ iR row i:=λm=>by obtain⟨j,hj,e⟩:=h_.mp (NI.mp m);exact h j (mo.mp hj) e
theorem SW.at {a:Ra}{S:List (List Int)}(x:SW L h a S)(k:∀b o,h.get? b=some o->b=a\/b<L->h'.get? b=some o):SW L h' a S:=by obtain⟨o,es,ep,t,kk,e,V⟩:=x;exact⟨o,es,ep,t,kk,k _ _ e (.inl rfl),V.at λb row hb y=>y.at λo e=>k b o e (.inr hb)⟩
theorem AK(W:WalksS prog w A.in1 I fp wr G n P St)(S:Ra)(hSf:S ∉ fp)(hSL:L<=S)(hwL:∀b∈wr,L<=b)(row:Nat->List Int)(adr:Nat->Ra)(hval:∀i v,P i v->v=.ref (adr i))(hb:n<1000)(hu:A.in1.units<cLine)(hnd:∀i j,j<i->i<n->row j≠row i) :
  ∀(k i:Nat) (s:Rf),n-i=k->i<=n->St i s->SW L s.heap S (iR row i)->(∀j,j<n->TI s.heap (row j) (adr j)/\adr j<L)->(∀s',Moved (S::wr) G s s'->SW L s'.heap S (iR row n)->R (.ok (.ret .none)) s')->S7 (Rn prog w) A (.builtin "set.update.loop" ⟨[.ref S,.ref I],[]⟩) R s:=by
 have hSw:S ∉ wr:=λh=>hSf (W.sub _ h);have hsub:∀b∈wr,b∈S::wr:=λb hb=>j_ _ hb;have low:∀b,b=S\/b<L->b ∉ wr:=λb h m=>h.elim (λz=>hSw (z▸m)) λz=>absurd (hwL b m) (Q4.mpr z);intro k;induction k with
 |zero=>
  intro i s hk hi hst hS hT hR;obtain rfl:i=n:=by omega
  refine R1 TB ?_;rw[RU Sz _];show Rh _ A.in1 (SQ (.ref I) >>= _) _ _ s;refine Q9 (W.done s _ _ hst λs' hm=>?_);show Rh _ A.in1 (ret R0) _ _ s';exact Rc (hR s' (hm.mono hsub) (hS.at λb o e h=>hm.heap b o (low b h) e))
 |succ k ih=>
  intro i s hk hi hst hS hT hR;have hlt:i<n:=by omega
  refine R1 TB ?_;rw[RU Sz _];show Rh _ A.in1 (SQ (.ref I) >>= _) _ _ s;refine Q9 (W.item i s _ _ hlt hst λv s' hP hst' hm=>?_);obtain rfl:=hval i v hP;have hS':SW L s'.heap S (iR row i):=hS.at λb o e h=>hm.heap b o (low b h) e;have hT':∀j,j<n->TI s'.heap (row j) (adr j)/\adr j<L:=λj hj=>⟨(hT j hj).1.at λo e=>hm.heap _ o (low _ (.inr (hT j hj).2)) e,(hT j hj).2⟩;show Rh _ A.in1 (TC [Rz (adr i)] (YZ S (.ref (adr i))) >>= _) _ _ s';refine Q9 (Ry ?_);unfold YZ;refine Ry (Q9 (wpAny_pyHash_tuple hu ((hT' i hlt).1.key (prog:=prog) (w:=w)) ?_));refine EF (s:={s' with toks:=s'.toks+((row i).length+1) }) hS' (hT' i hlt).1 (hT' i hlt).2 (BU (n:=n) λj hj=>hnd i j hj hlt) hu (by unfold iR;rw[ML,a_,B_];omega) λh' sb hS2=>?_
  rw[<-Cz]at hS2;refine Rc ⟨S4 Sz _,ih (i+1) _ (by omega) hlt (W.frame _ s' _ _ hst' (Oh _ _) λb hb o e=>?_) hS2 (λj hj=>⟨(hT' j hj).1.at λo e=>?_,(hT' j hj).2⟩) λs'' hm'' hS''=>?_⟩
  ·rw[sb.2 b (λh:b=S=>hSf (by rw[<-h];exact hb))];exact e
  ·rw[sb.2 _ (λh:adr j=S=>absurd (hT' j hj).2 (by rw[h];exact N1.mpr hSL))];exact e
  refine hR s'' (Zh W.gtrans ((hm.mono hsub).then_heap (Oh _ _) λb o hb e=>?_) hm'') hS'';rw[sb.2 b (λh:b=S=>hb (by rw[h];exact t_))];exact e
end
open PySem ZT PyProof.Rows
section
variable{prog:Rj}{w:Ro}{A:Rw}{E:Q_->Rf->Prop}{s:Rf}
theorem Ia:SW L (h.push (nob w)) h.objs.size (iR row 0):=
 ⟨_,#[],0,_,3,Ri _ rfl,⟨rfl,rfl,rfl⟩,rfl,c_ _,rfl,N4,rfl,rfl,by show 0*5<7*3;decide,by show 7+1<=8*0+8;decide,rfl,λe he=>(nomatch he)⟩
set_option maxHeartbeats 3200000 in
theorem AD{l:Ra}{items:Array Q_}{adr:Nat->Ra}{Q:Q_->Rf->Prop}(hh:A.handled=none)(hl:s.heap.IsList l items)(hi:∀(i:Nat) (v:Q_),items[i]?=some v->v=.ref (adr i))(hTup:∀j,j<items.size->TI s.heap (row j) (adr j))(hb:items.size<1000)(hu:A.in1.in1.in1.units<cLine)(hnd:∀i j,j<i->i<items.size->row j≠row i)
  (h:∀(h':Rq) (tk:Nat),SW s.heap.objs.size h' s.heap.objs.size (iR row items.size)->(∀b o,b<s.heap.objs.size->s.heap.get? b=some o->h'.get? b=some o)->Q (.ref s.heap.objs.size) {s with heap:=h',toks:=tk}) :
  Rh (Rn prog w) A (call (.type "set") [.ref l]) Q E s:=by
 obtain⟨c,tl,hmro⟩:=R4.mro;have hmade:=R4.made;have hsub:=R4.sub;refine XO (VX ?_);show Rh _ _ (callAny (.type "set") _) _ _ _;refine Rc ⟨W8 _ (by rfl'),R1 Xj ?_⟩;rw[W9 (Wj "set" [.ref l] []) rfl];have h1:=R4.notType;have h2:=R4.canCreate;have hct:=XH (.ref l)
 repeat (any_goals (first|assumption|wp_step))
 refine SH (yo (.ref l) (E:=E) (Q:=λobj s₁=>obj=.ref s.heap.objs.size/\s₁={s with heap:=s.heap.push (nob w) }) ⟨rfl,rfl⟩) λr s₁ hr=>?_;cases r with
 |error e=>exact hr
 |ok fl=>
  cases fl with
  |ret obj=>
   obtain⟨rfl,rfl⟩:=hr;have hS:(s.heap.push (nob w)).get? s.heap.objs.size=some (nob w):=Ri _ rfl;have hT:YC {s with heap:=s.heap.push (nob w) } (.ref s.heap.objs.size) "set":=⟨_,hS,rfl⟩;have hli:=R4.init.lookup;have hbi:=R4.init.bind (.ref s.heap.objs.size)
   repeat (any_goals (first|assumption|wp_step))
   refine SH (WD (R:=wants (λr s₂=>r=.none/\∃h' tk,s₂={s with heap:=h',toks:=tk}/\SW s.heap.objs.size h' s.heap.objs.size (iR row items.size)/\(∀b o,b<s.heap.objs.size->s.heap.get? b=some o->h'.get? b=some o)) E) R4.init.plain XI (XJ hT ?_)) λr₂ s₂ hr₂=>?_
   ·obtain⟨ol,hol,hcl,nl,hdl⟩:=hl;obtain⟨ocls,odict,odata,oslots⟩:=ol;simp only at hcl hdl;subst hcl;subst hdl;have hol':(s.heap.push (nob w)).get? l=some { cls:=.type "list",dict:=odict,data:=.seq items nl,slots:=oslots}:=Rg _ hol;have hsls:=Yp;have hslf:=WE;have ld:(Sr "list" == Sr "dict")=false:=by decide
    have hl1:(s.heap.push (nob w)).IsList l items:=⟨_,hol',rfl,nl,rfl⟩;unfold R9.«set.__init__» noKeywords U4;generalize hPI:Ut=PI
    wp_walk
    subst hPI;refine Sh hl1 ?_;refine Q9 (U3 ?_);have hlS:l<s.heap.objs.size:=Rm hol;have hh3:A.in1.in1.in1.handled=none:=by simp[hh]
    have hneI:l≠(s.heap.push (nob w)).objs.size:=by rw[RK];exact s_ (Ms hlS)
    have hSf:s.heap.objs.size ∉ [(s.heap.push (nob w)).objs.size,l]:=by rw[RK];simp only[i_,x_,Mg,or_false,not_or];exact⟨s_ (MI _),MY hlS⟩
    refine AK (L:=s.heap.objs.size) ((X0 hh3 _ l hneI items).toS) s.heap.objs.size hSf (c_ _) (λb hb=>?hwL) row adr hi hb hu hnd (items.size-0) 0 _ (by omega) (Me _) ⟨⟨_,Ri _ rfl,rfl,rfl⟩,(hl1.push _)⟩ ?hS0 (λj hj=>⟨(hTup j hj).at λo e=>Rg _ (Rg _ e),?hlt⟩) ?hR
    case hwL=>rw[x_.mp hb,RK];exact Oa _
    case hlt=>obtain⟨o,_,_,e,_⟩:=hTup j hj;exact Rm e
    case hS0=>exact Ia.at λb o e _=>Rg _ e
    case hR=>
     intro s' hm hS';obtain⟨h',g',d',tk',os'⟩:=s';have eg:g'=s.gens:=hm.gens;have ed:d'=s.drawn:=hm.drawn;have eo:os'=s.os:=hm.os;subst eg;subst ed;subst eo;refine Rc ?_;show Rh _ _ (ret R0) _ _ _;refine Rc ⟨rfl,h',tk',rfl,hS',λb o hb e=>?_⟩;refine hm.heap b o ?_ (Rg _ (Rg _ e));rw[RK];simp only[i_,x_,Mg,or_false,not_or];exact⟨s_ hb,s_ (Ms hb)⟩
   ·cases r₂ with
    |error e=>exact hr₂
    |ok fl₂=>
     cases fl₂ with
     |ret r=>
      obtain⟨rfl,h',tk,rfl,hS',hk'⟩:=hr₂
      repeat (any_goals (first|assumption|wp_step))
      exact h _ _ hS' hk'
     | _=>exact hr₂.elim
  | _=>exact hr.elim
end
end ZV
namespace L2
open PySem PySem.Spec PyProof.Rows
variable {ac:List (Ra×Obj)}
section
variable{X:Cx}
theorem Lq{σ:St}{H:Hp}{s:Rf}{b:Ra}{k:List Int}(I:Inv X ac σ H s)(h:SqT X.K H b (k.map V.int)):ZV.TI s.heap k b:=by obtain⟨be,r,⟨o,ho,hc,n,hd⟩,hz⟩:=I.tuple h;obtain⟨ps,rfl,e⟩:=fR r;exact⟨o,n,ps,ho,hc,hd,e⟩
theorem FL{σ:St}{H:Hp}{s:Rf}(I:Inv X ac σ H s){ys:List V}{be:List Q_}{ks:List (List Int)}(r:Vals ys be):nC X.K H ys ks->be.length=ks.length/\∃adr:Nat->Ra,(∀(i:Nat) (v:Q_),be[i]?=some v->v=.ref (adr i))/\∀j,j<be.length->ZV.TI s.heap (ks.getD j []) (adr j):=by
 induction r generalizing ks with
 |nil=>
  intro q;cases q;exact⟨rfl,λ_=>0,λi v e=>by simp at e,λj h=>absurd h (Na _)⟩
 |cons hv tv ih=>
  intro q;rcases q with _|⟨hk,tk⟩;rename_i k ks;obtain⟨_,b,rfl,hb⟩:=hk;cases hv;obtain⟨l,adr,h1,h2⟩:=ih tk;refine⟨by rw[gV,gV,l],λi=>if i=0 then b else adr (i-1),λi v e=>?_,λj hj=>?_⟩
  ·cases i with
   |zero=>cases e;rfl
   |succ i=>exact h1 i v e
  cases j with
  |zero=>exact Lq I hb
  |succ j=>exact h2 j (Nz hj)
theorem A8{e:Rr}{te:TE}{p1 p2 pos1 lw:Pos}(hc:X.calm=true)(hu:X.A.units+20<cLine)(hg1:Gl X "len")(hm1:X.mg "len"=none)(hg2:Gl X "set")(hm2:X.mg "set"=none)(he:PE X e te)
  (hs1:Ru [e] X.env=[(false,RF e X.env)]:=by rfl) (hs2:Ru [.Call (.Name "set" p2) [e] [] lw] X.env=[(false,RF (.Call (.Name "set" p2) [e] [] lw) X.env)]:=by rfl) :
  PE X (.Call (.Name "len" p1) [.Call (.Name "set" p2) [e] [] lw] [] pos1) (λσ H Q=>te σ H λx H1=>∃l vs,∃ks:List (List Int),x=.ref l/\SqL X.K H1 l vs/\nC X.K H1 vs ks/\ks.Nodup/\ks.length<1000/\Q (.int ks.length) H1):=by
 intro ac s σ H Q I h;refine SS (jH I hg1 hm1 boot_len (callWith_builtin1 ?_ (by rw[hs2];rfl) rfl));rw[hs2];refine SR ?_;refine SS (jH I hg2 hm2 boot_set (callWith_type1 ?_ (by rw[hs1];rfl) rfl));rw[hs1];refine SR (thn (he ac s σ H _ I h) ?_);rintro u s1 ⟨x,H1,I1,r1,l,vs,ks,ex,hl,rv,nd,hz,q⟩;subst ex;cases r1;obtain⟨be,rr,pl,_⟩:=I1.list hl;obtain⟨ln,adr,h1,h2⟩:=FL I1 rr rv;refine Rc (ZV.AD (items:=be.toArray) (row:=λj=>ks.getD j []) (adr:=adr) (I1.ok.hd hc) pl.isList (λi v e=>h1 i v (by simpa using e)) (λj hj=>h2 j (by simpa using hj)) (by rw[g_];omega) (by show X.A.units+1+1+1<cLine;omega) (λi j hj hi=>?_) λh' tk SW kp=>?_)
 ·rw[g_,ln]at hi;show ks.getD j []≠ks.getD i [];rw[D_,D_,b_ (NX hj hi),b_ hi];exact MN.mp nd j i (NX hj hi) hi hj
 have k1:∀b o,s1.heap.get? b=some o->h'.get? b=some o:=λb o e=>kp b o (Rm e) e;have I2:Inv X ac σ H1 {s1 with heap:=h',toks:=tk}:=I1.kept (t':=tk) k1;obtain⟨o,es,ep,t,k,ho,V⟩:=SW;have sz:es.size=ks.length:=by rw[V.sz];unfold ZV.iR;rw[ML,a_,B_,g_,ln]
 refine Rc (call_len_set (s:={s1 with heap:=h',toks:=tk}) ho V.ex V.dat V.ft (by rw[sz];omega) ?_);exact⟨.int ks.length,H1,I2.kept (t':=tk+1+1) (λb o e=>e),⟨_,by rw[sz]⟩,q⟩
end
end L2
namespace PL
open PySem PySem.Spec PyProof.Rows L2
section
variable{X:Cx}
def lnS:T->(T->Prop)->Prop
 | .lst _ ts,k=>got (rowsOf ts) λks=>ks.Nodup/\ks.length<1000/\k (.int ks.length)
 | _,_=>False
theorem j5{o:Bool}{ts:List T}{k:T->Prop}:lnS (.lst o ts) k=i6 (rowsOf ts) (k:=⟨λks=>ks.Nodup/\ks.length<1000/\k (.int ks.length)⟩):=rfl
theorem B0{e:Rr}{fe:PF}{p1 p2 pos1 lw:Pos}{kr:Nat}(hr:Room kr X.A)(hc:X.calm=true)(hg1:Gl X "len")(hm1:X.mg "len"=none)(hg2:Gl X "set")(hm2:X.mg "set"=none)(he:GE X e fe)
  (hs1:Ru [e] X.env=[(false,RF e X.env)]:=by rfl) (hs2:Ru [.Call (.Name "set" p2) [e] [] lw] X.env=[(false,RF (.Call (.Name "set" p2) [e] [] lw) X.env)]:=by rfl) :
  GE X (.Call (.Name "len" p1) [.Call (.Name "set" p2) [e] [] lw] [] pos1) (fUn lnS fe):=by
 refine PE.imp (A8 hc (JQ hr) hg1 hm1 hg2 hm2 he hs1 hs2) ?_;rintro σ H Q ⟨env,Fr,k,rs,q,c⟩;refine⟨env,Fr,_,rs,q,λt al x H1 q1 ii=>?_⟩;cases t <;> try exact q1.elim
 rename_i o ts;obtain⟨ks,ek,nd,hz,kt⟩:=aF q1;obtain⟨et,ne⟩:=oI ek;subst et;obtain⟨a,vs,rfl,hq,l2,ge⟩:=mS ii.head;obtain⟨rv,_⟩:=pZ ne l2 ge;exact⟨a,vs,ks,rfl,.inl hq,rv,nd,hz,c _ _ _ _ kt (.of ii.1 (dk ii.head.tail λ_=>.int))⟩
end
end PL
namespace L2
open PySem PySem.Spec PyProof.Rows
variable {Q:Q_->Rf->Prop}{a b:Ra}
section
variable{prog:Rj}{w:Ro}{κ:Type}[DecidableEq κ]{knd:XG prog w κ}{A:Rw}{E:Q_->Rf->Prop}{s:Rf}
theorem Al{nm:String}{xa xb:List (κ×Ra×Q_)}{Q:Bool->Rf->Prop}(hu:knd.room A)(ha:(a == RI)=false)(hb:(b == RI)=false)
  (da:s.heap.DictOfH knd a xa) (db:s.heap.DictOfH knd b xb) (va:∀x∈xa,x.2.2=.bool true) (vb:∀x∈xb,x.2.2=.bool true)
  (h:Q (decide (xa.length=xb.length/\∀x∈xa,x.1∈xb.map (·.1))) s):Rh (Rn prog w) A (V8 nm a b) Q E s:=by
 obtain⟨oa,es,ep,hoa,_,hda,hea,hia,hna⟩:=da;obtain⟨ob,es',ep',hob,_,hdb,heb,hib,hnb⟩:=db;have hla:es.size=xa.length:=Ya hea;have hlb:es'.size=xb.length:=Ya heb;unfold V8 UB;rw[if_neg (show ¬(a == RI)=true by rw[ha];exact C_),if_neg (show ¬(b == RI)=true by rw[hb];exact C_)];refine Q9 (Rc (Q9 (Rc ?_)));refine Q9 (RY hoa hda ?_);dsimp only;refine Q9 (RY hob hdb ?_);by_cases hsz:es.size=es'.size
 case neg=>
  rw[if_pos (by simpa using hsz)];rw[decide_eq_false λz=>hsz (by rw[hla,hlb];exact z.1)]at h;exact Q9 (Ss (Rc h))
 have hl2:xa.length=xb.length:=by omega
 rw[if_neg (by rw[hsz];simp)];refine Q9 (Ua hoa hda ?_);refine Q9 ?_;rw[WS];simp only[Zn,QM,Nat.add_sub_cancel,Nat.div_one];refine Uz _
  (λrest q s'=>s'=s/\q=(none,())/\∃i,rest=Q0 i (es.size-i)/\i<=es.size/\∀x∈xa.take i,x.1∈xb.map (·.1))
  _ ?_ ?_ _ _ ⟨rfl,rfl,0,by simp,Me _,λx m=>by cases m⟩
 ·rintro i rest q s' ⟨rfl,rfl,j,hr,hi,hpre⟩;have hlt:j<es.size:=by
   rcases QP j es.size with h|h
   ·exact h
   rw[Nat.sub_eq_zero_of_le h]at hr;simp at hr
  obtain⟨rfl,hrest⟩:i=j/\rest=Q0 (j+1) (es.size-(j+1)):=by
   have e:es.size-j=(es.size-(j+1))+1:=by omega
   rw[e,Ql]at hr;injection hr with h1 h2
   exact⟨h1,h2⟩
  refine Q9 (RY hoa hda ?_);obtain⟨⟨k,p,v⟩,hx⟩:∃x,xa[i]?=some x:=⟨_,b_ (by omega)⟩;have mx:=F_ hx;have hv:v=.bool true:=va _ mx;subst hv;rw[entry_at hea i,hx];show Rh _ _ (TC [.ref p,.bool true] _ >>= _) _ _ _;have tk:xa.take (i+1)=xa.take i++[(k,p,.bool true)]:=by rw[Md,hx];rfl
  refine Q9 (Ry (Q9 (WQ hu (hia _ mx) hob hdb heb hib hnb (λhno=>?_) (λj y hj=>?_))))
  ·refine Rc ?_;show Rh _ _ (if(!false)=true then _ else _) _ _ _;rw[if_pos (by decide)];rw[decide_eq_false λz=>?_]at h
   ·exact Rc (Rc h)
   obtain⟨⟨k2,y⟩,my,e⟩:=h_.mp (z.2 _ mx);obtain⟨j,hj⟩:=Pq.mp my;cases e;exact hno j y hj
  refine Q9 (RY hob hdb ?_);rw[entry_at heb j,hj];have hv:y.2=.bool true:=vb _ (F_ hj);refine Ry ?_;show Rh _ _ (eqBool (.bool true) y.2) _ _ _;rw[hv];refine(XM (.bool true)) prog w _ _ ?_;show Rh _ _ (if(!true)=true then _ else _) _ _ _;rw[if_neg (by decide)];refine Q9 (Ua hoa hda ?_);rw[if_neg (by simp)];refine Rc ⟨rfl,rfl,i+1,hrest,hlt,λx m=>?_⟩;rw[tk]at m;rcases C'.mp m with m|m
  ·exact hpre x m
  rw[x_.mp m];exact h_.mpr ⟨_,F_ hj,rfl⟩
 rintro q s' ⟨rfl,rfl,i,hr,hi,hpre⟩;have hin:i=es.size:=by
  rcases QP i es.size with h|h
  ·have e:es.size-i=(es.size-(i+1))+1:=by omega
   rw[e,Ql]at hr;exact nomatch hr
  exact NQ hi h
 refine Rc ?_;rw[hin,hla,v_]at hpre;rw[decide_eq_true ⟨hl2,hpre⟩]at h;exact h
theorem F3{xa xb:List (κ×Ra×Q_)}(hr:knd.room A.in1)(ha:(a == RI)=false)(hb:(b == RI)=false)
  (da:s.heap.DictOfH knd a xa) (db:s.heap.DictOfH knd b xb) (va:∀x∈xa,x.2.2=.bool true) (vb:∀x∈xb,x.2.2=.bool true) (hu:A.units<cLine)
  (h:Q (.bool (decide (xa.length=xb.length/\∀x∈xa,x.1∈xb.map (·.1)))) s):Rh (Rn prog w) A (RJ .Eq (.ref a) (.ref b)) Q E s:=by
 refine wpAny_richCompare_same_room (op:=.Eq) da.typeIs db.typeIs WG (RM WG da.typeIs PySem.F.entry_dict_eq ?_ (PySem.F.args_dict_eq_2 _ _)) hu;show Rh _ _ (Vv "__eq__" ⟨[.ref a,.ref b],[]⟩ >>= _) _ _ s;refine Q9 ?_;unfold Vv;refine Q9 (Tn da.typeIs ?_);show Rh _ _ (pure (Rz a,Rz b)) _ _ s;refine Rc ?_;refine Q9 (Tw (T:="dict") db.typeIs PySem.F.sub_dict_dict ?_);simp only[ON,I_,if_false];refine Q9 (Rc (Q9 (Rc ?_)));refine Q9 (Al hr ha hb da db va vb ?_);refine Rc ⟨_,rfl,?_,?_⟩
 ·exact λx=>nomatch x
 simpa using h
theorem Ba{xa xb:List (κ×Ra×Q_)}{r:Bool}(e:r=true↔xa.length=xb.length/\∀x∈xa,x.1∈xb.map (·.1))(hr:knd.room A.in1)(ha:(a == RI)=false)(hb:(b == RI)=false)
  (da:s.heap.DictOfH knd a xa) (db:s.heap.DictOfH knd b xb) (va:∀x∈xa,x.2.2=.bool true) (vb:∀x∈xb,x.2.2=.bool true) (hu:A.units<cLine)
  (h:Q (.bool r) s):Rh (Rn prog w) A (RJ .Eq (.ref a) (.ref b)) Q E s:=by
 refine F3 hr ha hb da db va vb hu ?_;rw[show decide (xa.length=xb.length/\∀x∈xa,x.1∈xb.map (·.1))=r from NR.mpr ((decide_eq_true_iff).trans e.symm)];exact h
end
theorem zQ{H:Hp}{l:List (List Key×V)}{m:List (List Key×Ra×Q_)}(h:KT H l m):l.map (·.1)=m.map (·.1)/\((∀p∈l,p.2=.bl true)->∀x∈m,x.2.2=.bool true):=by
 induction h with
 |nil=>exact⟨rfl,λ_ x m=>by cases m⟩
 |cons r t ih=>
  refine⟨by rw[d_,d_,ih.1,r.1],λh x m=>?_⟩;rcases i_.mp m with rfl|m
  ·have e:=r.2.2;rw[h _ (.head _)]at e;exact e
  exact ih.2 (λp mp=>h p (.tail _ mp)) x m
noncomputable def AY(a b:List (List Key)):Bool:=decide (a.length=b.length)&&a.all λk=>b.any λx=>decide (x=k)
theorem w6{a b:List (List Key)}:AY a b=true↔a.length=b.length/\∀k∈a,k∈b:=by unfold AY;rw[K_,decide_eq_true_iff,Mk];refine and_congr_right λ_=>forall_congr' λk=>imp_congr_right λ_=>?_;rw[MQ];exact⟨λ⟨x,m,e⟩=>of_decide_eq_true e▸m,λm=>⟨k,m,decide_eq_true rfl⟩⟩
theorem Gp{X:Cx}{kr:Nat}(hr:Room kr X.A):OpR X (RJ .Eq) (λx y H Q=>∃a b ka kb,x=.ref a/\y=.ref b/\Rd H a (.dT ka)/\Rd H b (.dT kb)/\(∀p∈ka,p.2=.bl true)/\(∀p∈kb,p.2=.bl true)/\Q (.bl (AY (ka.map (·.1)) (kb.map (·.1)))) H):=by
 intro ac s σ H x y v u Q I rx ry h;obtain⟨a,b,ka,kb,rfl,rfl,ha,hb,va,vb,q⟩:=h;cases rx;cases ry;obtain⟨_,sa,xa,ra,da⟩:=oT I.hok ha;obtain⟨_,sb,xb,rb,db⟩:=oT I.hok hb;have h1:=zQ ra;have h2:=zQ rb;have hu:=lU hr;have e:AY (ka.map (·.1)) (kb.map (·.1))=true↔xa.length=xb.length/\∀x∈xa,x.1∈xb.map (·.1):=by rw[w6,h1.1,h2.1,a_,a_];refine and_congr_right λ_=>⟨λh x m=>h _ (h_.mpr ⟨x,m,rfl⟩),λh k m=>?_⟩;obtain⟨x,m2,rfl⟩:=h_.mp m;exact h x m2
 exact Ba e (Tc hu) sa sb da db (h1.2 va) (h2.2 vb) (P_ hu) ⟨.bl _,H,I,rfl,q⟩
end L2
namespace PL
open PySem PySem.Spec PyProof.Rows L2
def JT:P2:=λt u k=>∃o d o' d',t=.dT o d/\u=.dT o' d'/\(d.map (·.2)=d.map λ_=>T.bl true)/\(d'.map (·.2)=d'.map λ_=>T.bl true)/\k (.bl (AY (d.map (·.1)) (d'.map (·.1))))
theorem sd{K:Rb}{H:Hp}{Γ:Fm}{d:List (List Key×T)}{vs:List (List Key×V)}(e:d.map (·.1)=vs.map (·.1))(h:d.map (·.2)=d.map λ_=>T.bl true)(rp:Rp K H (zz (d.map (·.2)) (vs.map (·.2))++Γ)):∀p∈vs,p.2=.bl true:=by
 have l:d.length=vs.length:=by rw[<-a_ (as:=d) (f:=(·.1)),e,a_]
 have h2:d.map (·.2)=(d.map λ_=>true).map T.bl:=by rw[h,F'];rfl
 rw[h2]at rp;have:=qg (by rw[a_,a_,a_,l]) rp;intro p m;have m2:p.2∈vs.map (·.2):=h_.mpr ⟨p,m,rfl⟩;rw[this]at m2;obtain⟨b,mb,e⟩:=h_.mp m2;obtain⟨_,_,rfl⟩:=h_.mp mb;exact e.symm
theorem FN{X:Cx}{kr:Nat}(hr:Room kr X.A):OpP X (RJ .Eq) JT:=.of (Gp hr) λtx ty x y H Γ k Q rp g c=>by obtain⟨o,d,o',d',rfl,rfl,h1,h2,g⟩:=g;obtain⟨b,vs',rfl,hb,eb,rb⟩:=jV rp;obtain⟨a,vs,rfl,ha,ea,ra⟩:=jV rp.tail;rw[ea,eb]at g;exact⟨a,b,vs,vs',rfl,rfl,ha,hb,sd ea h1 ra,sd eb h2 rb,c _ _ _ g (dk rp.tail.tail λ_=>.bl)⟩
end PL
namespace ZS
open PySem PyProof.Rows
section
variable{prog:Rj}{w:Ro}{A:Rw}{E:Q_->Rf->Prop}{s:Rf}
theorem uj{x:Q_}{vs:List Q_}{kd:S0}{rk:RQ->Nat}{S:RQ->Prop}{Q:Q_->Rf->Prop}(hz:vs.length<=sizeLine)(hm:uP rk vs)(hS:∀v∈vs,S (v,v))
  (coll:∀{Q':List Q_->Rf->Prop}{E':Q_->Rf->Prop},(∀h' tk,s.heap.objs.size<=h'.objs.size->(∀b u,s.heap.get? b=some u->h'.get? b=some u)->Q' vs {s with heap:=h',toks:=tk})->Rh (Rn prog w) A.in1 (Xb x) Q' E' s)
  (kind:∀h' tk,(∀b o,s.heap.get? b=some o->h'.get? b=some o)->∀{Q:S0->Rf->Prop}{E:Q_->Rf->Prop},vs≠[]->Q kd {s with heap:=h',toks:=tk}->Rh (Rn prog w) A.in1.in1 (VG vs.toArray) Q E {s with heap:=h',toks:=tk})
  (lt:∀h' tk E,(∀b o,s.heap.get? b=some o->h'.get? b=some o)->mC (Rn prog w) A.in1.in1 E {s with heap:=h',toks:=tk} kd rk S)
  (h:∀(o:List Q_) a c h' tk,o.Perm vs->o.Pairwise (λx y=>rk (x,x)<=rk (y,y))->s.heap.objs.size<=a->(∀b u,s.heap.get? b=some u->h'.get? b=some u)->h'.get? a=some (RX "list" o.toArray c)->Q (.ref a) {s with heap:=h',toks:=tk}) :
  Rh (Rn prog w) A (call (.builtin "sorted") [x]) Q E s:=by
 refine Tq Xq W_ W' (Xa _) ?_;unfold R9.«sorted»;refine Q9 (m:=X' "sorted" 1 1 _) (Rc ?_);refine Q9 (coll λh0 tk le k0=>?_);refine Q9 (T5 ?_ hz);have hoL:(h0.push (RX "list" vs.toArray 0)).get? h0.objs.size=some (RX "list" vs.toArray 0):=Ri _ rfl;have keep:∀b o,s.heap.get? b=some o->(h0.push (RX "list" vs.toArray 0)).get? b=some o:=λb o q=>Rg _ (k0 b o q);show Rh _ _ _ _ _ {s with heap:=h0.push (RX "list" vs.toArray 0),toks:=tk};have ne:∀b o,s.heap.get? b=some o->b≠h0.objs.size:=λb o e=>s_ (Rm (k0 b o e));generalize h0.push (RX "list" vs.toArray 0)=h1 at hoL keep ⊢;refine Q9 (Ry (RM Wk ⟨_,hoL,rfl⟩ VY ?body (Wl _)))
 case body=>
  refine ue (s:={s with heap:=h1,toks:=tk}) (kd:=kd) (rk:=rk) (S:=S) hoL hm hS (λh' k {Q} ld q=>kind h' tk (λb o e=>k b o (ne b o e) (keep b o e)) ld q) (λh' k=>lt h' tk _ λb o e=>k b o (ne b o e) (keep b o e)) λo c h' g1 g2 g3 g4=>?_;exact⟨_,rfl,Rc ⟨_,rfl,h o _ c h' tk g1 g2 le (λb u e=>g3 b u (ne b u e) (keep b u e)) g4⟩⟩
end
end ZS
namespace L2
open PySem PySem.Spec PyProof.Rows
def kq(ks:List (List Int)):Prop:=ks.length<64\/ks.Pairwise (λx y=>ZS.ltL x y=true)\/ks.Pairwise (λx y=>ZS.ltL y x=true)
theorem sj{h:Rq}{be:List Q_}{ks:List (List Int)}(f2:be.map (ZS.jS h)=ks)(hz:be.length<=sizeLine)(m:kq ks):ZS.uP (λx=>ZS.rnk ZS.ltL ks (ZS.jS h x.1)) be:=by
 subst f2;unfold kq at m;rw[a_,J_,J_]at m;rcases m with m|m|m
 ·exact .inl m
 ·exact .inr ⟨hz,.inl (m.imp_of_mem λ{x y} hx hy e=>ZS.nW ZS.qT (y_ hx) e)⟩
 exact .inr ⟨hz,.inr (m.imp_of_mem λ{x y} hx hy e=>ZS.nW ZS.qT (y_ hy) e)⟩
section
variable{X:Cx}
theorem rh(hc:X.calm=true):de X (.builtin "sorted") (λxs H Q=>∃d kvs ks,xs=[.ref d]/\Rd H d (.dT kvs)/\kvs.map (·.1)=ks.map kI/\(∀k∈ks,k≠[])/\((kvs.map (·.1)).Nodup->kq ks)/\∀zs ls,uS H zs ls->ls.Perm ks->ls.Pairwise (λx y=>ZS.ltL y x=false)->(kvs.map (·.1)).Nodup->New (.lst zs) H Q):=by
 intro ac s σ H xs us Q I r h;obtain⟨d,kvs,ks,rfl,hd,ek,ld,hmo,q⟩:=h;obtain⟨u,rfl,ru⟩:=vals1 r;cases ru;obtain⟨z,lo,xs,kt,o,es,ep,g1,g2,g3,g4,g5⟩:=(show cz X.prog X.w H s.heap d (.dT kvs)from hd.ok I.hok);have hlen:xs.length=kvs.length:=(Sg kt).symm;have hes:es.size=xs.length:=by rw[<-l_,g4,a_]
 have rel:∀(l:List Ra),Vals (l.map V.ref) (l.map Rz):=λl=>by
  induction l with
  |nil=>exact .nil
  |cons a t ih=>exact .cons rfl ih
 have rows:∀{lm:List (List Key×V)}{xs':List (List Key×Ra×Q_)}{ks':List (List Int)},KT H lm xs'->lm.map (·.1)=ks'.map kI->(∀k∈ks',k≠[])->nC X.K H ((xs'.map λx=>x.2.1).map V.ref) ks':=λ{lm xs' ks'} k=>by
  induction k generalizing ks' with
  |nil=>
   intro e _;cases ks' with
   |nil=>exact .nil
   |cons a b=>simp at e
  |cons h t ih=>
   intro e hn;cases ks' with
   |nil=>simp at e
   |cons a b=>
    rw[d_,d_,Mu]at e;refine .cons ⟨hn a t_,_,rfl,SqT.of ?_⟩ (ih e.2 λk hk=>hn k (j_ _ hk));rw[h.2.1,e.1,HK]
 have rowsH:∀{lm:List (List Key×V)}{xs':List (List Key×Ra×Q_)}{ks':List (List Int)},KT H lm xs'->lm.map (·.1)=ks'.map kI->Ts (λ(v:Q_) (k:List Int)=>∃b,v=.ref b/\H b=some (.tup (k.map V.int))) ((xs'.map λx=>x.2.1).map Rz) ks':=λ{lm xs' ks'} k=>by
  induction k generalizing ks' with
  |nil=>
   intro e;cases ks' with
   |nil=>exact .nil
   |cons a b=>simp at e
  |cons h t ih=>
   intro e;cases ks' with
   |nil=>simp at e
   |cons a b=>
    rw[d_,d_,Mu]at e;refine .cons ⟨_,rfl,?_⟩ (ih e.2);rw[h.2.1,e.1,HK]
 have eqk:∀{lm:List (List Key×V)}{xs':List (List Key×Ra×Q_)},KT H lm xs'->lm.map (·.1)=xs'.map λx=>x.1:=λ{lm xs'} k=>by
  induction k with
  |nil=>rfl
  |cons h t ih=>rw[d_,d_,ih,h.1]
 obtain⟨f1,f2⟩:=uM I (rel (xs.map λx=>x.2.1)) (rows kt ek ld);obtain⟨be,eits⟩:∃be,be=(xs.map λx=>x.2.1).map Rz:=⟨_,rfl⟩;rw[<-eits]at f1 f2;have li:be.length=xs.length:=by rw[eits,a_,a_]
 refine ZS.uj (vs:=be) (kd:=Yl true) (rk:=λx=>ZS.rnk ZS.ltL ks (ZS.jS s.heap x.1)) (S:=λx=>x.1∈be) (by lia) (sj f2 (by lia) (hmo (by rw[eqk kt];exact g5))) (λv hv=>hv)
  (λ{Q' E'} hq=>ZS.t6 lo g1 g2 g3 (I.ok.hd hc) (by lia) λh' tk acc le kp it=>?_)
  (λh' tk kp {Q}{E} ld q=>ZS.vJ (h0:=s.heap) (λv hv=>(f1 v hv).1) (λb o e _=>kp b o e) ld q)
  (λh' tk E kp=>ZS.uA (h0:=s.heap) (ks:=ks) (λx hx=>⟨(f1 _ hx).1,by rw[<-f2];exact y_ hx⟩) λb o e _=>kp b o e) λo a c h' tk op os ha kp e=>?_
 ·have hacc:acc.toList=be:=by
   rw[eits];refine N6 λj=>?_;rw[A_,o_,o_];by_cases hj:j<es.size
   ·have hx:j<xs.length:=by lia
    have hja:j<acc.size:=by rw[it.1];exact hj
    have ha:acc[j]?=some acc[j]:=k_ hja;obtain⟨en,e1,e2⟩:=it.2 j _ ha;rw[ha,e2,b_ hx];rw[<-A_,g4,o_,b_ hx]at e1;cases e1
    rfl
   rw[Mm (by rw[it.1];lia),Mj (by lia)]
   rfl
  rw[hacc];exact hq h' tk le kp
 have mem:∀v∈o,v∈be:=λv hv=>op.mem_iff.mp hv;have raw:∀v∈be,∃b,v=.ref b/\H b=some (.tup ((ZS.jS s.heap v).map V.int)):=λv hv=>by
  obtain⟨i,hi,ev⟩:=MH.mp hv;have h1:be[i]?=some v:=by rw[b_ hi,ev]
  have h2:ks[i]?=some (ZS.jS s.heap v):=by rw[<-f2,o_,h1];rfl
  have pr:=rowsH kt ek;rw[<-eits]at pr;exact pG pr i _ _ h1 h2
 have mk:∀(l:List Q_),(∀v∈l,v∈be)->∃zs,Vals zs l/\uS H zs (l.map (ZS.jS s.heap))/\zs.length=l.length:=by
  intro l;induction l with
  |nil=>exact λ_=>⟨[],.nil,.nil,rfl⟩
  |cons v t ih=>
   intro hl;obtain⟨zs,k1,k2,k3⟩:=ih λv hv=>hl v (.tail _ hv);obtain⟨_,_,_,k4,_⟩:=f1 v (hl v (.head _));obtain⟨b,e,k5⟩:=raw v (hl v (.head _));exact⟨.ref b::zs,.cons e k1,.cons ⟨k4,b,rfl,k5⟩ k2,by rw[gV,gV,k3]⟩
 obtain⟨zs,k1,k2,k3⟩:=mk o mem;refine⟨.ref a,_,I.laid (t':=tk) kp ha (show cz X.prog X.w _ h' _ (.lst zs)from⟨by rw[k3,op.length_eq];lia,o,c,k1,e⟩),rfl,(q zs _ k2 ?_ ?_ (by rw[eqk kt];exact g5)).at (I.hok.fresh ha)⟩
 ·rw[<-f2];exact op.map _
 rw[J_];refine M' (λ{x y} hx hy hxy=>?_) os;cases z:ZS.ltL (ZS.jS s.heap y) (ZS.jS s.heap x)
 ·rfl
 have:=ZS.nW ZS.qT (ks:=ks) (by rw[<-f2];exact y_ (mem y hy)) z;exact absurd this (N1.mpr hxy)
theorem qX:de X (.builtin "sorted") (λxs H Q=>∃p ys ks,xs=[.ref p]/\SqL X.K H p ys/\nC X.K H ys ks/\kq ks/\∀zs ls,nC X.K H zs ls->(∀v∈zs,v∈ys)->ls.Perm ks->ls.Pairwise (λx y=>ZS.ltL y x=false)->New (.lst zs) H Q):=by
 intro ac s σ H xs us Q I r h;obtain⟨p,ys,ks,rfl,hq,hr,hmo,q⟩:=h;obtain⟨u,rfl,ru⟩:=vals1 r;cases ru;obtain⟨be,rv,pl,hz⟩:=I.list hq;have hlen:=rv.length;obtain⟨f1,f2⟩:=uM I rv hr;refine ZS.CG (kd:=Yl true) (rk:=λx=>ZS.rnk ZS.ltL ks (ZS.jS s.heap x.1)) (S:=λx=>x.1∈be) pl.isList (sj f2 (by lia) hmo) (λv hv=>hv) (λh' kp {Q}{E} ld q=>ZS.vJ (h0:=s.heap) (λv hv=>(f1 v hv).1) (λb o e _=>kp b o e) ld q)
  (λh' E kp=>ZS.uA (h0:=s.heap) (ks:=ks) (λx hx=>⟨(f1 _ hx).1,by rw[<-f2];exact y_ hx⟩) λb o e _=>kp b o e) λo a c h' op os ha kp e=>?_
 have mem:∀v∈o,v∈be:=λv hv=>op.mem_iff.mp hv;have mk:∀(l:List Q_),(∀v∈l,v∈be)->∃zs,Vals zs l/\nC X.K H zs (l.map (ZS.jS s.heap))/\zs.length=l.length/\∀v∈zs,v∈ys:=by
  intro l;induction l with
  |nil=>exact λ_=>⟨[],.nil,.nil,rfl,λv hv=>(by cases hv)⟩
  |cons v t ih=>
   intro hl;obtain⟨zs,k1,k2,k3,k6⟩:=ih λv hv=>hl v (.tail _ hv);obtain⟨_,b,e,k4,k5⟩:=f1 v (hl v (.head _));refine⟨.ref b::zs,.cons e k1,.cons ⟨k4,b,rfl,k5⟩ k2,by rw[gV,gV,k3],λw hw=>?_⟩;rcases i_.mp hw with rfl|hw
   ·exact AJ rv (hl v (.head _)) e
   exact k6 w hw
 obtain⟨zs,k1,k2,k3,k6⟩:=mk o mem;refine⟨.ref a,_,I.laid (t':=s.toks) kp ha (show cz X.prog X.w _ h' _ (.lst zs)from⟨by rw[k3,op.length_eq];lia,o,c,k1,e⟩),rfl,(q zs _ k2 k6 ?_ ?_).at (I.hok.fresh ha)⟩
 ·rw[<-f2];exact op.map _
 rw[J_];refine M' (λ{x y} hx hy hxy=>?_) os;cases z:ZS.ltL (ZS.jS s.heap y) (ZS.jS s.heap x)
 ·rfl
 have:=ZS.nW ZS.qT (ks:=ks) (by rw[<-f2];exact y_ (mem y hy)) z;exact absurd this (N1.mpr hxy)
end
end L2
namespace PL
open PySem PySem.Spec PyProof.Rows L2
def n5:P1s
 | [.lst _ ts],k=>got (rowsOf ts) λks=>kq ks/\k (.lst true ((uJ ks).map iT))
 | [.dT _ kvs],k=>∃ks,kvs.map (·.1)=ks.map kI/\(∀q∈ks,q≠[])/\(ks.Nodup->kq ks/\k (.lst true ((uJ ks).map iT)))
 | _,_=>False
section
variable{X:Cx}
theorem iH(hc:X.calm=true):jJ X (.builtin "sorted") n5:=by
 rintro ac s σ H xs us Q I r ⟨ts,Γ,k,l,rp,g,c⟩;unfold n5 at g;split at g
 ·rename_i k o ts;obtain⟨x,rfl⟩:=zz1 l rfl;have rp:Rp X.K H ((.lst o ts,some x)::Γ):=rp;obtain⟨a,vs,rfl,hq,l2,ge⟩:=mS rp;obtain⟨ks,ek,hmo,kt⟩:=aF g;obtain⟨et,ne⟩:=oI ek;subst et;obtain⟨rv,ex⟩:=pZ ne l2 ge;refine qX ac s σ H _ us Q I r ⟨a,vs,ks,rfl,.inl hq,rv,hmo,λzs ls rz mem pm sm p H' hp g' e'=>c _ _ _ kt ?_⟩;have es:ls=uJ ks:=pC ZS.qT pm sm;rw[<-es];have rH:=El (λv hv b eb xs hs=>by obtain⟨b',k',e1,e2⟩:=ex v (mem v hv);rw[eb]at e1;cases e1;rw[e2,I.nP hs (SqT.of e2)]) rz
  obtain⟨gl,l3⟩:=mZ rH rp.tail;exact jm gl l3 hp g' e'
 ·rename_i k o kvs;obtain⟨x,rfl⟩:=zz1 l rfl;have rp:Rp X.K H ((.dT o kvs,some x)::Γ):=rp;obtain⟨a,vs,rfl,hq,ek,ge⟩:=jV rp;obtain⟨ks,e1,e2,kt⟩:=g;have nd':(vs.map (·.1)).Nodup->ks.Nodup:=λnd=>by rw[<-ek,e1]at nd;exact(J_.mp nd).imp λ{a b} h z=>h (by rw[z])
  refine rh hc ac s σ H _ us Q I r ⟨a,vs,ks,rfl,hq,by rw[<-ek];exact e1,e2,(λnd=>(kt (nd' nd)).1),λzs ls rz pm sm nd p H' hp g' e'=>?_⟩;refine c _ _ _ (kt (nd' nd)).2 ?_;have es:ls=uJ ks:=pC ZS.qT pm sm;rw[<-es];obtain⟨gl,l3⟩:=mZ rz rp.tail;exact jm gl l3 hp g' e'
 exact Rt g
end
def Lg(t:T)[k:Th (T->Prop)]:Prop:=n5 [t] k.v
theorem aP{t:T}{k:T->Prop}:n5 [t] k=Lg t (k:=⟨k⟩):=rfl
theorem tO{o:Bool}{kvs:List (List Key×T)}{ks:List (List Int)}{k:Th (T->Prop)}(e:kvs.map (·.1)=ks.map kI)(n:∀q∈ks,q≠[])(m:kq ks)(q:k.v (.lst true ((uJ ks).map iT))):Lg (.dT o kvs) (k:=k):=⟨ks,e,n,λ_=>⟨m,q⟩⟩
end PL
namespace L2
open PySem PySem.Spec PyProof.Rows
section
variable{X:Cx}
theorem x3{e:Rr}{te:TE}{p1 p2 pos1 lw:Pos}(hc:X.calm=true)(hg1:Gl X "sorted")(hm1:X.mg "sorted"=none)(hg2:Gl X "set")(hm2:X.mg "set"=none)(he:PE X e te)
  (hs1:Ru [e] X.env=[(false,RF e X.env)]:=by rfl) (hs2:Ru [.Call (.Name "set" p2) [e] [] lw] X.env=[(false,RF (.Call (.Name "set" p2) [e] [] lw) X.env)]:=by rfl) :
  PE X (.Call (.Name "sorted" p1) [.Call (.Name "set" p2) [e] [] lw] [] pos1) (λσ H Q=>te σ H λx H1=>∃l,∃ns:List Int,x=.ref l/\SqL X.K H1 l (ns.map V.int)/\(ns.length<4000/\∃bs:List Int,bs.length<64/\∀z∈ns,z∈bs)/\∀ms:List Int,ms.Pairwise (·<·)->(∀z,z∈ms↔z∈ns)->New (.lst (ms.map V.int)) H1 Q):=by
 intro ac s σ H Q I h;refine SS (jH I hg1 hm1 boot_sorted (callWith_builtin1 ?_ (by rw[hs2];rfl) rfl));rw[hs2];refine SR ?_;refine SS (jH I hg2 hm2 boot_set (callWith_type1 ?_ (by rw[hs1];rfl) rfl));rw[hs1];refine SR (thn (he ac s σ H _ I h) ?_);rintro u s1 ⟨x,H1,I1,r1,l,ns,ex,hl,⟨hz0,bs,hz,hbs⟩,q⟩;subst ex;cases r1;obtain⟨be,rv,pl,_⟩:=I1.list hl;have hI:=intsAre_of rv;have ln:=ZT.lE hI;refine Rc (ZT.BD (items:=be.toArray) (ns:=ns) (I1.ok.hd hc) pl.isList hI (by unfold scanBound;rw[g_];omega) λh' tk SG kp=>?_);have k1:∀b o,s1.heap.get? b=some o->h'.get? b=some o:=λb o e=>kp b o (Rm e) e;have I2:Inv X ac σ H1 {s1 with heap:=h',toks:=tk}:=I1.kept (t':=tk) k1;obtain⟨o,ks,es,ep,t,ho,SI,mem,_⟩:=SG;refine Rc (ZT.wq ho SI (I2.ok.hd hc) (MC (m7 SI.nd λz m=>hbs z ((mem z).mp m)) hz) λout ms p c h2 tk2 d om pm so le k2 e2=>?_);have hz2:ms.length<=16777216:=by have a:=SI.sm;have b:=ZT.lE SI.rd;rw[a_,l_]at b;rw[pm.length_eq];unfold scanBound at a;omega
 have I3:=(I2.drw (d:=d)).laid (a:=p) (o:=.lst (ms.map V.int)) (t':=tk2) k2 le (show cz X.prog X.w _ h2 _ (.lst (ms.map V.int))from⟨by rw[a_];exact hz2,out,c,DU om,e2⟩);refine⟨.ref p,_,I3,rfl,(q ms ?_ λz=>?_).at (I2.hok.fresh le)⟩
 ·have nd:=pm.nodup_iff.mpr SI.nd;exact(List.Pairwise.and so nd).imp λ⟨a,b⟩=>by omega
 rw[pm.mem_iff];exact mem z
end
end L2
namespace PL
open PySem PySem.Spec PyProof.Rows L2
variable {o:Bool}{ts:List T}
section
variable{X:Cx}
def Km:T->(T->Prop)->Prop
 | .lst _ ts,k=>got (intsOf ts) λns=>(ns.length<4000/\∃bs:List Int,bs.length<64/\∀z∈ns,z∈bs)/\∀ms:List Int,ms.Pairwise (·<·)->(∀z,z∈ms↔z∈ns)->k (.lst true (ms.map T.int))
 | _,_=>False
theorem lR{e:Rr}{fe:PF}{p1 p2 pos1 lw:Pos}(hc:X.calm=true)(hg1:Gl X "sorted")(hm1:X.mg "sorted"=none)(hg2:Gl X "set")(hm2:X.mg "set"=none)(he:GE X e fe)
  (hs1:Ru [e] X.env=[(false,RF e X.env)]:=by rfl) (hs2:Ru [.Call (.Name "set" p2) [e] [] lw] X.env=[(false,RF (.Call (.Name "set" p2) [e] [] lw) X.env)]:=by rfl) :
  GE X (.Call (.Name "sorted" p1) [.Call (.Name "set" p2) [e] [] lw] [] pos1) (fUn Km fe):=by
 refine PE.imp (x3 hc hg1 hm1 hg2 hm2 he hs1 hs2) ?_;rintro σ H Q ⟨env,Fr,k,rs,q,c⟩;refine⟨env,Fr,_,rs,q,λt al v H1 q1 ii=>?_⟩;cases t <;> first|exact Rt q1|skip
 obtain⟨ns,en,z,g⟩:=aF q1;have et:=iE en;subst et;obtain⟨a,vs,rfl,hq,l,rp⟩:=aD rfl ii.head;have ev:=jg l rp;subst ev;exact⟨a,ns,rfl,hq,z,λms h1 h2 p H' hp g' e=>c _ _ _ _ (g ms h1 h2) (.of ii.1 (jm (yr ms ii.drop.2) (by rw[a_,a_]) hp g' e))⟩
theorem fg{k:T->Prop}:Km (.lst o ts) k=i6 (intsOf ts) (k:=⟨λns=>(ns.length<4000/\∃bs:List Int,bs.length<64/\∀z∈ns,z∈bs)/\∀ms:List Int,ms.Pairwise (·<·)->(∀z,z∈ms↔z∈ns)->k (.lst true (ms.map T.int))⟩):=rfl
end
def Jg(b:Bool):P2:=λx y k=>match y with
 | .dT _ kvs=>match x with
  | .tup ts=>got (iJ ts) λq=>k (.bl (b !=(jL kvs q).isSome))
  | _=>False
 | _=>False
variable{X:Cx}
theorem oz{kr:Nat}(hr:Room kr X.A):OpP X (RJ .NotIn) (Jg true):=by
 rintro ac s σ H x y v u Q I rx ry ⟨tx,ty,Γ,k,rp,g,c⟩;cases ty <;> first|exact Rt g|skip
 rename_i o kvs;cases tx <;> first|exact Rt g|skip
 rename_i ts;obtain⟨q,eq,g⟩:=aF g;obtain⟨b,rfl,hb⟩:=mY eq rp.tail;obtain⟨a,vs,rfl,hq,ek,ge⟩:=jV rp;cases ry;rw[rl q ek,QH]at g;exact Gh (lU hr) I (.inr ⟨vs,q,b,hq,rfl,hb,rfl⟩) rx λs' I'=>⟨.bl _,H,I',rfl,c _ _ _ g (dk rp.tail.tail λ_=>.bl)⟩
variable {kvs:List (List Key×T)}
theorem gG{k:T->Prop}:Jg false (.tup ts) (.dT o kvs) k=i6 (iJ ts) (k:=⟨λq=>k (.bl (jL kvs q).isSome)⟩):=by
 show got (iJ ts) _=got (iJ ts) _;congr 1;funext q;rw[Bool.false_bne]
 rfl
theorem fU{k:T->Prop}:Jg true (.tup ts) (.dT o kvs) k=i6 (iJ ts) (k:=⟨λq=>k (.bl (!(jL kvs q).isSome))⟩):=by
 show got (iJ ts) _=got (iJ ts) _;congr 1;funext q;rw[QH]
 rfl
end PL
namespace Mp
open PySem L2
noncomputable def top(i:Nat):RG:=PySem.Challenge.pw_millpath_k27_rings_cover.main.body.getD i (.Pass ⟨0,0,0,0⟩)
abbrev jF:RG:=top 3
abbrev oq:RG:=top 5
abbrev ur:RG:=top 6
abbrev tH:RG:=top 7
abbrev jE:RG:=top 8
abbrev oE:RG:=top 9
abbrev tf:RG:=top 10
abbrev oB:RG:=top 12
abbrev iM:RG:=top 14
abbrev xr:RG:=top 15
abbrev xx:RG:=top 16
abbrev qr:RG:=top 17
abbrev tL:RG:=top 18
abbrev nO:RG:=top 20
abbrev jY:RG:=top 21
abbrev lr:RG:=top 23
abbrev jZ:RG:=top 24
abbrev kH:RG:=top 25
abbrev tq:RG:=top 26
abbrev jC:RG:=top 27
abbrev pE:RG:=top 29
abbrev tR:RG:=top 30
abbrev Du:RG:=top 31
abbrev pH:RG:=top 32
abbrev oH:RG:=top 33
abbrev x9:RG:=top 34
abbrev xG:RG:=top 35
abbrev nT:RG:=top 36
abbrev pI:RG:=top 37
abbrev o9:RG:=top 38
abbrev pN:RG:=top 39
abbrev mB:RG:=top 40
abbrev qz:RG:=top 41
abbrev sL:RG:=top 42
abbrev jG:RG:=top 43
abbrev um:RG:=top 44
abbrev kR:RG:=top 45
variable {kvs:List (Key×V)}
theorem uC{k:Key}{v:V}:iP ((k,v)::kvs) k=some v:=by
 unfold iP;rw[Mq,show(decide ((k,v).1=k))=true from decide_eq_true rfl]
 rfl
theorem rJ{k k':Key}{v:V}(h:¬k=k'):iP ((k,v)::kvs) k'=iP kvs k':=by unfold iP;rw[Mq,show(decide ((k,v).1=k'))=false from decide_eq_false h]
theorem key_ne:¬((RH (some ("cells":Str)):Key)=RH (some ("turn":Str))):=by rfl'
noncomputable def stK(c:Ra)(t:Int):List (Key×V):=[(RH (some ("cells":Str)),V.ref c),(RH (some ("turn":Str)),V.int t)]
theorem vg(c:Ra)(t:Int):iP (stK c t) (RH (some ("cells":Str)))=some (.ref c):=uC
theorem zD(c:Ra)(t:Int):iP (stK c t) (RH (some ("turn":Str)))=some (.int t):=by unfold stK;rw[rJ key_ne];exact uC
theorem HL(c:Ra)(t u:Int):putK (stK c t) (RH (some ("turn":Str))) (.int u)=stK c u:=by
 have e:((stK c t).any λkv=>decide (kv.1=(RH (some ("turn":Str)):Key)))=true:=by rw[nH,zD];rfl
 unfold putK;rw[if_pos e];show [(if(RH (some ("cells":Str)):Key)=RH (some ("turn":Str))then _ else _),(if(RH (some ("turn":Str)):Key)=RH (some ("turn":Str))then _ else _)]=stK c u;rw[if_neg key_ne,if_pos rfl]
 rfl
structure StAt (H:Hp) (st c:Ra) (cs:List Int) (t:Int):Prop where
 d:H st=some (.dK (stK c t))
 l:H c=some (.lst (cs.map V.int))
 pos:0<cs.length
 len:cs.length<=63
variable {H:Hp}{cs:List Int}{st:Ra}
theorem StAt.ne {c:Ra}{t:Int}(S:StAt H st c cs t):st≠c:=zb S.d S.l (by intro z;cases z)
variable {H':Hp}
theorem StAt.same {c:Ra}{t:Int}(S:StAt H st c cs t)(e:dh H H'):StAt H' st c cs t:=⟨e _ _ S.d,e _ _ S.l,S.pos,S.len⟩
structure Txt (mg:Str->Option Q_):Prop where
 len:mg "len"=none
 list:mg "list"=none
 divmod:mg "divmod"=none
 isinstance:mg "isinstance"=none
 dict:mg "dict"=none
 tuple:mg "tuple"=none
 str:mg "str"=none
 int:mg "int"=none
 bool:mg "bool"=none
 all:mg "all"=none
 any:mg "any"=none
 zip:mg "zip"=none
 range:mg "range"=none
 max:mg "max"=none
 min:mg "min"=none
 abs:mg "abs"=none
 sum:mg "sum"=none
 sorted:mg "sorted"=none
 enumerate:mg "enumerate"=none
 set:mg "set"=none
 reversed:mg "reversed"=none
def EL(K:Rb):Sp:=λvs H Q _=>∃(a:Ra) (ns:List Int),vs=[.ref a]/\SqL K H a (ns.map V.int)/\ns.length<=63/\∀(st c:Ra) (cs:List Int) (H':Hp),H st=none->H c=none->StAt H' st c cs 0->dh H H'->Q (.ref st) H'
def Jv:Sp:=λvs H Q _=>∃(st c:Ra) (cs:List Int) (t m:Int),vs=[.ref st,.int m]/\StAt H st c cs t/\0<=t/\t<2 ^ 40/\0<m/\m<1073741824/\
 ∀(r:Int) (cs':List Int) (H':Hp),0<=r->r<m->StAt H' st c cs' (t+1)->Kp st c H H'->Q (.int r) H'
variable {fd:Rx}
section
variable{P:Rj}{w:Ro}{K:Rb}{mg:Str->Option Q_}{base:Rq}
theorem scB:FnScope ["_law_script","_law_cells"] ["_law_script"] (av pE):=⟨rfl,rfl,rfl,by rfl',rfl,by rfl',by rfl'⟩
theorem Bw{f:Ra}(F:Fun K "_law_begin" "_law_begin" pE f fd)(T:Txt mg):FnOk P w K mg base CX0 1 f fd ["_law_script"] (EL K):=by
 refine F.ok scB (λvs H Q E h=>?_) (λcdv A outer s H vs Q E hr h=>?_)
 ·obtain⟨a,ns,rfl,_⟩:=h
  rfl
 obtain⟨a,ns,rfl,hS,h63,q⟩:=h;have sc:=@scB;refine⟨_,(fF (kK (i:=1) sc.nd rfl (f_ rfl) (rA nD (by rfl) T.list (by rfl') (jw (vN yT (pv 0) zi (zP fO)) lX)))
  (fF (By (uw (E6 (P_ (lU hr))) (pv 1) (DV lX) (cp _)) (mU (kK (i:=1) sc.nd rfl (f_ rfl) (DV (jw fO lX)))) ux)
  (mU (tF (Fs (vQ lZ (pv 1) (vQ lZ fO EY)) rfl rfl (by intro z;cases z) (by decide)))))),?_⟩
 refine⟨_,rfl,_,rfl,a,_,rfl,hS,λp hp=>⟨p,_,rfl,.inl (SqL.of aU),λl hl=>?_⟩⟩;obtain⟨zs,ez,lz⟩:∃zs:List Int,lx (ns.map V.int) none (some 63)=zs.map V.int/\zs.length<=63:=by refine⟨_,by unfold lx;rw[<-QI,<-QJ],?_⟩;exact G' (List.length_take_le' _ _) (G' (by rw[MP];omega) h63)
 have hp0:H p=none:=hp;have hl0:H l=none:=(dg hp _).none hl;have g1:dh H (upd (upd H p (.lst (lx (ns.map V.int) none (some 63)))) l (.lst (lx (ns.map V.int) none (some 63)))):=(dg hp _).trans' (dg hl _);refine⟨_,rfl,(by show 0<=sizeLine;decide),λe he=>?_⟩;have hul:∀o,upd (upd (upd H p (.lst (lx (ns.map V.int) none (some 63)))) l (.lst (lx (ns.map V.int) none (some 63)))) e o l=some (.lst (zs.map V.int)):=λo=>by rw[aH (d7 aU he),aU,ez]
 have he0:H e=none:=g1.none he;have g2:=g1.trans' (dg he (.lst []));refine⟨decide (zs=[]),.inr (.inr (.inr ⟨false,_,_,zs,[],rfl,rfl,rfl,SqL.of (hul _),SqL.of aU⟩)),_,rfl,?_⟩;have fin:∀(c:Ra) (cs:List Int) (H2:Hp),H c=none->dh H H2->H2 c=some (.lst (cs.map V.int))->0<cs.length->cs.length<=63->∀p,H2 p=none->StAt (upd (upd H2 p (.dK [])) p (.dK (kW [] [(RH (some ("cells":Str)),V.ref c),(RH (some ("turn":Str)),V.int 0)]))) p c cs 0/\dh H (upd (upd H2 p (.dK [])) p (.dK (kW [] [(RH (some ("cells":Str)),V.ref c),(RH (some ("turn":Str)),V.int 0)]))):=λc cs H2 hc g h1 h2 h3 p hp=>by
  have em:kW [] [((RH (some ("cells":Str)):Key),V.ref c),(RH (some ("turn":Str)),V.int 0)]=stK c 0:=by
   show putK (putK ([]:List (Key×V)) (RH (some ("cells":Str))) (V.ref c)) (RH (some ("turn":Str))) (V.int 0)=stK c 0;rw[vZ _ (show iP ([]:List (Key×V)) (RH (some ("cells":Str)))=none from rfl),MZ,vZ _ (show iP [((RH (some ("cells":Str)):Key),V.ref c)] (RH (some ("turn":Str)))=none by rw[rJ key_ne];rfl)]
   rfl
  rw[em,FU];exact⟨⟨aU,by rw[aH (d7 h1 hp)];exact h1,h2,h3⟩,g.trans' (dg hp _)⟩
 refine JX (λc=>?_) (λc=>?_)
 ·
  refine⟨(by show 1<=sizeLine;decide),λc7 h7=>?_⟩;have g3:=g2.trans' (dg h7 (.lst [V.int 7]));intro p' hp';obtain⟨S,g4⟩:=fin c7 [7] _ (g2.none h7) g3 aU (by decide) (by decide) p' hp';refine⟨_,rfl,?_,[(RH (some ("cells":Str)),V.ref c7),(RH (some ("turn":Str)),V.int 0)],rfl,(by show 2<=15;decide),?_⟩
  ·exact aU
  exact q p' c7 [7] _ (g3.none hp') (g2.none h7) S g4
 have c0:0<zs.length:=by
  cases zs with
  |nil=>exact absurd c (by decide)
  |cons a r=>exact Nt _
 intro p' hp';obtain⟨S,g4⟩:=fin l zs _ hl0 g2 (hul _) c0 lz p' hp';refine⟨_,rfl,?_,[(RH (some ("cells":Str)),V.ref l),(RH (some ("turn":Str)),V.int 0)],rfl,(by show 2<=15;decide),?_⟩
 ·exact aU
 exact q p' l zs _ (g2.none hp') hl0 S g4
theorem scT:FnScope ["_law_state","_law_many","_law_turn","_law_place","_law_cell","_law_digit","_law_mixed"] ["_law_state","_law_many"] (av tR):=⟨rfl,rfl,rfl,by rfl',rfl,by rfl',by rfl'⟩
theorem Fq{f:Ra}(F:Fun K "_law_take" "_law_take" tR f fd)(T:Txt mg):FnOk P w K mg base CX0 1 f fd ["_law_state","_law_many"] Jv:=by
 refine F.ok scT (λvs H Q E h=>?_) (λcdv A outer s H vs Q E hr h=>?_)
 ·obtain⟨st,c,cs,t,m,rfl,_⟩:=h
  rfl
 obtain⟨st,c,cs,t,m,rfl,S,ht0,ht,hm0,hm1,q⟩:=h;have sc:=@scT;have hu:=lU hr;refine⟨_,(fF (kK (i:=2) sc.nd rfl (f_ rfl) (il qt (ph hu (pv 0) lZ (λ_ _=>rfl)) fO))
  (fF (G4 hu (pv 0) lZ (pv 2) rfl)
  (fF (kK (i:=3) sc.nd rfl (f_ rfl) (il lY (pv 2) (qb nu (by rfl) T.len (by rfl') (jw (ph hu (pv 0) lZ (λ_ _=>rfl)) lX))))
  (fF (kK (i:=4) sc.nd rfl (f_ rfl) (Ec uy (ph hu (pv 0) lZ (λ_ _=>rfl)) (pv 3) (λ_ _=>rfl)))
  (fF (By (uw JK (pv 4) (il Ib fO fO) (cp _)) (fF (CB (qb wk (by rfl) T.divmod (by rfl') (jw (pv 4) (jw (pv 1) lX))) (DW rfl (qG (Cm (ph hu (pv 0) lZ (λ_ _=>rfl)) (pv 3) set_list) (qG (zk (i:=5) sc.nd rfl (f_ rfl)) yZ))))
  (mU (tF (pv 5)))) ux)
  (fF (kK (i:=6) sc.nd rfl (f_ rfl) (il lY (il mn (il qt (il qt (il lY (pv 4) fO) (il mn (il mn (pv 2) (pv 2)) fO)) fO) fO) fO))
  (fF (kK (i:=6) sc.nd rfl (f_ rfl) (il lY (il mn (pv 6) (pv 6)) fO))
  (mU (tF (il lY (il yi (il lY (il mn (il qt (pv 6) (il mn (pv 2) fO)) fO) fO) fO) (pv 1))))))))))),?_⟩
 have D0:o7 H st (.str ("turn":Str)) (some (.int t)):=by rw[<-zD c t];exact o7.k (k:=RH (some ("turn":Str))) S.d
 refine⟨_,rfl,st,_,rfl,D0,_,_,rfl,rfl,?_⟩;have hP:Ag H st (.str ("turn":Str)) (.int (t+1)) (upd H st (.dK (stK c (t+1)))):=by rw[<-HL c t (t+1)];exact Ag.k (k:=RH (some ("turn":Str))) S.d (by show 2<sizeLine;decide)
 refine⟨_,rfl,_,rfl,st,_,rfl,hP,?_⟩;have S1:StAt (upd H st (.dK (stK c (t+1)))) st c cs (t+1):=⟨aU,by rw[aH S.ne.symm];exact S.l,S.pos,S.len⟩;have K1:Kp st c H (upd H st (.dK (stK c (t+1)))):=λb o e n1 n2=>by rw[aH n1];exact e
 generalize upd H st (.dK (stK c (t+1)))=H1 at S1 K1 ⊢;have D1:o7 H1 st (.str ("cells":Str)) (some (.ref c)):=by rw[<-vg c (t+1)];exact o7.k (k:=RH (some ("cells":Str))) S1.d
 have hl:(cs.map V.int).length=cs.length:=a_ _;have hpos:(0:Int)<(((cs.map V.int).length:Nat):Int):=by rw[hl];have:=S.pos;omega
 refine⟨_,rfl,_,rfl,st,_,rfl,D1,c,_,rfl,.inl (SqL.of S1.l),_,_,rfl,rfl,hpos,?_⟩;have j0:0<=(t+1)%(((cs.map V.int).length:Nat):Int):=Ny _ (by omega);have j1:(t+1)%(((cs.map V.int).length:Nat):Int)<(cs.length:Int):=by have:=Ng (t+1) hpos;rw[hl]at this ⊢;exact this
 obtain⟨v,hat⟩:∃v:Int,atI (cs.map V.int) ((t+1)%(((cs.map V.int).length:Nat):Int))=some (.int v):=⟨_,Bk j0 j1⟩;refine⟨_,rfl,st,_,rfl,D1,_,rfl,c,_,_,_,rfl,rfl,SqL.of S1.l,hat,?_⟩;refine⟨_,rfl,_,_,rfl,rfl,⟨by decide,by decide,by decide⟩,_,_,rfl,rfl,_,rfl,?_⟩;refine JX (λhc=>?_) (λhc=>?_)
 ·
  refine⟨_,rfl,_,rfl,_,_,rfl,⟨hm0,hm1⟩,λp hp=>?_⟩;have g:=dg hp (.tup [.int (v/m),.int (v%m)]);have S2:=S1.same g;have D2:o7 (upd H1 p (.tup [.int (v/m),.int (v%m)])) st (.str ("cells":Str)) (some (.ref c)):=by rw[<-vg c (t+1)];exact o7.k (k:=RH (some ("cells":Str))) S2.d
  refine⟨p,_,rfl,SqT.of aU,rfl,_,_,rfl,?_⟩;refine⟨_,rfl,st,_,rfl,D2,_,rfl,c,_,_,((t+1)%(((cs.map V.int).length:Nat):Int)).toNat,rfl,rfl,S2.l,yP j0 (by rw[hl];rw[hl]at j1;exact j1),?_⟩;refine⟨_,_,rfl,rfl,?_⟩;refine⟨_,rfl,?_⟩;have es:∀j:Nat,(cs.map V.int).set j (.int (v/m))=(cs.set j (v/m)).map V.int:=λj=>by rw[QQ]
  refine q (v%m) (cs.set ((t+1)%(((cs.map V.int).length:Nat):Int)).toNat (v/m)) _ (Ny _ (by omega)) (Ng _ hm0) ⟨?_,?_,?_,?_⟩ ?_
  ·rw[aH S2.ne];exact S2.d
  ·rw[aU,es]
  ·rw[Mc];exact S.pos
  ·rw[Mc];exact S.len
  intro b o e n1 n2;rw[aH n2];exact g b o (K1 b o e n1 n2)
 
 have mulR:∀(x y:Int),-(2 ^ 64)<y->y<2 ^ 64->xS x y:=λx y h1 h2=>.inr ⟨h1,h2⟩;refine⟨_,rfl,_,_,rfl,rfl,(by show(0:Int)<2147483629;decide),_,rfl,_,rfl,_,_,rfl,rfl,mulR _ _ (by omega) (by omega),_,_,rfl,rfl,mulR _ _ (by decide) (by decide),_,_,rfl,rfl,_,_,rfl,rfl,_,_,rfl,rfl,mulR _ _ (by decide) (by decide),_,_,rfl,rfl,(by show(0:Int)<2147483647;decide),?_⟩;generalize hM:(v%2147483629+(t+1)*(t+1)*7919+11)*48271%2147483647=M;have m0:0<=M:=by rw[<-hM];exact Ny _ (by decide)
 have m1:M<2147483647:=by rw[<-hM];exact Ng _ (by decide)
 refine⟨_,rfl,_,rfl,_,_,rfl,rfl,mulR _ _ (by omega) (by omega),_,_,rfl,rfl,(by show(0:Int)<2147483587;decide),?_⟩;refine⟨_,rfl,_,rfl,_,_,rfl,rfl,mulR _ _ (by decide) (by decide),_,_,rfl,rfl,_,_,rfl,rfl,mulR _ _ (by decide) (by decide),_,_,rfl,rfl,(by show(0:Int)<2147483629;decide),_,_,rfl,rfl,⟨by decide,by decide⟩,_,rfl,_,_,rfl,rfl,hm0,?_⟩;exact q _ cs H1 (Ny _ (by omega)) (Ng _ hm0) S1 K1
end
open PySem L2 PL
structure Cells where
 cs:List Int
 pos:0<cs.length
 len:cs.length<=63
noncomputable def stT(c:Cells)(n:Nat):T:=.dK true [(RH (some ("cells":Str)),.lst true (c.cs.map T.int)),(RH (some ("turn":Str)),.int (n:Int))]
variable {n:Nat}
theorem dM{c:Cells}:isAny (stT c n)=false:=rfl
def Scr(K:Rb)(t:T)(ns:List Int):Prop:=t=.lst false (ns.map T.int)\/∃a,t=.hole (.ref a)/\∀H,SqL K H a (ns.map V.int)
def tS(K:Rb):FP:=λts k=>∃t,∃ns:List Int,ts=[t]/\Scr K t ns/\ns.length<=63/\∀c,k (stT c 0) ts
def mh:FP:=λts k=>∃c n m,ts=[stT c n,.int m]/\n<2 ^ 40/\0<m/\m<1073741824/\∀r c',0<=r->r<m->k (.int r) [stT c' (n+1),.int m]
variable {Γ:Fm}{α β:Type}
section
variable{P:Rj}{w:Ro}{K:Rb}{mg:Str->Option Q_}{base:Rq}
theorem Ie{l:List (α×β)}{a b:α}(h:[a,b]=l.map (·.1)):∃v w,l=[(a,v),(b,w)]:=by
 cases l with
 |nil=>cases h
 |cons x l=>
  cases l with
  |nil=>cases h
  |cons y l=>
   cases l with
   |nil=>
    have h1:=(MK h).1;have h2:=(MK (MK h).2).1;exact⟨x.2,y.2,by rw[h1,h2]⟩
   |cons z l=>cases (MK (MK h).2).2
theorem w9{a:Ra}{o:HO}(h:H a=some o):Put H a o H:=⟨h,λ_ _=>rfl⟩
theorem KO{c:Cells}{v:V}(h:Rp K H ((stT c n,some v)::Γ)):∃st l,v=.ref st/\StAt H st l c.cs n/\Rp K H ((.bare,some (.ref st))::(.bare,some (.ref l))::Γ):=by
 obtain⟨st,kvs,ev,hs,ek,h2⟩:=uZ h;cases ev;obtain⟨v1,v2,rfl⟩:=Ie ek;have h2:Rp K H ((.bare,some (.ref st))::(.lst true (c.cs.map T.int),some v1)::(.int (n:Int),some v2)::Γ):=h2;have e2:v2=.int n:=aM h2.tail.tail;subst e2;have h3:=h2.perm (.swap _ _ _);obtain⟨l,vs,el,hl,ll,h4⟩:=jj h3;cases el;have ev:vs=c.cs.map V.int:=jg ll h4.tail;subst ev;refine⟨st,l,rfl,⟨hs,hl,c.pos,c.len⟩,?_⟩;have h5:Rp K H ((.bare,some (.ref l))::(.bare,some (.ref st))::(.int (n:Int),some (.int n))::Γ):=by have:Rp K H (zz (c.cs.map T.int) (c.cs.map V.int)++((.bare,some (.ref l))::(.bare,some (.ref st))::(.int (n:Int),some (.int n))::Γ)):=h4.perm f'.symm;exact this.part
 exact(h5.perm (by refine r_ (.cons _ (.swap _ _ _)) ?_;refine r_ (.swap _ _ _) ?_;exact .cons _ (.swap _ _ _))).tail
theorem v9{H:Hp}{Γ:Fm}:∀(ns:List Int),Rp K H Γ->Rp K H (zz (ns.map T.int) (ns.map V.int)++Γ)
 | [],h=>h
 |n::r,h=>dk (v9 r h) λ_=>.int
theorem Ca{l:Ra}(S:StAt H st l cs n)(h:Rp K H ((.bare,some (.ref st))::(.bare,some (.ref l))::Γ)):∃c,Rp K H ((stT c n,some (.ref st))::Γ):=by
 refine⟨⟨cs,S.pos,S.len⟩,?_⟩;have h1:Rp K H ((.bare,some (.ref l))::(zz (cs.map T.int) (cs.map V.int)++((.bare,some (.ref st))::Γ))):=(v9 cs (h.perm (.swap _ _ _))).perm f';have h2:=jK h1 (by rw[a_,a_]) (w9 S.l);have h3:Rp K H ((.bare,some (.ref st))::((.lst true (cs.map T.int),some (.ref l))::(.int (n:Int),some (.int n))::Γ)):=by refine(dk (t:=.int (n:Int)) h2 λ_=>.int).perm ?_;refine r_ (.swap _ _ _) ?_;refine r_ (.cons _ (.swap _ _ _)) ?_;exact .swap _ _ _
 exact rn (ts:=[(RH (some ("cells":Str)),.lst true (cs.map T.int)),(RH (some ("turn":Str)),.int (n:Int))]) (vs:=stK l n) h3 rfl (w9 S.d)
theorem KW{a c:Ra}(h:Rp K H ((.bare,some (.ref a))::(.bare,some (.ref c))::Γ))(k:Kp a c H H')(ha:∃u,H' a=some u/\∀xs,u≠.tup xs)(hc:∃u,H' c=some u/\∀xs,u≠.tup xs):Rp K H' ((.bare,some (.ref a))::(.bare,some (.ref c))::Γ):=by
 obtain⟨ua,ea,na⟩:=ha;obtain⟨uc,ec,nc⟩:=hc;obtain⟨Hz,N,h,nd,g,d⟩:=h;cases h with
 |cons e1 h1 c1=>
  cases c1 with
  |cons e2 h2 c2=>
   rcases h1 with⟨z,_⟩|⟨v1,ev1,h1⟩
   ·cases z
   rcases h2 with⟨z,_⟩|⟨v2,ev2,h2⟩
   ·cases z
   cases ev1;cases ev2;cases h1;cases h2;rename_i M u1 hu1 nt1 u2 hu2 nt2;subst e2;subst e1;have nd':(a::c::M).Nodup:=nd;rw[E_,E_]at nd';have keep:∀b o,H b=some o->b≠a->b≠c->H' b=some o:=k;have tk:TK H H':=λb xs r=>keep b _ r (λz=>nt1 xs (z▸r)) (λz=>nt2 xs (z▸r));have za:Hz a=none:=d a t_;have zc:Hz c=none:=d c (j_ _ t_);have g':Gr Hz H':=λb u r=>by
    obtain⟨w',q⟩:=Rd.some r;have b1:b≠a:=λz=>by rw[z,za]at q;cases q
    have b2:b≠c:=λz=>by rw[z,zc]at q;cases q
    rcases g b u r with r|⟨o,r⟩
    ·exact .inl (keep b _ r b1 b2)
    exact .inr ⟨o,keep b _ r b1 b2⟩
   refine⟨Hz,[a]++([c]++M),.cons rfl (.inr ⟨_,rfl,.bare ea λxs z=>?_⟩) (.cons rfl (.inr ⟨_,rfl,.bare ec λxs z=>?_⟩) (c2.move tk .ip λb m u e=>?_)),nd,g',d⟩
   ·rw[ea]at z;exact na xs (H_ z)
   ·rw[ec]at z;exact nc xs (H_ z)
   have b1:b≠a:=λz=>nd'.1 (by rw[<-z];exact j_ _ m)
   have b2:b≠c:=λz=>nd'.2.1 (by rw[<-z];exact m)
   exact⟨keep b u e b1 b2,λnt xs r=>nt xs (by rw[keep b u e b1 b2]at r;exact e.trans r)⟩
theorem Ez{a c:Ra}(h:Rp K H Γ)(ha:H a=none)(hc:H c=none)(ne:a≠c)(s:dh H H')(ea:∃u,H' a=some u/\∀xs,u≠.tup xs)(ec:∃u,H' c=some u/\∀xs,u≠.tup xs):Rp K H' ((.bare,some (.ref a))::(.bare,some (.ref c))::Γ):=by
 obtain⟨ua,ea,na⟩:=ea;obtain⟨uc,ec,nc⟩:=ec;obtain⟨Hz,N,h,nd,g,d⟩:=h;have n1:a ∉ N:=λm=>by obtain⟨⟨u,e⟩,_⟩:=h.there a m;rw[ha]at e;cases e
 have n2:c ∉ N:=λm=>by obtain⟨⟨u,e⟩,_⟩:=h.there c m;rw[hc]at e;cases e
 refine⟨Hz,[a]++([c]++N),.cons rfl (.inr ⟨_,rfl,.bare ea λxs z=>?_⟩) (.cons rfl (.inr ⟨_,rfl,.bare ec λxs z=>?_⟩) (h.move (dh.tk s) .ip λb m u e=>jN s b u e)),?_,g.trans (.of s),?_⟩
 ·rw[ea]at z;exact na xs (H_ z)
 ·rw[ec]at z;exact nc xs (H_ z)
 ·show(a::c::N).Nodup;rw[E_,E_];exact⟨λm=>(i_.mp m).elim (λz=>ne z) n1,n2,nd⟩
 intro b m;have m:b∈a::c::N:=m;rcases i_.mp m with rfl|m
 ·exact g.none ha
 rcases i_.mp m with rfl|m
 ·exact g.none hc
 exact d b m
theorem Ds(D:Dfn K mg "_law_take" tR ["_law_state","_law_many"])(TX:Txt mg):Cal P w K mg base 1 "_law_take" ["_law_state","_law_many"] (aG K 2 mh):=by
 refine(D.cal λ_ _ F=>Fq F TX).imp ?_;rintro vs H Q E ⟨ts,Fr,k,l,hn,rp,⟨c,n,m,rfl,h1,h2,h3,pk⟩,q⟩;obtain⟨x,y,rfl⟩:=zz2 l rfl;have rp:Rp K H ((stT c n,some x)::(.int m,some y)::Fr):=rp;have ey:=aM rp.tail;subst ey;obtain⟨st,lc,rfl,S,ge⟩:=KO rp;refine⟨st,lc,c.cs,n,m,rfl,S,by omega,by omega,h2,h3,λr cs' H' hr0 hr1 S' kp=>?_⟩;have gl:=KW ge kp ⟨_,S'.d,λ_ z=>by cases z⟩ ⟨_,S'.l,λ_ z=>by cases z⟩;have S'':StAt H' st lc cs' ((n+1:Nat):Int):=by push_cast;exact S'
 obtain⟨c',rp4⟩:=Ca S'' gl;exact q _ _ _ _ (pk r c' hr0 hr1) (dk rp4 λ_=>.int)
theorem x8{w y:V}(h:Rp K H ((.hole w,some y)::Γ)):y=w:=by
 obtain⟨_,_,r,_⟩:=ox h rfl;cases r
 rfl
theorem AQ(D:Dfn K mg "_law_begin" pE ["_law_script"])(TX:Txt mg):Cal P w K mg base 1 "_law_begin" ["_law_script"] (aG K 1 (tS K)):=by
 refine(D.cal λ_ _ F=>Bw F TX).imp ?_;rintro vs H Q E ⟨ts,Fr,k,l,hn,rp,⟨t,ns,rfl,hs,h1,pk⟩,q⟩;obtain⟨x,rfl⟩:=zz1 l rfl;have rp:Rp K H ((t,some x)::Fr):=rp;obtain⟨a,rfl,hq⟩:∃a,x=.ref a/\SqL K H a (ns.map V.int):=by
  rcases hs with rfl|⟨a,rfl,hs⟩
  ·obtain⟨a,us,rfl,hq,l2,ge⟩:=aD rfl rp;have eu:=jg l2 ge;subst eu;exact⟨a,rfl,hq⟩
  exact⟨a,x8 rp,hs H⟩
 refine⟨a,ns,rfl,hq,h1,λst lc cs H' hs hl S g=>?_⟩;have gl:=Ez rp hs hl S.ne g ⟨_,S.d,λ_ z=>by cases z⟩ ⟨_,S.l,λ_ z=>by cases z⟩;obtain⟨c,rp4⟩:=Ca (n:=0) S gl;exact q _ _ _ _ (pk c) rp4
def E1(K:Rb):FP:=λts k=>∃t,∃ns:List Int,ts=[t]/\Scr K t ns/\ns.length<=63/\∀z,k (.bl true) [z]
def ym(K:Rb):Sp:=λvs H Q _=>∃(a:Ra) (ns:List Int),vs=[.ref a]/\SqL K H a (ns.map V.int)/\ns.length<=63/\∀H',Q (.bl true) H'
theorem wx{Hz H:Hp}:∀(ns:List Int),RepTs K Hz H (ns.map T.int) (ns.map V.int) []
 | []=>.nil
 | _::r=>.cons rfl .int (wx r)
theorem ID{k:Nat}{f:Ra}(F:FnOk P w K mg base CX0 k f fd ["_law_script"] (aG K 1 (E1 K))):FnOk P w K mg base CX0 k f fd ["_law_script"] (ym K):=by
 refine F.imp ?_;rintro vs H Q E ⟨a,ns,rfl,hq,h1,q⟩;have key:∀t,Scr K t ns->(∀Hz,RepT K H Hz t (.ref a) [])->aG K 1 (E1 K) [.ref a] H Q E:=λt sc ht=>
  ⟨[t],[],λt _=>t=.bl true,rfl,rfl,⟨H,[],.cons rfl (.inr ⟨_,rfl,ht H⟩) .nil,NC,.ip,λ_ m=>by cases m⟩,⟨t,ns,rfl,sc,h1,λ_=>rfl⟩,λt ts' v H' e rp=>by subst e;rw[kA rp];exact q H'⟩
 rcases hq with hq|hq
 ·exact key _ (.inl rfl) λHz=>.lstZ hq (wx ns)
 exact key _ (.inr ⟨a,rfl,λH=>.inr hq⟩) λHz=>.hole
end
open PySem L2 PL
abbrev zA:T:=.cst [.cst [.int 3,.int 2],.cst [.int 2,.int 3],.cst [.int 1,.int 2],.cst [.int 2,.int 1]]
abbrev yW:T:=.cst [.cst [.int 1,.int 0],.cst [.int 1,.int 1],.cst [.int 0,.int 1],.cst [.int (-1),.int 1],.cst [.int (-1),.int 0],.cst [.int (-1),.int (-1)],.cst [.int 0,.int (-1)],.cst [.int 1,.int (-1)]]
abbrev Pt:=Int×Int
noncomputable def ptP(p:Pt):T:=pt p.1 p.2
variable {p:Pt}
theorem gP:er (ptP p)=ptP p:=rfl
theorem cH:fE (ptP p)=true:=rfl
theorem bE:aK (ptP p)=true:=rfl
theorem bJ:isAny (ptP p)=false:=rfl
theorem eK{k:T->Prop}:ixT (ptP p) (.int 0) k=k (.int p.1):=rfl
theorem eU{k:T->Prop}:ixT (ptP p) (.int 1) k=k (.int p.2):=rfl
variable {env:Ev}
theorem eE{gs:oD}{k:Ev->Prop}:gTp n gs (ptP p) env k=gTp n gs (.tup [.int p.1,.int p.2]) env k:=rfl
variable {i:Nat}
theorem map_take{g:α->β}{l:List α}{x:α}(h:l[i]?=some x):Mx g (l.take (i+1))=Mx g (l.take i)++[g x]:=by rw[Md,h,z_];rfl
theorem sizeLine_eq:sizeLine=16777216:=rfl
abbrev Qt:=Int×Int×Nat
noncomputable def qtT(q:Qt):T:=.tup [.int q.1,.int q.2.1,.int (q.2.2:Int)]
variable {q:Qt}
theorem gY:er (qtT q)=qtT q:=rfl
theorem cF:fE (qtT q)=true:=rfl
theorem bV:aK (qtT q)=true:=rfl
theorem bK:isAny (qtT q)=false:=rfl
theorem eM{k:T->Prop}:ixT (qtT q) (.int 2) k=k (.int (q.2.2:Int)):=rfl
theorem fy{k:T->Prop}:ixT (qtT q) (.int 0) k=k (.int q.1):=rfl
theorem fu{k:T->Prop}:ixT (qtT q) (.int 1) k=k (.int q.2.1):=rfl
theorem dW{gs:oD}{k:Ev->Prop}:gTp n gs (qtT q) env k=gTp n gs (.tup [.int q.1,.int q.2.1,.int (q.2.2:Int)]) env k:=rfl
noncomputable def Lz:List Pt:=[(3,2),(2,3),(1,2),(2,1)]
noncomputable def inn(s:Nat):Pt:=Lz.getD s (0,0)
theorem J9{s:Nat}(h:s<4):atI [T.cst [.int 3,.int 2],.cst [.int 2,.int 3],.cst [.int 1,.int 2],.cst [.int 2,.int 1]] (s:Int)=some (.cst [.int (inn s).1,.int (inn s).2]):=by
 match s,h with
 |0,_=>rfl
 |1,_=>rfl
 |2,_=>rfl
 |3,_=>rfl
def ug(q:Qt):Pt:=(4*q.1+(inn q.2.2).1,4*q.2.1+(inn q.2.2).2)
theorem c4(x:Int):xS 4 x:=.inl ⟨by decide,by decide⟩
theorem aL(f:α->Bool)(l:List α):boolsOf (l.map λx=>T.bl (f x))=some (l.map f):=by
 induction l with
 |nil=>rfl
 |cons x l ih=>rw[d_,boolsOf,ih];rfl
structure Oc where
 a:Int
 b:Int
 c:Int
 d:Int
 e:Int
 f:Int
 g:Int
 h:Int
noncomputable def ocT(o:Oc):T:=.tup [.int o.a,.int o.b,.int o.c,.int o.d,.int o.e,.int o.f,.int o.g,.int o.h]
theorem gZ{o:Oc}:er (ocT o)=ocT o:=rfl
theorem cD{o:Oc}:fE (ocT o)=true:=rfl
theorem bD{o:Oc}:aK (ocT o)=true:=rfl
theorem bQ{o:Oc}:isAny (ocT o)=false:=rfl
noncomputable def G9(o q:Oc):Oc:=⟨o.a+q.a,o.b+q.b,o.c+q.c,o.d+q.d,o.e+q.e,o.f+q.f,o.g+q.g,o.h+q.h⟩
noncomputable def oc1(p:Pt):Oc:=⟨p.1,p.1,p.2,p.2,p.1+p.2,p.1+p.2,p.1-p.2,p.1-p.2⟩
noncomputable def ocL(o:Oc):List Int:=[o.a,o.b,o.c,o.d,o.e,o.f,o.g,o.h]
theorem hU{o:Oc}{i:Int}{k:T->Prop}:ixT (ocT o) (.int i) k=ixT (.tup [.int o.a,.int o.b,.int o.c,.int o.d,.int o.e,.int o.f,.int o.g,.int o.h]) (.int i) k:=rfl
noncomputable def gO(j:Nat)(p:Pt):Int:=[p.1,p.2,p.1+p.2,p.1-p.2].getD j 0
def Hb(ps:List Pt)(o:Oc):Prop:=((je (ps.map (gO 0)) o.a/\jd (ps.map (gO 0)) o.b)/\(je (ps.map (gO 1)) o.c/\jd (ps.map (gO 1)) o.d))/\(je (ps.map (gO 2)) o.e/\jd (ps.map (gO 2)) o.f)/\je (ps.map (gO 3)) o.g/\jd (ps.map (gO 3)) o.h
theorem BI{f:Nat->Int×Int}{m M:Int}:(p_ (i+1)).flatMap (λj=>[T.int (if j=i then(m,M)else f j).1,T.int (if j=i then(m,M)else f j).2])=(p_ i).flatMap (λj=>[T.int (f j).1,T.int (f j).2])++[T.int m]++[T.int M]:=by
 rw[Nj,OE,w_];have ec:(p_ i).flatMap (λj=>[T.int (if j=i then(m,M)else f j).1,T.int (if j=i then(m,M)else f j).2])=(p_ i).flatMap λj=>[T.int (f j).1,T.int (f j).2]:=by rw[Qm,Qm];refine congrArg List.flatten (MM λj hj=>?_);have:=mo.mp hj;rw[if_neg (by lia)]
 rw[ec];congr 1;show [T.int (if i=i then(m,M)else f i).1,T.int (if i=i then(m,M)else f i).2]++[]=_;rw[if_pos rfl]
 rfl
theorem cT{ps:List α}{g:α->Int}:intsOf (ps.map λp=>T.int (g p))=some (ps.map g):=by
 induction ps with
 |nil=>rfl
 |cons p ps ih=>rw[d_,intsOf,ih];rfl
theorem Lk{o:Oc}(h:Hb [p] o):o=oc1 p:=by
 obtain⟨⟨⟨h1,h2⟩,h3,h4⟩,⟨h5,h6⟩,h7,h8⟩:=h;have k:∀{x y:Int},je [x] y->y=x:=λh=>x_.mp h.1;have k':∀{x y:Int},jd [x] y->y=x:=λh=>x_.mp h.1;obtain⟨a,b,c,d,e,f,g,h⟩:=o;have e1:=k h1;have e2:=k' h2;have e3:=k h3;have e4:=k' h4;have e5:=k h5;have e6:=k' h6;have e7:=k h7;have e8:=k' h8;dsimp only at e1 e2 e3 e4 e5 e6 e7 e8;rw[e1,e2,e3,e4,e5,e6,e7,e8]
 rfl
def mkO(r k:Int)(p:Pt):Oc:=G9 ⟨-r,r,-r,r,-(r+k),r+k,-(r+k),r+k⟩ (oc1 p)
noncomputable def vL(o:Oc):Bool:=decide (o.a=o.b) || (decide (o.c=o.d) || (decide (o.e=o.f) || decide (o.g=o.h)))
noncomputable def inP(o:Oc)(x y:Int):Prop:=(4*o.a<x/\x<4*o.b)/\(4*o.c<y/\y<4*o.d)/\(4*o.e<x+y/\x+y<4*o.f)/\4*o.g<x-y/\x-y<4*o.h
instance (o:Oc) (x y:Int):Decidable (inP o x y):=by unfold inP;infer_instance
def inO(o:Oc)(q:Qt):Bool:=decide (inP o (ug q).1 (ug q).2)
noncomputable def cellQ(f:Nat->Bool)(x y:Int):List Qt:=((p_ 4).filter f).map λs=>(x,y,s)
theorem o6(f:Nat->Bool)(x y:Int):(cellQ f x y).length<=4:=by unfold cellQ;rw[a_];exact Mz _ (p_ 4)
variable {x y:Int}
theorem uE{f:Nat->Bool}(h:q∈cellQ f x y):q.1=x/\q.2.1=y/\q.2.2<4/\f q.2.2=true:=by obtain⟨s,m,rfl⟩:=h_.mp h;have:=Mf.mp m;exact⟨rfl,rfl,mo.mp this.1,this.2⟩
noncomputable def t5(f:Int->List α)(a:Int)(n:Nat):List α:=(p_ n).flatMap λ(j:Nat)=>f (a+j)
variable {a:Int}
theorem jl{f:Int->List α}:t5 f a (n+1)=t5 f a n++f (a+n):=by unfold t5;rw[Nj,OE,List.flatMap_singleton]
theorem qa{f:Int->List α}{x:α}(h:x∈t5 f a n):∃j:Nat,j<n/\x∈f (a+j):=by obtain⟨j,m,e⟩:=Qn.mp h;exact⟨j,mo.mp m,e⟩
theorem u9{f:Int->List α}{c:Nat}(h:∀y,(f y).length<=c)(n:Nat):(t5 f a n).length<=c*n:=by
 induction n with
 |zero=>exact c_ _
 |succ n ih=>
  rw[jl,n_,PY];exact Nat.add_le_add ih (h _)
noncomputable def pW(o:Oc)(x:Int):Int:=max (max o.c (o.e-x-1)) (x-o.h)
noncomputable def xg(o:Oc)(x:Int):Int:=min (min o.d (o.f-x)) (x+1-o.g)
def ocC(o:Oc)(x:Int)(n:Nat):List Qt:=t5 (λy=>cellQ (λs=>inO o (x,y,s)) x y) (pW o x) n
def ocN(o:Oc)(n:Nat):List Qt:=t5 (λx=>ocC o x (xg o x-pW o x).toNat) o.a n
noncomputable def bdO(o:Oc):Prop:=(((-100<=o.a/\o.a<=100)/\-100<=o.b/\o.b<=100)/\(-100<=o.c/\o.c<=100)/\-100<=o.d/\o.d<=100)/\((-100<=o.e/\o.e<=100)/\-100<=o.f/\o.f<=100)/\(-100<=o.g/\o.g<=100)/\-100<=o.h/\o.h<=100
theorem D8{o:Oc}(h:bdO o)(h0:-100<=x)(h1:x<=100):-100<=pW o x/\pW o x<=300/\-300<=xg o x/\xg o x<=100:=by obtain⟨⟨⟨⟨a0,a1⟩,b0,b1⟩,⟨c0,c1⟩,d0,d1⟩,⟨⟨e0,e1⟩,f0,f1⟩,⟨g0,g1⟩,h0,h1⟩:=h;unfold pW xg;omega
theorem yE{o:Oc}(n:Nat):(ocC o x n).length<=4*n:=u9 (λy=>o6 _ _ _) n
theorem G6{o:Oc}(h:bdO o)(n:Nat)(hn:(n:Int)<=o.b-o.a):(ocN o n).length<=800*n:=by
 induction n with
 |zero=>exact c_ _
 |succ n ih=>
  unfold ocN at *;rw[jl,n_];have h1:=ih (by lia);have h2:=yE (o:=o) (x:=o.a+n) (xg o (o.a+n)-pW o (o.a+n)).toNat;have h3:=D8 (x:=o.a+n) h (by have:=h.1.1.1.1;lia) (by have:=h.1.1.2.2;lia);lia
abbrev Tl:=Int×Int×Int×Int×Int
noncomputable def tlL(t:Tl):List T:=[.int t.1,.int t.2.1,.int t.2.2.1,.int t.2.2.2.1,.int t.2.2.2.2]
def tlT(b o:Bool)(t:Tl):T:=if b then .lst o (tlL t)else .tup (tlL t)
variable {b o:Bool}{t:Tl}
theorem fL:er (tlT b o t)=tlT b false t:=by cases b <;> rfl
theorem bX:isAny (tlT b o t)=false:=by cases b <;> rfl
theorem cg:aK (tlT b false t)=true:=by have:er (tlT b false t)=tlT b false t:=fL;rw[<-this];exact aI _
theorem e9{k:T->Prop}:ixT (tlT b o t) (.int 0) k=k (.int t.1):=by cases b <;> rfl
theorem eY{k:T->Prop}:ixT (tlT b o t) (.int 1) k=k (.int t.2.1):=by cases b <;> rfl
noncomputable def tlO(t:Tl):Prop:=2<=t.1/\t.1<=4/\1<=t.2.1/\t.2.1<t.1
def mk0(t:Tl):Oc:=mkO t.1 t.2.1 (0,0)
def nrQ(t:Tl):List Qt:=ocN (mk0 t) ((mk0 t).b-(mk0 t).a).toNat
theorem Hl(h:tlO t):vL (mk0 t)=false/\bdO (mk0 t):=by obtain⟨h1,h2,h3,h4⟩:=h;unfold mk0 vL bdO mkO G9 oc1;dsimp only;refine⟨?_,by omega⟩;rw[Oz,Oz,Oz];exact⟨decide_eq_false (by lia),decide_eq_false (by lia),decide_eq_false (by lia),decide_eq_false (by lia)⟩
noncomputable def vD(q:Qt):List Int:=[q.1,q.2.1,(q.2.2:Int)]
def qbT(b o:Bool)(q:Qt):T:=if b then .lst o [.int q.1,.int q.2.1,.int (q.2.2:Int)]else qtT q
theorem fJ:er (qbT b o q)=qbT b false q:=by cases b <;> rfl
theorem bS:isAny (qbT b o q)=false:=by cases b <;> rfl
theorem bB:aK (qbT b false q)=true:=by cases b <;> rfl
theorem eG{k:T->Prop}:sG [qbT b o q] k=k (.tup [.int q.1,.int q.2.1,.int (q.2.2:Int)]):=by cases b <;> rfl
def rgT(c o b u:Bool)(qs:List Qt):T:=if c then .tup (qs.map (qbT b u))else .lst o (qs.map (qbT b u))
variable {qs:List Qt}
theorem Ci{u:Bool}:erL (qs.map (qbT b u))=qs.map (qbT b false):=by rw[cw];exact MM λk _=>fJ
theorem fN{c u:Bool}:er (rgT c o b u qs)=rgT c false b false qs:=by
 cases c
 ·show er (.lst o (qs.map (qbT b u)))=.lst false (qs.map (qbT b false));rw[er,Ci]
 show er (.tup (qs.map (qbT b u)))=.tup (qs.map (qbT b false));rw[er,Ci]
theorem bG{c u:Bool}:items (rgT c o b u qs)=some (qs.map (qbT b u)):=by cases c <;> rfl
theorem bC{c u:Bool}:isAny (rgT c o b u qs)=false:=by cases c <;> rfl
theorem bM{c:Bool}:aK (rgT c false b false qs)=true:=by have:er (rgT c false b false qs)=rgT c false b false qs:=fN;rw[<-this];exact aI _
theorem zN{κ:Type}[DecidableEq κ]{v:T}(l:List κ)(x:κ):jL (l.map λk=>(k,v)) x=if x∈l then some v else none:=by
 unfold jL;induction l with
 |nil=>rfl
 |cons a l ih=>
  rw[d_,Mq];by_cases e:a=x
  ·rw[decide_eq_true e,if_pos (by rw[e];exact t_)]
   rfl
  rw[decide_eq_false e];show NK _ (List.find? _ (l.map λk=>(k,v)))=_;rw[ih];by_cases m:x∈l
  ·rw[if_pos m,if_pos (j_ _ m)]
  rw[if_neg m,if_neg λh=>(i_.mp h).elim (λz=>e z.symm) m]
theorem Ge{κ:Type}[DecidableEq κ]{v:T}{l:List κ}{x:κ}(h:x ∉ l):iw (l.map λk=>(k,v)) x v=(l++[x]).map λk=>(k,v):=by
 unfold iw;rw[if_neg,z_]
 ·rfl
 intro g;obtain⟨kv,m,e⟩:=MQ.mp g;obtain⟨a,ma,rfl⟩:=h_.mp m;exact h (of_decide_eq_true e▸ma)
def kQ(q:Qt):List Key:=kI (vD q)
theorem qB{r:Qt}(h:kQ q=kQ r):q=r:=by have h:=Bi h;unfold vD at h;simp only[Mu,and_true]at h;exact ME h.1 (ME h.2.1 (by have:=h.2.2;lia))
def dQ(qs:List Qt):List (List Key×T):=(qs.map kQ).map λk=>(k,T.bl true)
theorem tQ(h:q ∉ qs):iw (dQ qs) (kQ q) (.bl true)=dQ (qs++[q]):=by unfold dQ;rw[show(qs++[q]).map kQ=qs.map kQ++[kQ q]from z_ ..,Ge];intro m;obtain⟨r,mr,e⟩:=h_.mp m;exact h (qB e▸mr)
theorem sO(qs:List Qt):(dQ qs).length=qs.length:=by unfold dQ;rw[a_,a_]
theorem DC:(jL (dQ qs) (kQ q)).isSome=decide (q∈qs):=by
 unfold dQ;rw[zN];by_cases m:q∈qs
 ·rw[if_pos (y_ m),decide_eq_true m]
  rfl
 rw[if_neg λh=>?_,decide_eq_false m]
 ·rfl
 obtain⟨r,mr,e⟩:=h_.mp h;exact m (qB e▸mr)
theorem gF(qs:List Qt):erT (dQ qs)=dQ qs:=by
 unfold dQ;induction qs with
 |nil=>rfl
 |cons a l ih=>rw[d_,d_,erT,ih];rfl
theorem bF(qs:List Qt):iF (dQ qs)=true:=by
 unfold dQ;induction qs with
 |nil=>rfl
 |cons a l ih=>rw[d_,d_,iF,ih];rfl
theorem cO(qs:List Qt):lT (dQ qs)=true:=by
 unfold dQ;induction qs with
 |nil=>rfl
 |cons a l ih=>rw[d_,d_,lT,ih];rfl
theorem j7(qs:List Qt):(dQ qs).map (λp=>kyT p.1)=qs.map qtT:=by
 unfold dQ;rw[F',F']
 rfl
theorem vP{l:List α}{x:α}(h:l.Nodup)(e:l[i]?=some x):x ∉ l.take i:=by intro m;obtain⟨j,hj,ej⟩:=OV.mp m;obtain⟨hi,e⟩:=e_.mp e;have:=(Qd h).mp (ej.trans e.symm);lia
noncomputable def lg(p:Pt):List Int:=[p.1,p.2]
theorem zE(l:List Pt):∀q∈l.map lg,q≠[]:=λq m=>by obtain⟨r,_,rfl⟩:=h_.mp m;exact Qo _ _
noncomputable def mvQ(p:Pt)(m:Qt):Qt:=(p.1+m.1,p.2+m.2.1,m.2.2)
theorem yk{l:List α}{x:α}(e:l[i]?=some x):l.drop i=x::l.drop (i+1):=by obtain⟨h,e⟩:=e_.mp e;rw[List.drop_eq_getElem_cons h,e]
theorem zy{g:α->T}{l:List α}{t:T}(hn:n=l.length)(h:(QR (λ(i:Nat) (x:T)=>T.tup [.int (i:Int),x]) (p_ n) (l.map g))[i]?=some t):∃x,l[i]?=some x/\t=.tup [.int (i:Int),g x]:=by
 subst hn;rw[Pm]at h;cases e:l[i]? with
 |none=>
  rw[o_,e]at h;cases hr:(p_ l.length)[i]? <;> rw[hr]at h <;> cases h
 |some x=>
  have hi:i<l.length:=(e_.mp e).1;rw[o_,e,Mw hi]at h;cases h;exact⟨x,rfl,rfl⟩
theorem qM{g:α->T}{l:List α}(hn:n=l.length):(QR (λ(i:Nat) (x:T)=>T.tup [.int (i:Int),x]) (p_ n) (l.map g)).length=l.length:=by rw[PJ,B_,a_,hn,OY]
def j8(qs:List Qt):List (List Int):=qs.map vD
theorem pD(qs:List Qt):(dQ qs).map (·.1)=(j8 qs).map kI:=by
 unfold dQ j8;rw[F',F',F']
 rfl
theorem pd(qs:List Qt):(j8 qs).map iT=qs.map qtT:=by
 unfold j8;rw[F']
 rfl
theorem p8(qs:List Qt):∀q∈j8 qs,q≠[]:=λq m=>by obtain⟨r,_,rfl⟩:=h_.mp m;exact Qo _ _
theorem EK{u:Bool}{k:T->Prop}(h:k (.lst true (qs.map qtT))):uq [.dT u (dQ qs)] k:=by rw[Dw];exact⟨j8 qs,pD qs,p8 qs,λ_=>by rw[pd];exact h⟩
theorem Bs(qs:List Qt)(j:Nat):(dQ qs).eraseIdx j=dQ (qs.eraseIdx j):=by unfold dQ;rw[<-iA,<-iA]
theorem JZ:iJ [.int q.1,.int q.2.1,.int (q.2.2:Int)]=some (kQ q):=rfl
theorem vw{z:T}{k:T->T->Prop}(h:∀rs u,List.Sublist rs qs->(∀r∈qs,r≠q->r∈rs)->k (.dT true (dQ rs)) u):oy (.dT true (dQ qs)) (qtT q) z k:=by
 unfold qtT;rw[Eg];refine dc JZ ?_;show match kF (dQ qs) (kQ q)with
   |some r=>k (.dT true r.2) r.1
   |none=>k (.dT true (dQ qs)) z
 cases e:kF (dQ qs) (kQ q)with
 |none=>exact h qs _ (List.Sublist.refl _) λ_ m _=>m
 |some r=>
  obtain⟨j,e1,e2⟩:=uG e;show k (.dT true r.2) r.1;rw[e2,Bs];refine h _ _ (Oo _ _) λr m g=>?_;obtain⟨i,ei⟩:=Pq.mp m;refine List.mem_eraseIdx_iff_getElem?.mpr ⟨i,λz=>g ?_,ei⟩;subst z;unfold dQ at e1;rw[o_,o_,ei]at e1;exact qB (P1.mp (H_ e1)).1
theorem cJ{k:T->Prop}:BH [qtT q] k=k (.lst true [.int q.1,.int q.2.1,.int (q.2.2:Int)]):=rfl
noncomputable def kx(n i:Nat):Nat:=if i=0 then n-1 else i-1
theorem vY{g:α->T}{l:List α}(h:i<l.length)(z:α):atI (l.map g) ((i:Int)-1)=some (g (l.getD (kx l.length i) z)):=by
 unfold atI kx;rw[a_];by_cases hi:i=0
 ·subst hi;rw[if_pos rfl];have:ixN l.length (((0:Nat):Int)-1)=some (l.length-1):=by unfold ixN;rw[if_neg (by decide),if_pos (by lia)];congr 1;lia
  rw[this,Oj,o_,D_,b_ (by lia)]
  rfl
 rw[if_neg hi];have:ixN l.length ((i:Int)-1)=some (i-1):=by unfold ixN;rw[if_pos (by lia)];rw[if_pos (by lia)];congr 1;lia
 rw[this,Oj,o_,D_,b_ (by omega)]
 rfl
noncomputable def sm(p:Pt):Prop:=-8388608<p.1/\p.1<8388608/\-8388608<p.2/\p.2<8388608
noncomputable def bd(m:Int)(z:Int):Prop:=-m<=z/\z<=m
noncomputable def bR(c z:Int):Prop:=c<=z/\z<=c+20
def inR(x y:Int):List Pt->Prop
 | []=>True
 |p::l=>(bR x p.1/\bR y p.2)/\inR x y l
theorem ju:∀{l:List Pt},inR x y l->p∈l->bR x p.1/\bR y p.2:=by
 intro l;induction l with
 |nil=>intro _ h;cases h
 |cons x l ih=>
  intro h q;rcases i_.mp q with rfl|q
  ·exact h.1
  exact ih h.2 q
theorem xi:∀{l:List Pt},(∀p∈l,bR x p.1/\bR y p.2)->inR x y l:=by
 intro l;induction l with
 |nil=>intro _;trivial
 |cons x l ih=>exact λh=>⟨h x (t_ ..),ih λp q=>h p (j_ _ q)⟩
theorem vW{l r:List Pt}(h:inR x y l)(e:∀p∈r,p∈l):inR x y r:=xi λp q=>ju h (e p q)
theorem sW:∀{l:List Int},0<l.length->∃r,je l r
 | [a],_=>⟨a,.head _,λx m=>by rw[x_.mp m];exact Q1 _⟩
 |a::b::l,_=>by
  obtain⟨r,m,h⟩:=sW (l:=b::l) (Nt _);by_cases e:a<=r
  ·exact⟨a,.head _,λx mx=>(i_.mp mx).elim (λz=>by lia) (λz=>by have:=h x z;lia)⟩
  exact⟨r,.tail _ m,λx mx=>(i_.mp mx).elim (λz=>by lia) (h x)⟩
theorem FK{l:List Int}(h:0<l.length):∃r,jd l r:=by obtain⟨r,m,k⟩:=sW (l:=l.map λx=>-x) (by rw[a_];exact h);obtain⟨y,my,rfl⟩:=h_.mp m;exact⟨y,my,λx mx=>by have:=k (-x) (h_.mpr ⟨x,mx,rfl⟩);lia⟩
theorem EW{l:List Int}{b:Int}(h:je l a)(g:je l b):a=b:=by have:=h.2 b g.1;have:=g.2 a h.1;lia
theorem FF{l:List Int}{b:Int}(h:jd l a)(g:jd l b):a=b:=by have:=h.2 b g.1;have:=g.2 a h.1;lia
variable {c d:Int}{ps:List Pt}
theorem Js(h:inR x y ps){b:Int}(h1:je (ps.map (·.1)) a)(h2:jd (ps.map (·.1)) b)(h3:je (ps.map (·.2)) c)(h4:jd (ps.map (·.2)) d):(x<=a/\a<=b/\b<=x+20)/\y<=c/\c<=d/\d<=y+20:=by have l1:=h2.2 a h1.1;have l2:=h4.2 c h3.1;obtain⟨p,mp,rfl⟩:=h_.mp h1.1;obtain⟨q,mq,rfl⟩:=h_.mp h2.1;obtain⟨r,mr,rfl⟩:=h_.mp h3.1;obtain⟨t,mt,rfl⟩:=h_.mp h4.1;exact⟨⟨(ju h mp).1.1,l1,(ju h mq).1.2⟩,(ju h mr).2.1,l2,(ju h mt).2.2⟩
theorem Ln{b:Int}{c:Prop}[Decidable c]:atI [T.int a,.int b] (if c then 1 else 0)=some (.int (if c then b else a)):=by
 by_cases h:c
 ·rw[if_pos h,if_pos h];rfl
 rw[if_neg h,if_neg h];rfl
abbrev Ed:=Pt×Pt
noncomputable def sgE(e:Ed):Int:=(e.2.1-e.1.1)/max 1 ((e.2.1-e.1.1).natAbs:Int)
theorem sZ(e:Ed):e.2.1=e.1.1/\sgE e=0\/e.1.1<e.2.1/\sgE e=1\/e.2.1<e.1.1/\sgE e=-1:=by
 unfold sgE;generalize e.2.1=y;generalize e.1.1=x;rcases P' x y with h|h|h
 ·exact .inr (.inl ⟨h,by rw[show max 1 ((y-x).natAbs:Int)=y-x by lia,Int.ediv_self (by lia)]⟩)
 ·exact .inl ⟨h.symm,by rw[h,Int.sub_self,Int.zero_ediv]⟩
 have e:=Int.neg_ediv_self (x-y) (by lia);exact .inr (.inr ⟨h,by rw[show max 1 ((y-x).natAbs:Int)=x-y by lia,show y-x=-(x-y) by lia,e]⟩)
def crB(s:Pt)(e:Ed):Bool:=decide (min e.1.2 e.2.2*8<=s.2/\s.2<max e.1.2 e.2.2*8)&&decide (s.1<8*(if e.2.2<e.1.2 then e.2.1 else e.1.1)+(if e.2.2<e.1.2 then -sgE e else sgE e)*(s.2-min e.1.2 e.2.2*8))
def cr(s:Pt)(e:Ed):Int:=if crB s e=true then 1 else 0
variable {s:Pt}
theorem kG{b:Int}:cr s ((a,c),(b,c))=0:=by
 unfold cr crB;rw[decide_eq_false (by dsimp only;lia)]
 rfl
theorem yY:cr s (p,p)=0:=kG
theorem tV{q:Pt}:cr s (q,p)=cr s (p,q):=by
 obtain⟨a,b⟩:=p;obtain⟨c,d⟩:=q;have g:sgE ((c,d),(a,b))=-sgE ((a,b),(c,d)):=by have g1:=sZ ((c,d),(a,b));have g2:=sZ ((a,b),(c,d));dsimp only at g1 g2;lia
 rcases P' b d with h|h|h
 ·unfold cr crB;rw[g];dsimp only;rw[if_pos h,if_pos h,if_neg (show ¬d<b by lia),if_neg (show ¬d<b by lia),Int.neg_neg,QS d b,QT d b]
 ·subst h;rw[kG,kG]
 unfold cr crB;rw[g];dsimp only;rw[if_pos h,if_pos h,if_neg (show ¬b<d by lia),if_neg (show ¬b<d by lia),QS d b,QT d b]
noncomputable def upI(s:Pt)(a b u k:Int):Int:=if(8*b<=s.2/\s.2<8*(b+k))/\s.1<8*a+u*(s.2-8*b)then 1 else 0
variable {u:Int}
theorem up0{b k:Int}(hu:u=0\/u=1\/u=-1)(hk:0<=k):cr s ((a,b),(a+u*k,b+k))=upI s a b u k:=by
 by_cases z:k=0
 ·subst z;rw[Int.mul_zero,MA,MA,yY];unfold upI;rw[if_neg λh=>by have:=h.1;lia]
 have g:=sZ ((a,b),(a+u*k,b+k));have e:sgE ((a,b),(a+u*k,b+k))=u:=by dsimp only at g;rcases hu with rfl|rfl|rfl <;> lia
 unfold cr crB upI;rw[e];dsimp only;rw[if_neg (show ¬b+k<b by lia),if_neg (show ¬b+k<b by lia),show min b (b+k)=b by lia,show max b (b+k)=b+k by lia,O5 b 8,O5 (b+k) 8];simp only[K_,decide_eq_true_iff]
theorem vup{b:Int}(h:b<=c):cr s ((a,b),(a,c))=upI s a b 0 (c-b):=by have:=up0 (s:=s) (a:=a) (b:=b) (u:=0) (k:=c-b) (.inl rfl) (by lia);rwa[Int.zero_mul,MA,show b+(c-b)=c by lia]at this
theorem vdn{b:Int}(h:b<=c):cr s ((a,c),(a,b))=upI s a b 0 (c-b):=tV.trans (vup h)
noncomputable def fS(F:Ed->Int):Pt->List Pt->Int
 | _,[]=>0
 |p,q::l=>F (p,q)+fS F q l
def m9(F:Ed->Int)(l:List Pt):Int:=fS F (l.getLastD (0,0)) l
variable {F:Ed->Int}
theorem nq{l r:List Pt}:∀{p:Pt},fS F p (l++r)=fS F p l+fS F (l.getLastD p) r:=by
 induction l with
 |nil=>intro p;exact(NF _).symm
 |cons q l ih=>
  intro p;rw[Mo,Ml,fS,fS,ih,PD]
theorem k8{l r:List Pt}:(l++r).getLastD p=r.getLastD (l.getLastD p):=by
 induction l generalizing p with
 |nil=>rfl
 |cons q l ih=>rw[Ml,Mo,Mo,ih]
theorem lF{l:List Pt}(h:l≠[])(p q:Pt):l.getLastD p=l.getLastD q:=by
 cases l with
 |nil=>exact absurd rfl h
 |cons a l=>rw[Mo,Mo]
theorem Cu{l r:List Pt}:m9 F (l++r)=m9 F (r++l):=by
 by_cases h1:l=[]
 ·rw[h1,MZ,L']
 by_cases h2:r=[]
 ·rw[h2,MZ,L']
 unfold m9;rw[nq,nq,k8,k8,lF h2 (l.getLastD (0,0)) (0,0),lF h1 (r.getLastD (0,0)) (0,0),lF h2 (l.getLastD (0,0)) (0,0),Int.add_comm]
theorem BN(ho:∀p q,F (q,p)=F (p,q)){l:List Pt}:∀{p z:Pt},fS F z (l.reverse++[p])=fS F p l+F (l.getLastD p,z):=by
 induction l with
 |nil=>
  intro p z;show F (z,p)+0=0+F (p,z);rw[ho p z];lia
 |cons q l ih=>
  intro p z;rw[Nb,nq,ih,Mo,show fS F p (q::l)=F (p,q)+fS F q l from rfl];have:(l.reverse++[q]).getLastD z=q:=by rw[k8];rfl
  rw[this];show _+(F (q,p)+0)=_;rw[ho p q];lia
theorem DT(ho:∀p q,F (q,p)=F (p,q)){l:List Pt}:m9 F l.reverse=m9 F l:=by
 cases l with
 |nil=>rfl
 |cons p l=>
  unfold m9;rw[Nb,Mo,fS];have:(l.reverse++[p]).getLastD (0,0)=p:=by rw[k8];rfl
  rw[this,BN ho];lia
theorem Aw{l:List Pt}{x:Pt}(e:l[i]?=some x):fS F (l.getLastD (0,0)) (l.take (i+1))=fS F (l.getLastD (0,0)) (l.take i)+F (l.getD (kx l.length i) (0,0),x):=by
 have hi:i<l.length:=(e_.mp e).1;have ek:(l.take i).getLastD (l.getLastD (0,0))=l.getD (kx l.length i) (0,0):=by
  unfold kx;by_cases h:i=0
  ·subst h;rw[if_pos rfl];show l.getLastD (0,0)=_;rw[MO,Nn,D_]
  rw[if_neg h,MO,Nn,L_,NS (by lia),NV (by lia),D_,b_ (by omega)]
  rfl
 rw[Md,e,nq,ek];show _+(F _+0)=_;rw[MA]
def Wi(ps:List Pt)(x y:Int):Prop:=m9 (cr (8*x+4,8*y+1)) ps%2=1/\(∃p∈ps,p.1<=x)/\(∃p∈ps,x<p.1)/\(∃p∈ps,p.2<=y)/\∃p∈ps,y<p.2
noncomputable def Thr(ps:List Pt):Prop:=∃x y,Wi ps x y/\Wi ps (x+3) y/\Wi ps (x+6) y
theorem Cj{qs:List Pt}(h:Wi ps x y)(e:∀s,m9 (cr s) qs=m9 (cr s) ps)(m:∀p∈ps,p∈qs):Wi qs x y:=by obtain⟨h1,⟨p1,m1,g1⟩,⟨p2,m2,g2⟩,⟨p3,m3,g3⟩,p4,m4,g4⟩:=h;exact⟨by rw[e];exact h1,⟨p1,m p1 m1,g1⟩,⟨p2,m p2 m2,g2⟩,⟨p3,m p3 m3,g3⟩,p4,m p4 m4,g4⟩
theorem BO{qs:List Pt}(h:Thr ps)(e:∀s,m9 (cr s) qs=m9 (cr s) ps)(m:∀p∈ps,p∈qs):Thr qs:=by obtain⟨x,y,h1,h2,h3⟩:=h;exact⟨x,y,Cj h1 e m,Cj h2 e m,Cj h3 e m⟩
theorem qx{n:Int}(hn:7<=n)(h:∀j:Int,0<=j->j<n->Wi ps (x+j) y):Thr ps:=⟨x,y,by have:=h 0 (by lia) (by lia);rwa[MA]at this,h 3 (by lia) (by lia),h 6 (by lia) (by lia)⟩
noncomputable def ltQ(a b:Qt):Prop:=a.1<b.1\/a.1=b.1/\(a.2.1<b.2.1\/a.2.1=b.2.1/\a.2.2<b.2.2)
def upQ(qs:List Qt):Prop:=qs.Pairwise ltQ
def okQ(x y:Int)(q:Qt):Prop:=bR x q.1/\bR y q.2.1/\q.2.2<4
theorem Em(h:upQ qs)(g:∀r∈qs,ltQ r q):upQ (qs++[q]):=by refine Nl.mpr ⟨h,Nv _ _,λa ma b mb=>?_⟩;rw[x_.mp mb];exact g a ma
theorem HM(g:∀r∈qs,ltQ r q):q ∉ qs:=λm=>by have:=g q m;unfold ltQ at this;lia
theorem Hj(h:upQ qs):qs.Nodup:=h.imp λ{a b} g z=>by subst z;unfold ltQ at g;lia
theorem EG{P R:Qt->Prop}(h:∀r∈qs,P r)(g:∀r,P r->R r)(gq:R q):∀r∈qs++[q],R r:=λr m=>by
 rcases C'.mp m with m|m
 ·exact g r (h r m)
 rw[x_.mp m];exact gq
theorem C0{s:Nat}(h:s<4):(∃v,atI [T.int 6,.int 4,.int 2,.int 4] (s:Int)=some (.int v)/\(s=3->v=4))/\∃v,atI [T.int 5,.int 7,.int 3,.int 1] (s:Int)=some (.int v)/\(s=3->v=1):=by
 match s,h with
 |0,_=>exact⟨⟨_,rfl,λh=>by cases h⟩,_,rfl,λh=>by cases h⟩
 |1,_=>exact⟨⟨_,rfl,λh=>by cases h⟩,_,rfl,λh=>by cases h⟩
 |2,_=>exact⟨⟨_,rfl,λh=>by cases h⟩,_,rfl,λh=>by cases h⟩
 |3,_=>exact⟨⟨_,rfl,λ_=>rfl⟩,_,rfl,λ_=>rfl⟩
def Od(ps:List Pt)(x y:Int):Prop:=m9 (cr (8*x+4,8*y+1)) ps%2=1
noncomputable def pJ(x y w h a b c d:Int):List Pt:=[(x+a,y),(x+w-b,y),(x+w,y+b),(x+w,y+h-c),(x+w-c,y+h),(x+d,y+h),(x,y+h-d),(x,y+a)]
noncomputable def ddl:Pt->List Pt->List Pt
 | _,[]=>[]
 |p,q::l=>if q=p then ddl q l else q::ddl q l
def jW(x y w h a b c d:Int):List Pt:=ddl (x,y+a) (pJ x y w h a b c d)
theorem FE{x:Pt}:∀{l:List Pt}{p:Pt},ddl p (l++[x])=ddl p l++(if x=l.getLastD p then []else [x]):=by
 intro l;induction l with
 |nil=>intro p;rfl
 |cons q l ih=>
  intro p;have e:(q::l).getLastD p=l.getLastD q:=by rw[Mo]
  rw[e,Ml,ddl,ddl,ih];split
  ·rfl
  rfl
variable {z:Pt}
theorem D3{l:List Pt}{x:Pt}(hp:l.getD (l.length-1) z=p)(e:l[i]?=some x):ddl p (l.take (i+1))=ddl p (l.take i)++(if x=l.getD (kx l.length i) z then []else [x]):=by
 have hi:i<l.length:=(e_.mp e).1;have ek:(l.take i).getLastD p=l.getD (kx l.length i) z:=by
  unfold kx;by_cases h:i=0
  ·subst h;rw[if_pos rfl,hp];rfl
  rw[if_neg h,MO,Nn,L_,NS (by lia),NV (by lia),D_,b_ (by omega)]
  rfl
 rw[Md,e,<-ek];exact FE
theorem yM{q:Pt}:∀{l:List Pt}{p:Pt},q∈ddl p l->q∈l:=by
 intro l;induction l with
 |nil=>intro p h;exact h
 |cons x l ih=>
  intro p h;rw[ddl]at h;split at h
  ·exact j_ _ (ih h)
  rcases i_.mp h with rfl|h
  ·exact t_ ..
  exact j_ _ (ih h)
theorem yw:∀{l:List Pt}{p:Pt},(ddl p l).length<=l.length:=by
 intro l;induction l with
 |nil=>intro p;exact c_ _
 |cons x l ih=>
  intro p;rw[ddl];split
  ·exact Nat.le_succ_of_le ih
  exact O0 ih
theorem Fx{q:Pt}:∀{l:List Pt}{p:Pt},ddl p l=[]->q∈l->q=p:=by
 intro l;induction l with
 |nil=>intro p _ h;cases h
 |cons x l ih=>
  intro p h m;rw[ddl]at h;split at h
  ·rename_i e;rcases i_.mp m with rfl|m
   ·exact e
   rw[<-e];exact ih h m
  cases h
variable {h w:Int}
theorem mX{b:Int}(hw:w≠0):0<(jW x y w h a b c d).length:=by refine Nf λz=>?_;have e:=Fx (Mi z) (show((x+w,y+b):Pt)∈pJ x y w h a b c d from .tail _ (.tail _ (.head _)));have:=congrArg Prod.fst e;dsimp only at this;lia
theorem uX{b:Int}(hw:0<w):(jW x y w h a b c d).getLastD p=(x,y+a):=by
 have g2:∀{l:List Pt}{p:Pt},(ddl p l).getLastD p=l.getLastD p:=by
  intro l;induction l with
  |nil=>intro p;rfl
  |cons q l ih=>
   intro p;rw[ddl,Mo];split
   ·rename_i e;subst e;exact ih
   rw[Mo];exact ih
 have p0:=mX (x:=x) (y:=y) (w:=w) (h:=h) (a:=a) (b:=b) (c:=c) (d:=d) (by lia);rw[lF (λz=>by rw[z]at p0;exact absurd p0 (MW _)) p (x,y+a)];unfold jW;rw[g2]
 rfl
theorem Dg(h0:∀p,F (p,p)=0){l:List Pt}:∀{p:Pt},fS F p (ddl p l)=fS F p l:=by
 induction l with
 |nil=>intro p;rfl
 |cons q l ih=>
  intro p;rw[ddl,fS];split
  ·rename_i e;subst e;rw[ih,h0,NF]
  rw[fS,ih]
theorem F1{l:List Pt}:∀{p:Pt},z∈l->z∈ddl p l\/z=p:=by
 induction l with
 |nil=>intro p m;cases m
 |cons q l ih=>
  intro p m;rw[ddl];rcases i_.mp m with rfl|m
  ·split
   ·rename_i e;exact .inr e
   exact .inl (.head _)
  split
  ·rename_i e;rcases ih (p:=q) m with g|g
   ·exact .inl g
   exact .inr (g.trans e)
  rcases ih (p:=q) m with g|g
  ·exact .inl (.tail _ g)
  rw[g];exact .inl (.head _)
theorem pz{b:Int}(hw:0<w)(m:z∈pJ x y w h a b c d):z∈jW x y w h a b c d:=by
 rcases F1 (p:=(x,y+a)) m with g|g
 ·exact g
 have e:=uX (x:=x) (y:=y) (w:=w) (h:=h) (a:=a) (b:=b) (c:=c) (d:=d) hw (p:=(0,0));have p0:=mX (x:=x) (y:=y) (w:=w) (h:=h) (a:=a) (b:=b) (c:=c) (d:=d) (by lia);rw[g,<-e];generalize jW x y w h a b c d=l at *;rw[MO,Nn,b_ (by lia)];exact MG _
theorem EH{b:Int}(hw:7<=w)(hh:1<=h)(ha:0<=a/\a<=min w h/2)(hb:0<=b/\b<=min w h/2)(hc:0<=c/\c<=min w h/2)(hd:0<=d/\d<=min w h/2):Thr (jW x y w h a b c d):=by
 refine qx (x:=x) (y:=y+max a b) hw λj j0 j1=>⟨?_,⟨(x,y+a),pz (by lia) (.tail _ (.tail _ (.tail _ (.tail _ (.tail _ (.tail _ (.tail _ (.head _)))))))),by dsimp only;lia⟩,⟨(x+w,y+b),pz (by lia) (.tail _ (.tail _ (.head _))),by dsimp only;lia⟩,⟨(x+a,y),pz (by lia) (.head _),by dsimp only;lia⟩,(x+d,y+h),pz (by lia) (.tail _ (.tail _ (.tail _ (.tail _ (.tail _ (.head _)))))),by dsimp only;lia⟩
 unfold m9;rw[uX (by lia)];show fS _ (x,y+a) (ddl (x,y+a) _)%2=1;rw[Dg λ_=>yY];generalize es:((8*(x+j)+4,8*(y+max a b)+1):Pt)=s;have e1:cr s ((x,y+a),(x+a,y))=upI s (x+a) y (-1) a:=by have:=up0 (s:=s) (a:=x+a) (b:=y) (u:=-1) (k:=a) (.inr (.inr rfl)) ha.1;rw[show x+a + -1*a=x by lia]at this;exact tV.trans this
 have e2:cr s ((x+w-b,y),(x+w,y+b))=upI s (x+w-b) y 1 b:=by have:=up0 (s:=s) (a:=x+w-b) (b:=y) (u:=1) (k:=b) (.inr (.inl rfl)) hb.1;rwa[show x+w-b+1*b=x+w by lia]at this
 have e4:cr s ((x+w,y+h-c),(x+w-c,y+h))=upI s (x+w) (y+h-c) (-1) c:=by have:=up0 (s:=s) (a:=x+w) (b:=y+h-c) (u:=-1) (k:=c) (.inr (.inr rfl)) hc.1;rwa[show x+w + -1*c=x+w-c by lia,show y+h-c+c=y+h by lia]at this
 have e5:cr s ((x+d,y+h),(x,y+h-d))=upI s x (y+h-d) 1 d:=by have:=up0 (s:=s) (a:=x) (b:=y+h-d) (u:=1) (k:=d) (.inr (.inl rfl)) hd.1;rw[show x+1*d=x+d by lia,show y+h-d+d=y+h by lia]at this;exact tV.trans this
 unfold pJ;simp only[fS,e1,e2,e4,e5,kG];rw[vup (by lia),vdn (by lia)];have z1:upI s (x+a) y (-1) a=0:=by subst es;exact if_neg (by dsimp only;lia)
 have z2:upI s (x+w-b) y 1 b=0:=by subst es;exact if_neg (by dsimp only;lia)
 have z5:upI s x (y+h-d) 1 d=0:=by subst es;exact if_neg (by dsimp only;lia)
 have z6:upI s x (y+a) 0 (y+h-d-(y+a))=0:=by subst es;exact if_neg (by dsimp only;lia)
 rw[z1,z2,z5,z6];by_cases g:max a b<h-c
 ·have z3:upI s (x+w) (y+b) 0 (y+h-c-(y+b))=1:=by subst es;exact if_pos (by dsimp only;lia)
  have z4:upI s (x+w) (y+h-c) (-1) c=0:=by subst es;exact if_neg (by dsimp only;lia)
  rw[z3,z4]
  rfl
 have z3:upI s (x+w) (y+b) 0 (y+h-c-(y+b))=0:=by subst es;exact if_neg (by dsimp only;lia)
 have z4:upI s (x+w) (y+h-c) (-1) c=1:=by subst es;exact if_pos (by dsimp only;lia)
 rw[z3,z4]
 rfl
theorem L4{l:Int}(hl:7<=l):Thr [(x,y),(x+l,y),(x,y+l)]:=by
 refine qx (x:=x) (y:=y) hl λj j0 j1=>⟨?_,⟨_,.head _,by dsimp only;lia⟩,⟨_,.tail _ (.head _),by dsimp only;lia⟩,⟨_,.head _,by dsimp only;lia⟩,_,.tail _ (.tail _ (.head _)),by dsimp only;lia⟩
 generalize es:((8*(x+j)+4,8*y+1):Pt)=s;have e2:cr s ((x+l,y),(x,y+l))=upI s (x+l) y (-1) l:=by have:=up0 (s:=s) (a:=x+l) (b:=y) (u:=-1) (k:=l) (.inr (.inr rfl)) (by lia);rwa[show x+l + -1*l=x by lia]at this
 show fS (cr s) (x,y+l) [(x,y),(x+l,y),(x,y+l)]%2=1;simp only[fS,kG,e2];rw[vdn (by lia)];have z1:upI s x y 0 (y+l-y)=0:=by subst es;exact if_neg (by dsimp only;lia)
 have z2:upI s (x+l) y (-1) l=1:=by subst es;exact if_pos (by dsimp only;lia)
 rw[z1,z2]
 rfl
theorem K6{v:Int}(h0:7<=w)(h1:0<v)(h2:v<h):Thr [(0,0),(w,0),(w,v),(u,v),(u,h),(0,h)]:=by
 refine qx (x:=0) (y:=0) h0 λj j0 j1=>⟨?_,⟨_,.head _,by dsimp only;lia⟩,⟨_,.tail _ (.head _),by dsimp only;lia⟩,⟨_,.head _,by dsimp only;lia⟩,_,.tail _ (.tail _ (.head _)),by dsimp only;omega⟩
 generalize es:((8*(0+j)+4,8*0+1):Pt)=s;show fS (cr s) (0,h) [(0,0),(w,0),(w,v),(u,v),(u,h),(0,h)]%2=1;simp only[fS,kG];rw[vdn (by lia),vup (by lia),vup (by lia)];have z1:upI s 0 0 0 (h-0)=0:=by subst es;exact if_neg (by dsimp only;lia)
 have z2:upI s w 0 0 (v-0)=1:=by subst es;exact if_pos (by dsimp only;lia)
 have z3:upI s u v 0 (h-v)=0:=by subst es;exact if_neg (by dsimp only;lia)
 rw[z1,z2,z3]
 rfl
theorem JU{v:Int}(h0:7<=w)(h1:0<v)(h2:v<h):Thr [(0,0),(w,0),(w,h),(w-u,h),(w-u,v),(u,v),(u,h),(0,h)]:=by
 refine qx (x:=0) (y:=0) h0 λj j0 j1=>⟨?_,⟨_,.head _,by dsimp only;lia⟩,⟨_,.tail _ (.head _),by dsimp only;lia⟩,⟨_,.head _,by dsimp only;lia⟩,_,.tail _ (.tail _ (.head _)),by dsimp only;lia⟩
 generalize es:((8*(0+j)+4,8*0+1):Pt)=s;show fS (cr s) (0,h) [(0,0),(w,0),(w,h),(w-u,h),(w-u,v),(u,v),(u,h),(0,h)]%2=1;simp only[fS,kG];rw[vdn (by lia),vup (by lia),vdn (by lia),vup (by lia)];have z1:upI s 0 0 0 (h-0)=0:=by subst es;exact if_neg (by dsimp only;lia)
 have z2:upI s w 0 0 (h-0)=1:=by subst es;exact if_pos (by dsimp only;lia)
 have z3:upI s (w-u) v 0 (h-v)=0:=by subst es;exact if_neg (by dsimp only;lia)
 have z4:upI s u v 0 (h-v)=0:=by subst es;exact if_neg (by dsimp only;lia)
 rw[z1,z2,z3,z4]
 rfl
theorem K4{p r:Int}(h0:7<=w)(h1:0<p)(h2:p<r)(h3:r<h):Thr [(0,0),(u,0),(u,p),(w-u,p),(w-u,0),(w,0),(w,h),(w-u,h),(w-u,r),(u,r),(u,h),(0,h)]:=by
 refine qx (x:=0) (y:=p) h0 λj j0 j1=>⟨?_,⟨_,.head _,by dsimp only;lia⟩,⟨_,.tail _ (.tail _ (.tail _ (.tail _ (.tail _ (.head _))))),by dsimp only;lia⟩,⟨_,.head _,by dsimp only;lia⟩,_,.tail _ (.tail _ (.tail _ (.tail _ (.tail _ (.tail _ (.head _)))))),by dsimp only;lia⟩
 generalize es:((8*(0+j)+4,8*p+1):Pt)=s;show fS (cr s) (0,h) [(0,0),(u,0),(u,p),(w-u,p),(w-u,0),(w,0),(w,h),(w-u,h),(w-u,r),(u,r),(u,h),(0,h)]%2=1;simp only[fS,kG];rw[vdn (by lia),vup (by lia),vdn (by lia),vup (by lia),vdn (by lia),vup (by lia)];have z1:upI s 0 0 0 (h-0)=0:=by subst es;exact if_neg (by dsimp only;lia)
 have z2:upI s u 0 0 (p-0)=0:=by subst es;exact if_neg (by dsimp only;lia)
 have z3:upI s (w-u) 0 0 (p-0)=0:=by subst es;exact if_neg (by dsimp only;lia)
 have z4:upI s w 0 0 (h-0)=1:=by subst es;exact if_pos (by dsimp only;lia)
 have z5:upI s (w-u) r 0 (h-r)=0:=by subst es;exact if_neg (by dsimp only;lia)
 have z6:upI s u r 0 (h-r)=0:=by subst es;exact if_neg (by dsimp only;lia)
 rw[z1,z2,z3,z4,z5,z6]
 rfl
theorem KC{v:Int}{q:Pt}:sgE ((u+p.1,v+p.2),(u+q.1,v+q.2))=sgE (p,q):=by unfold sgE;dsimp only;rw[show u+q.1-(u+p.1)=q.1-p.1 by lia]
theorem Ko{v:Int}{q:Pt}:cr (8*u+s.1,8*v+s.2) ((u+p.1,v+p.2),(u+q.1,v+q.2))=cr s (p,q):=by
 unfold cr;have k:crB (8*u+s.1,8*v+s.2) ((u+p.1,v+p.2),(u+q.1,v+q.2))=crB s (p,q):=by
  unfold crB;rw[KC];dsimp only;congr 1
  ·rw[decide_eq_decide];lia
  rw[decide_eq_decide,show 8*v+s.2-min (v+p.2) (v+q.2)*8=s.2-min p.2 q.2*8 by lia];have k:v+q.2<v+p.2↔q.2<p.2:=by lia
  simp only[k];by_cases g:q.2<p.2
  ·rw[if_pos g,if_pos g,if_pos g];lia
  rw[if_neg g,if_neg g,if_neg g];lia
 rw[k]
theorem Dm{v:Int}(h:Wi ps x y):Wi (ps.map λp=>((u+p.1,v+p.2):Pt)) (u+x) (v+y):=by
 obtain⟨h1,⟨p1,m1,g1⟩,⟨p2,m2,g2⟩,⟨p3,m3,g3⟩,p4,m4,g4⟩:=h;have e:∀(l:List Pt) (p:Pt),fS (cr (8*(u+x)+4,8*(v+y)+1)) (u+p.1,v+p.2) (l.map λp=>((u+p.1,v+p.2):Pt))=fS (cr (8*x+4,8*y+1)) p l:=λl=>by
  induction l with
  |nil=>exact λ_=>rfl
  |cons q l ih=>
   intro p;rw[d_,fS,fS,ih,show 8*(u+x)+4=8*u+(8*x+4) by lia,show 8*(v+y)+1=8*v+(8*y+1) by lia];exact congrArg (·+_) (Ko (s:=(8*x+4,8*y+1)))
 refine⟨?_,⟨_,y_ m1,by dsimp only;lia⟩,⟨_,y_ m2,by dsimp only;lia⟩,⟨_,y_ m3,by dsimp only;lia⟩,_,y_ m4,by dsimp only;lia⟩;refine Q8 (congrArg (·%2) ?_) h1;cases ps with
 |nil=>rfl
 |cons p l=>
  unfold m9;refine Q8 ?_ (e (p::l) ((p::l).getLastD (0,0)));rw[d_,Mo,Mo,show(l.map λp=>((u+p.1,v+p.2):Pt)).getLastD (u+p.1,v+p.2)=(u+(l.getLastD p).1,v+(l.getLastD p).2)from ?_];rw[MO,MO,List.getLast?_map];cases l.getLast? <;> rfl
theorem Hs{v:Int}(h:Thr ps):Thr (ps.map λp=>((u+p.1,v+p.2):Pt)):=by obtain⟨x,y,h1,h2,h3⟩:=h;exact⟨u+x,v+y,Dm h1,by have:=Dm (u:=u) (v:=v) h2;rwa[<-PD]at this,by have:=Dm (u:=u) (v:=v) h3;rwa[<-PD]at this⟩
theorem zR{k l b:Int}(h0:bR k x)(h1:bR l y)(h2:bR k (x+w))(h3:bR l (y+h))(h4:bR k (x+a))(h5:bR k (x+w-b))(h6:bR l (y+b))(h7:bR l (y+h-c))(h8:bR k (x+w-c))(h9:bR k (x+d))(h10:bR l (y+h-d))(h11:bR l (y+a)):inR k l (jW x y w h a b c d):=
 xi λp q=>ju (l:=pJ x y w h a b c d) ⟨⟨h4,h1⟩,⟨h5,h1⟩,⟨h2,h6⟩,⟨h2,h7⟩,⟨h8,h3⟩,⟨h9,h3⟩,⟨h0,h10⟩,⟨h0,h11⟩,trivial⟩ (yM q)
theorem yV{l:List α}{i:Int}(h0:0<=i)(h1:i<l.length):∃x,x∈l/\atI l i=some x:=by
 have h:i.toNat<l.length:=by lia
 refine⟨l[i.toNat],MG h,?_⟩;have:=jk (xs:=l) (j:=i.toNat) (b_ h);rwa[OF h0]at this
variable {ns:List Int}
theorem og(P:Int->Prop){i:Int}(h0:0<=i)(h1:i<ns.length)(hp:∀x∈ns,P x):∃v,atI (ns.map T.int) i=some (.int v)/\P v:=by obtain⟨t,m,e⟩:=yV (l:=ns.map T.int) h0 (by rw[a_];exact h1);obtain⟨v,mv,rfl⟩:=h_.mp m;exact⟨v,e,hp v mv⟩
theorem four{P:Int->Prop}(h:cs.length=4)(hp:∀v∈cs,P v):∃a b c d,cs=[a,b,c,d]/\P a/\P b/\P c/\P d:=by
 match cs,h with
 | [a,b,c,d],_=>exact⟨a,b,c,d,rfl,hp a (.head _),hp b (.tail _ (.head _)),hp c (.tail _ (.tail _ (.head _))),hp d (.tail _ (.tail _ (.tail _ (.head _))))⟩
variable {ts:List T}
theorem LU:oZ ts (some (n:Int)) none=ts.drop n:=by
 unfold oZ;rw[HT.uD,HT.zW];rcases QO n ts.length with h|h
 ·rw[NS h,Pc (by rw[MP];lia)]
 rw[Nat.min_eq_right h,Pg (c_ _),Pg h,List.take_nil]
theorem Ld{m:Int}(h:0<=m)(h2:m<ts.length):oZ ts (some m) none=ts.drop m.toNat/\oZ ts none (some m)=ts.take m.toNat:=by
 obtain⟨n,rfl⟩:=MD h;refine⟨LU,?_⟩;unfold oZ;rw[HT.uD,HT.zW,NS (by lia)]
 rfl
theorem Jb{p q:Pt}{k:T->Prop}:neS (ptP p) (ptP q) k=k (.bl (decide (p≠q))):=by unfold ptP;rw[Jy,<-decide_not];congr 2;rw[decide_eq_decide];exact not_congr ⟨λh=>ME h.1 h.2,λh=>by rw[h];exact⟨rfl,rfl⟩⟩
noncomputable def edL:List (List Pt):=[[(1,0),(1,1)],[(0,1),(1,1)],[(0,0),(0,1)],[(0,0),(1,0)]]
noncomputable def ptM(q:Qt):List Pt:=(2*q.1+1,2*q.2.1+1)::(edL.getD q.2.2 []).map λe=>(2*(q.1+e.1),2*(q.2.1+e.2))
def inM(t:Tl)(q:Qt):Bool:=(ptM q).all λp=>decide ((p.1.natAbs:Int)+p.2.natAbs<=2*(t.1+t.2.1))
theorem zu{s:Nat}(h:s<4):atI [T.lst true [.tup [.int 1,.int 0],.tup [.int 1,.int 1]],.lst true [.tup [.int 0,.int 1],.tup [.int 1,.int 1]],.lst true [.tup [.int 0,.int 0],.tup [.int 0,.int 1]],.lst true [.tup [.int 0,.int 0],.tup [.int 1,.int 0]]] (s:Int)=some (.lst true ((edL.getD s []).map ptP))/\(edL.getD s []).length=2:=by
 match s,h with
 |0,_=>exact⟨rfl,rfl⟩
 |1,_=>exact⟨rfl,rfl⟩
 |2,_=>exact⟨rfl,rfl⟩
 |3,_=>exact⟨rfl,rfl⟩
theorem CN{a b:Qt}(h:ltQ a b):ZS.ltL (vD b) (vD a)=false:=by
 unfold ltQ at h;unfold vD;rw[ZS.ltL,ZS.ltL,ZS.ltL,ZS.ltL];split
 ·split
  ·split
   ·rfl
   exact decide_eq_false (by lia)
  exact decide_eq_false (by lia)
 exact decide_eq_false (by lia)
theorem CO(h:upQ qs):uJ (j8 qs)=j8 qs:=(pC ZS.qT (QA _) (J_.mpr (h.imp CN))).symm
def mkC(r k x:Int)(m:Nat):List Qt:=t5 (λy=>cellQ (λs=>inM (r,k,0,0,0) (x,y,s)) x y) (-r) m
def mkN(r k:Int)(n:Nat):List Qt:=t5 (λx=>mkC r k x (r - -r).toNat) (-r) n
theorem tI{P:Tl->Prop}(h:tlO t)(p:P (2,1,0,0,0)/\P (3,1,0,0,0)/\P (3,2,0,0,0)/\P (4,1,0,0,0)/\P (4,2,0,0,0)/\P (4,3,0,0,0)):P (t.1,t.2.1,0,0,0):=by
 obtain⟨r,k,a,b,c⟩:=t;obtain⟨h1,h2,h3,h4⟩:=h;dsimp only at *;have e:(r=2/\k=1\/r=3/\k=1\/r=3/\k=2)\/r=4/\k=1\/r=4/\k=2\/r=4/\k=3:=by lia
 obtain⟨p1,p2,p3,p4,p5,p6⟩:=p;rcases e with (⟨rfl,rfl⟩|⟨rfl,rfl⟩|⟨rfl,rfl⟩)|⟨rfl,rfl⟩|⟨rfl,rfl⟩|⟨rfl,rfl⟩ <;> assumption
theorem mk_eq(h:tlO t):mkN t.1 t.2.1 (t.1 - -t.1).toNat=nrQ t:=tI (P:=λt=>mkN t.1 t.2.1 (t.1 - -t.1).toNat=nrQ t) h (by rfl')
variable {j:Nat}
theorem HG{r k:Int}{s:Nat}:((-r+(i:Int),-r+(j:Int),s):Qt) ∉ mkN r k i++mkC r k (-r+i) j++((p_ s).filter λs=>inM (r,k,0,0,0) (-r+i,-r+j,s)).map λs=>(-r+(i:Int),-r+(j:Int),s):=by
 intro h;unfold mkN mkC at h;rcases C'.mp h with h|h
 ·rcases C'.mp h with h|h
  ·obtain⟨k,hk,mk⟩:=qa h;obtain⟨k',_,mk'⟩:=qa mk;have:=(uE mk').1;dsimp only at this;lia
  obtain⟨k,hk,mk⟩:=qa h;have:=(uE mk).2.1;dsimp only at this;lia
 obtain⟨s',m',e⟩:=h_.mp h;have:=mo.mp (Mf.mp m').1;have:=(P1.mp (P1.mp e).2).2;dsimp only at this;omega
theorem Ir{r k:Int}{s:Nat}(hm:(r - -r).toNat<=100):(mkN r k i++mkC r k (-r+i) j++((p_ s).filter λs=>inM (r,k,0,0,0) (-r+i,-r+j,s)).map λs=>((-r+(i:Int),-r+(j:Int),s):Qt)).length<=400*i+4*j+s:=by have lc:∀x m,(mkC r k x m).length<=4*m:=λx m=>u9 (λy=>o6 _ _ _) m;have l1:(mkN r k i).length<=400*i:=u9 (λx=>G' (lc x _) (by lia)) i;have l2:=lc (-r+i) j;have l3:=Mz (λs=>inM (r,k,0,0,0) (-r+i,-r+j,s)) (p_ s);rw[B_]at l3;rw[n_,n_,a_];lia
theorem IX{K:Rb}{t:T}(h:Scr K t ns):er t=t/\isAny t=false:=by
 rcases h with rfl|⟨a,rfl,_⟩
 ·exact⟨by simp only[er,cw],rfl⟩
 exact⟨rfl,rfl⟩
theorem Bm{c:Cells}:fE (stT c n)=true:=by simp only[stT,fE,qO,aW,fD,MJ,PC]
theorem Cn(rs:List Qt):∃rs':List Qt,rs'.Perm rs/\uJ (j8 rs)=j8 rs':=by obtain⟨l,p,e⟩:=L2.B4 (nV (lt:=ZS.ltL) (j8 rs)) rs rfl;exact⟨l,p,e.symm⟩
def cbT(b o:Bool)(p:Pt):T:=if b then .lst o [.int p.1,.int p.2]else ptP p
theorem i5:er (cbT b o p)=cbT b false p:=by cases b <;> rfl
theorem bP:isAny (cbT b o p)=false:=by cases b <;> rfl
theorem bN:aK (cbT b false p)=true:=by cases b <;> rfl
theorem eF{k:T->Prop}:ixT (cbT b o p) (.int 0) k=k (.int p.1):=by cases b <;> rfl
theorem dA{k:T->Prop}:ixT (cbT b o p) (.int 1) k=k (.int p.2):=by cases b <;> rfl
noncomputable def nY(qs:List Qt)(q:Qt):List Qt:=if q∈qs then qs else qs++[q]
def addQ(qs rs:List Qt):List Qt:=rs.foldl nY qs
theorem Hv:iw (dQ qs) (kQ q) (.bl true)=dQ (nY qs q):=by
 unfold nY;by_cases h:q∈qs
 ·rw[if_pos h];unfold iw dQ;rw[if_pos,F']
  ·refine MM λk m=>?_;dsimp only[Z'];split
   ·rename_i e;rw[e]
   rfl
  exact MQ.mpr ⟨(kQ q,T.bl true),y_ (y_ h),decide_eq_true rfl⟩
 rw[if_neg h];exact tQ h
theorem Br{z:Qt}:z∈nY qs q↔z∈qs\/z=q:=by
 unfold nY;by_cases h:q∈qs
 ·rw[if_pos h];exact⟨.inl,λg=>g.elim id λe=>e▸h⟩
 rw[if_neg h,C',x_]
variable {rs:List Qt}
theorem D5:∀{qs:List Qt}{z:Qt},z∈addQ qs rs↔z∈qs\/z∈rs:=by
 induction rs with
 |nil=>intro qs z;exact⟨.inl,λh=>h.elim id λm=>by cases m⟩
 |cons q rs ih=>
  intro qs z;show z∈addQ (nY qs q) rs↔_;rw[ih,Br,i_,or_assoc]
theorem G3(h:qs.Nodup):(nY qs q).Nodup:=by
 unfold nY;by_cases g:q∈qs
 ·rw[if_pos g];exact h
 rw[if_neg g];exact MT.mpr ⟨h,by simp,λa ma b mb e=>g (by rw[<-x_.mp mb,<-e];exact ma)⟩
theorem Fo:∀{qs:List Qt},qs.Nodup->(addQ qs rs).Nodup:=by
 induction rs with
 |nil=>intro qs h;exact h
 |cons q rs ih=>intro qs h;exact ih (G3 h)
theorem DZ:(nY qs q).length<=qs.length+1:=by
 unfold nY;split
 ·lia
 rw[n_];exact c_ _
theorem uV:∀{qs:List Qt},(addQ qs rs).length<=qs.length+rs.length:=by
 induction rs with
 |nil=>intro qs;exact c_ _
 |cons q rs ih=>
  intro qs;have h1:=ih (qs:=nY qs q);have h2:=DZ (qs:=qs) (q:=q);show(addQ (nY qs q) rs).length<=_;rw[gV];lia
theorem B3(e:rs[i]?=some q):addQ qs (rs.take (i+1))=nY (addQ qs (rs.take i)) q:=by
 unfold addQ;rw[Md,e,OQ]
 rfl
def mK(M:List Qt)(ps:List Pt):List Qt:=ps.foldl (λqs p=>addQ qs (M.map (mvQ p))) []
variable {M:List Qt}
theorem AM(e:ps[i]?=some p):mK M (ps.take (i+1))=addQ (mK M (ps.take i)) (M.map (mvQ p)):=by
 unfold mK;rw[Md,e,OQ]
 rfl
theorem Jf:∀{qs:List Qt}{z:Qt},z∈ps.foldl (λqs p=>addQ qs (M.map (mvQ p))) qs↔z∈qs\/∃p∈ps,∃m∈M,z=mvQ p m:=by
 induction ps with
 |nil=>intro qs z;exact⟨.inl,λh=>h.elim id λ⟨_,m,_⟩=>by cases m⟩
 |cons p ps ih=>
  intro qs z;rw[MU,ih,D5,or_assoc];refine or_congr_right ⟨λh=>?_,λ⟨p',mp,m,mm,e⟩=>?_⟩
  ·rcases h with h|⟨p',mp,h⟩
   ·obtain⟨m,mm,e⟩:=h_.mp h;exact⟨p,.head _,m,mm,e.symm⟩
   exact⟨p',.tail _ mp,h⟩
  rcases i_.mp mp with rfl|mp
  ·exact .inl (h_.mpr ⟨m,mm,e.symm⟩)
  exact .inr ⟨p',mp,m,mm,e⟩
theorem mT{z:Qt}:z∈mK M ps↔∃p∈ps,∃m∈M,z=mvQ p m:=Jf.trans ⟨λh=>h.elim (λm=>by cases m) id,.inr⟩
theorem Kf:∀{qs:List Qt},qs.Nodup->(ps.foldl (λqs p=>addQ qs (M.map (mvQ p))) qs).Nodup:=by
 induction ps with
 |nil=>intro qs h;exact h
 |cons p ps ih=>intro qs h;exact ih (Fo h)
theorem Hr:∀{qs:List Qt},(ps.foldl (λqs p=>addQ qs (M.map (mvQ p))) qs).length<=qs.length+M.length*ps.length:=by
 induction ps with
 |nil=>intro qs;exact c_ _
 |cons p ps ih=>
  intro qs;have h1:=ih (qs:=addQ qs (M.map (mvQ p)));have h2:=uV (qs:=qs) (rs:=M.map (mvQ p));rw[a_]at h2;rw[MU,gV,PY];lia
theorem m7[DecidableEq α]{l:List α}:∀{m:List α},l.Nodup->(∀x∈l,x∈m)->l.length<=m.length:=by
 induction l with
 |nil=>exact λ_ _=>Me _
 |cons x l ih=>
  intro m nd h;obtain⟨n1,n2⟩:=E_.mp nd;have hx:=h x t_;have:=ih (m:=m.erase x) n2 λy hy=>(Oy (λe:y=x=>n1 (by rw[<-e];exact hy))).mpr (h y (j_ _ hy))
  rw[N0 hx]at this;have:=NA hx;rw[gV];lia
noncomputable def Ad(a b:List Qt):Bool:=(a.all λz=>decide (z∈b))&&b.all λz=>decide (z∈a)
theorem uB{a b:List Qt}:Ad a b=true↔∀z,z∈a↔z∈b:=by unfold Ad;rw[K_,Mk,Mk];exact⟨λh z=>⟨λm=>of_decide_eq_true (h.1 z m),λm=>of_decide_eq_true (h.2 z m)⟩,λh=>⟨λz m=>decide_eq_true ((h z).mp m),λz m=>decide_eq_true ((h z).mpr m)⟩⟩
theorem Gb{a b:List Qt}(ha:a.Nodup)(hb:b.Nodup):AY ((dQ a).map (·.1)) ((dQ b).map (·.1))=Ad a b:=by
 have e:∀l:List Qt,(dQ l).map (·.1)=l.map kQ:=λl=>by unfold dQ;rw[F'];exact List.map_id' _
 have m:∀{l:List Qt}{q:Qt},kQ q∈l.map kQ↔q∈l:=λ{l q}=>⟨λh=>by obtain⟨r,mr,e⟩:=h_.mp h;exact qB e▸mr,y_⟩
 refine NR.mpr ?_;rw[w6,uB,e,e,a_,a_];constructor
 ·rintro⟨l,h⟩ z;have sub:a ⊆ b:=λx mx=>m.mp (h _ (y_ mx));refine⟨λmx=>sub mx,λmz=>?_⟩;by_cases g:z∈a
  ·exact g
  have:=m7 (E_.mpr ⟨g,ha⟩) (m:=b) λx mx=>(i_.mp mx).elim (λe=>e▸mz) λm=>sub m;rw[gV]at this;lia
 intro h;have p:a.Perm b:=(List.perm_ext_iff_of_nodup ha hb).mpr h;refine⟨p.length_eq,λk mk=>?_⟩;obtain⟨q,mq,rfl⟩:=h_.mp mk;exact y_ ((h q).mp mq)
theorem Ke{o':Bool}{a b:List Qt}{k:T->Prop}(ha:a.Nodup)(hb:b.Nodup)(q:k (.bl (Ad a b))):JT (.dT o (dQ a)) (.dT o' (dQ b)) k:=
 ⟨_,_,_,_,rfl,rfl,by unfold dQ;simp only[F'];rfl,by unfold dQ;simp only[F'];rfl,by rw[Gb ha hb];exact q⟩
theorem Hc:(mK M ps).Nodup:=Kf NC
theorem p9{g:α->β}{p:α->Bool}{l:List α}{x:α}(h:l[i]?=some x):((l.take (i+1)).filter p).map g=((l.take i).filter p).map g++if p x=true then [g x]else []:=by rw[Md,h,Nh,z_];congr 1;show Mx g (Oe p [x])=_;rw[Mh,OA];cases p x <;> rfl
theorem Jp(h:tlO t):(nrQ t).length<=256:=tI (P:=λt=>(nrQ t).length<=256) h (by rfl')
theorem dw{kvs:List (List Key×T)}{t:T}{k:T->Prop}:A1 (.dT true kvs) (qtT q) t k=A1 (.dT true kvs) (.tup [.int q.1,.int q.2.1,.int (q.2.2:Int)]) t k:=rfl
def kP(p:Pt):List Key:=kI (lg p)
def dP(ps:List Pt):List (List Key×T):=(ps.map kP).map λk=>(k,T.bl true)
theorem pM{q r:Pt}(h:kP q=kP r):q=r:=by have h:=Bi h;unfold lg at h;simp only[Mu,and_true]at h;exact ME h.1 h.2
theorem HR:(jL (dP ps) (kP p)).isSome=decide (p∈ps):=by
 unfold dP;rw[zN];by_cases m:p∈ps
 ·rw[if_pos (y_ m),decide_eq_true m]
  rfl
 rw[if_neg λh=>?_,decide_eq_false m]
 ·rfl
 obtain⟨r,mr,e⟩:=h_.mp h;exact m (pM e▸mr)
theorem gS(ps:List Pt):erT (dP ps)=dP ps:=by
 unfold dP;induction ps with
 |nil=>rfl
 |cons a l ih=>rw[d_,d_,erT,ih];rfl
theorem bj(ps:List Pt):iF (dP ps)=true:=by
 unfold dP;induction ps with
 |nil=>rfl
 |cons a l ih=>rw[d_,d_,iF,ih];rfl
theorem tU(h:upQ qs):kq (j8 qs):=by
 refine .inr (.inl ?_);unfold j8;rw[J_];refine(h.and (Hj h)).imp λ{a b} g=>?_;cases e:ZS.ltL (vD a) (vD b)with
 |true=>rfl
 |false=>exact absurd (qB (congrArg kI (ZS.qT.tot _ _ e (CN g.1)))) g.2
noncomputable def Far(qs:List Qt)(n:Nat):Prop:=∃as:List Qt,n<=as.length/\as.Pairwise (λa b=>a.1+3<=b.1)/\∀a∈as,a∈qs
theorem EC(h:Thr ps)(g:∀x y,Wi ps x y->((x,y,3):Qt)∈qs):Far qs 3:=by
 obtain⟨x,y,h1,h2,h3⟩:=h;refine⟨[(x,y,3),(x+3,y,3),(x+6,y,3)],c_ _,?_,λa m=>?_⟩
 ·simp only[MR,i_,Mg,or_false,forall_eq_or_imp,forall_eq,N4,and_true,false_implies,implies_true];lia
 simp only[i_,Mg,or_false]at m;rcases m with rfl|rfl|rfl
 ·exact g _ _ h1
 ·exact g _ _ h2
 exact g _ _ h3
theorem Gf(h:Far qs (n+1)):0<qs.length:=by
 obtain⟨as,h1,_,h3⟩:=h;cases as with
 |nil=>exact absurd h1 (Nat.not_succ_le_zero _)
 |cons a l=>exact NA (h3 a (.head _))
variable {as:List Qt}
theorem G7(h:as.Pairwise λa b=>a.1+3<=b.1):as.length<=(as.filter λa=>decide ¬(c<=a.1/\a.1<c+3)).length+1:=by
 induction as with
 |nil=>exact Me _
 |cons a l ih=>
  obtain⟨h1,h2⟩:=MR.mp h;by_cases g:c<=a.1/\a.1<c+3
  ·rw[Mh,if_neg (by rw[decide_eq_true_iff];exact not_not_intro g),NN.mpr λb m=>decide_eq_true (by have:=h1 b m;lia)];exact c_ _
  rw[Mh,if_pos (decide_eq_true g)];exact O0 (ih h2)
theorem DL(hl:n<=as.length)(h:as.Pairwise λa b=>a.1+3<=b.1)(g:∀a∈as,¬(c<=a.1/\a.1<c+3)->a∈qs):Far qs (n-1):=
 ⟨as.filter λa=>decide ¬(c<=a.1/\a.1<c+3),by have:=G7 (c:=c) h;omega,h.sublist List.filter_sublist,λa m=>g a (Mf.mp m).1 (of_decide_eq_true (Mf.mp m).2)⟩
theorem HH(hw:0<=w):∀p∈jW x y w h 0 0 0 0,x<=p.1/\p.1<=x+w:=λp m=>by have m:=yM m;unfold pJ at m;simp only[i_,Mg,or_false]at m;rcases m with rfl|rfl|rfl|rfl|rfl|rfl|rfl|rfl <;> exact⟨by dsimp only;lia,by dsimp only;lia⟩
noncomputable def ltP(p q:Pt):Prop:=p.1<q.1\/p.1=q.1/\p.2<q.2
noncomputable def nE:List Pt:=[(1,0),(1,1),(0,1),(-1,1),(-1,0),(-1,-1),(0,-1),(1,-1)]
abbrev nx(p s:Pt):Pt:=(p.1+s.1,p.2+s.2)
noncomputable def wal(M:List Pt)(p:Pt):Bool:=nE.all λs=>decide (nx p s∈M)
theorem u0{M:List Pt}:wal M p=true↔∀s∈nE,nx p s∈M:=by unfold wal;rw[Mk];exact forall_congr' λs=>imp_congr_right λ_=>decide_eq_true_iff
def ilv(ps:List Pt):Nat->List Pt
 |0=>ps
 |n+1=>(ilv ps n).filter (wal (ilv ps n))
theorem yJ(h:p∈ilv ps (n+1)):p∈ilv ps n:=(Mf.mp h).1
theorem ud(h:p∈ilv ps n):p∈ps:=by
 induction n with
 |zero=>exact h
 |succ n ih=>exact ih (yJ h)
theorem CD:∀{p:Pt},p∈ilv ps n->(p.1+(n:Int),p.2)∈ps:=by
 induction n with
 |zero=>
  intro p h;have h:p∈ps:=h;rwa[show(p.1+((0:Nat):Int),p.2)=p from ME (MA _) rfl]
 |succ n ih=>
  intro p h;have:=ih (u0.mp (Mf.mp h).2 (1,0) (.head _));rwa[show(((nx p (1,0)).1+(n:Int),(nx p (1,0)).2):Pt)=(p.1+((n+1:Nat):Int),p.2)from ME (by dsimp only[nx];lia) (MA _)]at this
theorem level{P:Nat->Prop}(h0:P 0)(hd:∀n,P (n+1)->P n)(N:Nat)(hN:¬P N):∃d,∀j,P j↔j<=d:=by
 have down:∀i j,P (i+j)->P i:=λi j=>by
  induction j with
  |zero=>exact id
  |succ j ih=>exact λg=>ih (hd _ g)
 induction N with
 |zero=>exact absurd h0 hN
 |succ N ih=>
  by_cases g:P N
  ·refine⟨N,λj=>⟨λg2=>MF λl=>hN (down (N+1) (j-(N+1)) (by rwa[OD l])),λl=>down j (N-j) (by rwa[OD l])⟩⟩
  exact ih g
def Dp(ps:List Pt)(v:Pt->Int):Prop:=∀p∈ps,0<=v p/\v p<=20/\∀d:Int,0<=d->(d+1<=v p↔d<=v p/\∀s∈nE,nx p s∈ps/\d<=v (nx p s))
theorem KD(h:∀p∈ps,bR x p.1):∃v,Dp ps v:=by
 have out:∀{n:Nat}{p:Pt},p∈ilv ps n->n<=20:=λ{n p} g=>by have h1:=h _ (CD g);have h2:=h _ (ud g);unfold bR at h1 h2;dsimp only at h1;lia
 have key:∀p:Pt,∃d:Nat,p∈ps->∀j,p∈ilv ps j↔j<=d:=λp=>by
  by_cases m:p∈ps
  ·obtain⟨d,hd⟩:=level (P:=λj=>p∈ilv ps j) m (λn=>yJ) 21 λg=>absurd (out g) (by decide)
   exact⟨d,λ_=>hd⟩
  exact⟨0,λg=>absurd g m⟩
 obtain⟨f,hf⟩:=Y5 key;refine⟨λp=>(f p:Int),λp m=>⟨P4 _,?_,λd d0=>?_⟩⟩
 ·have:=out ((hf p m _).mpr (c_ _));dsimp only;lia
 obtain⟨d,rfl⟩:=MD d0;have e1:((d:Int)+1<=(f p:Int))↔p∈ilv ps (d+1):=by rw[hf p m];lia
 have e2:((d:Int)<=(f p:Int))↔p∈ilv ps d:=by rw[hf p m];omega
 dsimp only;rw[e1,e2];show p∈(ilv ps d).filter _↔_;rw[Mf,u0];refine and_congr_right λ_=>forall_congr' λs=>imp_congr_right λ_=>⟨λg=>⟨ud g,?_⟩,λg=>(hf _ g.1 d).mpr (by have:=g.2;lia)⟩
 have:=(hf _ (ud g) d).mp g;lia
variable {v:Pt->Int}
theorem Cb(h:Dp ps v)(m:p∈ps)(g:1<=v p)(ms:s∈nE):nx p s∈ps/\v p-1<=v (nx p s):=
 (((h p m).2.2 (v p-1) (by lia)).mp (by lia)).2 s ms
theorem Ft(h:Dp ps v)(m:p∈ps)(g:1<=v p):∃s∈nE,nx p s∈ps/\v (nx p s)=v p-1:=by
 refine SY λhn=>?_;have:=((h p m).2.2 (v p) (by lia)).mpr ⟨Q1 _,λs ms=>?_⟩
 ·lia
 have nb:=Cb h m g ms;refine⟨nb.1,Q5.mp λl=>hn ⟨s,ms,nb.1,by have:=nb.2;lia⟩⟩
noncomputable def nr(n:Int)(p q:Pt):Prop:=(p.1-q.1<=n/\q.1-p.1<=n)/\p.2-q.2<=n/\q.2-p.2<=n
theorem M6(h:s∈nE):(s.1<=1/\-1<=s.1)/\s.2<=1/\-1<=s.2:=by
 revert s
 decide
theorem GP{b:Int}(ha:-1<=a/\a<=1)(hb:-1<=b/\b<=1)(h:¬(a=0/\b=0)):((a,b):Pt)∈nE:=by
 have ea:a=-1\/a=0\/a=1:=by lia
 have eb:b=-1\/b=0\/b=1:=by lia
 rcases ea with rfl|rfl|rfl <;> rcases eb with rfl|rfl|rfl <;> first|decide|exact absurd ⟨rfl,rfl⟩ h
theorem yt(h:Dp ps v)(n:Nat):∀{p:Pt},p∈ps->(n:Int)<=v p->∃q∈ps,v q=v p-n/\nr n p q:=by
 induction n with
 |zero=>exact λ{p} m _=>⟨p,m,(Int.sub_zero _).symm,by unfold nr;lia⟩
 |succ n ih=>
  intro p m g;obtain⟨s,ms,m1,e1⟩:=Ft h m (by lia);obtain⟨q,mq,eq,hq⟩:=ih m1 (by lia);refine⟨q,mq,by lia,?_⟩;have:=M6 ms;unfold nr nx at *;dsimp only at *;lia
noncomputable def sg(a b:Int):Int:=if a<b then 1 else if b<a then -1 else 0
theorem Hf(a b:Int):-1<=sg a b/\sg a b<=1:=by unfold sg;lia
theorem Kw{b:Int}(h:sg a b=0):a=b:=by unfold sg at h;lia
theorem GK{b:Int}(g:a-b<=((n+1:Nat):Int)/\b-a<=((n+1:Nat):Int)):a+sg a b-b<=n/\b-(a+sg a b)<=n:=by unfold sg;lia
theorem Ji{q:Pt}(h:Dp ps v)(n:Nat):∀{p:Pt},p∈ps->(n:Int)<=v p->nr n p q->q∈ps/\v p-n<=v q:=by
 induction n with
 |zero=>
  intro p m _ g;unfold nr at g;cases show p=q from ME (by lia) (by lia);exact⟨m,by lia⟩
 |succ n ih=>
  intro p m g0 g;by_cases e:p=q
  ·subst e;exact⟨m,by lia⟩
  obtain⟨m1,e1⟩:=Cb h m (by lia) (GP (Hf p.1 q.1) (Hf p.2 q.2) λz=>e (ME (Kw z.1) (Kw z.2)));obtain⟨mq,eq⟩:=ih m1 (by lia) ⟨GK g.1,GK g.2⟩;exact⟨mq,by lia⟩
noncomputable def shQ(a:Int):Int:=if 1<=a then a-1 else if a<=-2 then a+1 else a
def TF(t:Tl):Prop:=(∀m∈nrQ t,m.2.2<4/\(-5<=m.1/\m.1<=4)/\(-5<=m.2.1/\m.2.1<=4)/\(shQ m.1,shQ m.2.1,m.2.2)∈nrQ t)/\∀i∈p_ (2*((t.1+t.2.1)/2)).toNat,∀j∈p_ (2*((t.1+t.2.1)/2)).toNat,∀s∈p_ 4,(((i:Int)-(t.1+t.2.1)/2,(j:Int)-(t.1+t.2.1)/2,s):Qt)∈nrQ t
theorem yI(h:tlO t):TF t:=tI (P:=TF) h (by unfold TF;refine⟨?_,?_,?_,?_,?_,?_⟩ <;> rfl')
theorem GV{N:Nat}(h:-1-((N+1:Nat):Int)<=a/\a<=((N+1:Nat):Int)):-1-(N:Int)<=shQ a/\shQ a<=N:=by unfold shQ;omega
theorem Kv(a:Int):-1<=a-shQ a/\a-shQ a<=1:=by unfold shQ;omega
theorem JN{N:Nat}(e:a-shQ a=0):-1-(N:Int)<=a/\a<=N:=by unfold shQ at e;lia
theorem zC{n p q:Int}(h1:-1<=a/\a<=0)(hn:n<h)(g:p-q<=n/\q-p<=n):0<=a+(p-q)+h/\(a+(p-q)+h).toNat<(2*h).toNat:=by lia
theorem Kx{q:Pt}{m:Qt}:mvQ p m=mvQ q (m.1+(p.1-q.1),m.2.1+(p.2-q.2),m.2.2):=by unfold mvQ;exact ME (by dsimp only;lia) (ME (by dsimp only;lia) rfl)
theorem EE{q:Pt}{m:Qt}{n:Int}(h:tlO t)(hm:m∈nrQ t)(h1:-1<=m.1/\m.1<=0)(h2:-1<=m.2.1/\m.2.1<=0)(hn:n<(t.1+t.2.1)/2)(g:nr n p q):∃m'∈nrQ t,mvQ p m=mvQ q m':=by refine⟨_,?_,Kx⟩;unfold nr at g;have a1:=zC h1 hn g.1;have a2:=zC h2 hn g.2;have f:=(yI h).2 _ (mo.mpr a1.2) _ (mo.mpr a2.2) m.2.2 (mo.mpr ((yI h).1 m hm).1);rwa[OF a1.1,OF a2.1,P5,P5]at f
theorem cover{R:Pt->Prop}(h:Dp ps v)(ht:tlO t)(h0:∀p∈ps,v p=0->R p)(hr:∀p∈ps,∃n:Nat,(n:Int)<(t.1+t.2.1)/2/\(n:Int)<=v p/\∀q∈ps,v q=v p-n->R q)(N:Nat):∀{p:Pt}{m:Qt},p∈ps->m∈nrQ t->(-1-(N:Int)<=m.1/\m.1<=N)->(-1-(N:Int)<=m.2.1/\m.2.1<=N)->∃q,R q/\∃m'∈nrQ t,mvQ p m=mvQ q m':=by
 induction N with
 |zero=>
  intro p m mp mm h1 h2;obtain⟨n,n1,n2,n3⟩:=hr p mp;obtain⟨q,mq,eq,g⟩:=yt h n mp n2;exact⟨q,n3 q mq eq,EE ht mm (by lia) (by lia) n1 g⟩
 |succ N ih=>
  intro p m mp mm h1 h2;by_cases z:v p=0
  ·exact⟨p,h0 p mp z,m,mm,rfl⟩
  have hv:=(h p mp).1;by_cases e:m.1-shQ m.1=0/\m.2.1-shQ m.2.1=0
  ·exact ih mp mm (JN e.1) (JN e.2)
  obtain⟨m1,_⟩:=Cb h mp (by lia) (GP (a:=m.1-shQ m.1) (b:=m.2.1-shQ m.2.1) (Kv _) (Kv _) e);obtain⟨q,hq,m',mm',e'⟩:=ih m1 ((yI ht).1 m mm).2.2.2 (GV h1) (GV h2);refine⟨q,hq,m',mm',?_⟩;rw[<-e'];unfold mvQ nx;exact ME (by dsimp only;lia) (ME (by dsimp only;lia) rfl)
noncomputable def lay(v:Pt->Int)(ps:List Pt)(k:Int):List Pt:=ps.filter λq=>decide (v q=k)
theorem jt{k:Int}:p∈lay v ps k↔p∈ps/\v p=k:=by unfold lay;rw[Mf,decide_eq_true_iff]
noncomputable def apA(p q:Pt):Int:=max ((p.1-q.1).natAbs:Int) ((p.2-q.2).natAbs:Int)
theorem JI(h0:0<=x)(h1:x<31):bd 15 (x-15):=⟨by lia,by lia⟩
theorem nab{b n:Int}:((a-b).natAbs:Int)<=n↔a-b<=n/\b-a<=n:=by omega
theorem GF{q:Pt}{n:Int}:apA p q<=n↔nr n p q:=by unfold apA nr;rw[Int.max_le,nab,nab]
theorem DB{w:Nat}(h:Dp ps v)(m:p∈ps)(hw:(w:Int)<=v p):(∀q∈lay v ps (v p-w),(w:Int)<=apA p q)/\∃q∈lay v ps (v p-w),apA p q=w:=by
 have lo:∀q∈lay v ps (v p-w),(w:Int)<=apA p q:=λq mq=>by
  have eq:=(jt.mp mq).2;refine Q5.mp λl=>?_;have a0:0<=apA p q:=by unfold apA;lia
  obtain⟨n,en⟩:=MD a0;have:=(Ji h n m (by lia) (GF.mp (Int.le_of_eq en))).2;lia
 obtain⟨q,mq,eq,g⟩:=yt h w m hw;have mq:=jt.mpr ⟨mq,eq⟩;exact⟨lo,q,mq,Int.le_antisymm (GF.mpr g) (lo q mq)⟩
theorem Iw(nd:ps.Nodup)(h:∀p∈ps,bR x p.1/\bR y p.2):ps.length<=441:=by
 have:=m7 (m:=(p_ 21).flatMap λ(i:Nat)=>(p_ 21).map λ(j:Nat)=>((x+i,y+j):Pt)) nd λp m=>by obtain⟨h1,h2⟩:=h p m;unfold bR at h1 h2;exact Qn.mpr ⟨(p.1-x).toNat,mo.mpr (by lia),h_.mpr ⟨(p.2-y).toNat,mo.mpr (by lia),ME (by dsimp only;lia) (by dsimp only;lia)⟩⟩
 rw[List.length_flatMap]at this;simp only[a_,B_]at this;exact G' this (by decide)
noncomputable def ilw(ps:List Pt)(v:Pt->Int)(d:Int):List Pt:=ps.filter λq=>decide (d<=v q)
theorem ny:p∈ilw ps v d↔p∈ps/\d<=v p:=by unfold ilw;rw[Mf,decide_eq_true_iff]
theorem DQ(h:Dp ps v):ilw ps v 0=ps:=by unfold ilw;exact NN.mpr λq m=>decide_eq_true (h q m).1
theorem DJ(h:Dp ps v)(hd:0<=d):(ilw ps v d).filter (wal (ilw ps v d))=ilw ps v (d+1):=by
 have e:ilw ps v (d+1)=ps.filter λq=>decide (d+1<=v q):=rfl;rw[e]
 conv=>lhs;arg 2;unfold ilw
 rw[List.filter_filter];refine N7 λq m=>?_;rw[NR,K_,decide_eq_true_iff,decide_eq_true_iff,u0,(h q m).2.2 d hd,and_comm];exact and_congr_right λ_=>forall_congr' λs=>imp_congr_right λ_=>ny
theorem few(c:Int)(h:∀z∈ns,bR c z):∃bs:List Int,bs.length<64/\∀z∈ns,z∈bs:=
 ⟨(p_ 21).map λ(j:Nat)=>c+j,by rw[a_,B_];decide,λz m=>h_.mpr ⟨(z-c).toNat,mo.mpr (by have:=h z m;unfold bR at this;lia),by have:=h z m;unfold bR at this;lia⟩⟩
theorem CK(nd:ps.Nodup)(h:∀p∈ps,(p.1,p.2,0)∈rs):ps.length<=rs.length:=by
 have:=m7 (l:=ps.map λp=>((p.1,p.2,0):Qt)) (m:=rs) (J_.mpr (nd.imp λ{a b} g e=>g (by
  simp only[Prod.mk.injEq,and_true]at e;exact ME e.1 e.2))) λz m=>by
  obtain⟨p,mp,rfl⟩:=h_.mp m;exact h p mp
 rwa[a_]at this
theorem Jh(h:tlO t):(0,0,0)∈nrQ t:=tI (P:=λt=>(0,0,0)∈nrQ t) h (by rfl')
variable {m:Nat}{xs:List Pt}
theorem vc{cs:List Pt}{f w:Nat}(hv:Dp ps v)(ht:tlO t)(f1:(f:Int)<=(t.1+t.2.1)/2)(w0:1<=w)(w1:(w:Int)<=(t.1+t.2.1)/2)(h0:1<=(t.1+t.2.1)/2)(hm:∀q∈ps,v q<f+m*w)(x2:∀q,q∈xs↔q∈ps/\∃j:Nat,j<m/\v q=f+j*w)(hc:∀p,p∈cs↔p∈ps):Ad (mK (nrQ t) (lay v ps 0++xs)) (mK (nrQ t) cs)=true:=by
 refine uB.mpr λz=>⟨λh=>?_,λh=>?_⟩
 ·obtain⟨p,mp,m',mm,e⟩:=mT.mp h;refine mT.mpr ⟨p,(hc p).mpr ?_,m',mm,e⟩;rcases C'.mp mp with g|g
  ·exact(jt.mp g).1
  exact((x2 p).mp g).1
 obtain⟨p,mp,m',mm,rfl⟩:=mT.mp h;obtain⟨_,b1,b2,_⟩:=(yI ht).1 m' mm;have hr:∀p∈ps,∃n:Nat,(n:Int)<(t.1+t.2.1)/2/\(n:Int)<=v p/\∀q∈ps,v q=v p-n->q∈lay v ps 0++xs:=λp mp=>by
  have v0:=(hv p mp).1;by_cases g:v p<f
  ·exact⟨(v p).toNat,by lia,by lia,λq mq eq=>K' _ (jt.mpr ⟨mq,by lia⟩)⟩
  have wp:(0:Int)<w:=by lia
  have d1:=Ny (v p-f) (Int.ne_of_gt wp);have d2:=Ng (v p-f) wp;have d3:=Int.mul_ediv_add_emod (v p-f) w;have d4:0<=(v p-f)/w:=Int.ediv_nonneg (by lia) (by lia);obtain⟨j,ej⟩:=MD d4;rw[ej,O5]at d3;have d6:0<=(j:Int)*w:=QB (by lia) (by lia);refine⟨((v p-f)%w).toNat,by lia,by lia,λq mq eq=>u_ _ ((x2 q).mpr ⟨mq,j,?_,by lia⟩)⟩;have:=hm p mp;have h3:(j:Int)*w<m*w:=by lia
  have:=Int.lt_of_mul_lt_mul_right h3 (by lia);lia
 obtain⟨q,hq,m2,mm2,e⟩:=cover hv ht (λp m e=>K' _ (jt.mpr ⟨m,e⟩)) hr 4 ((hc p).mp mp) mm (by lia) (by lia);exact mT.mpr ⟨q,hq,m2,mm2,e⟩
theorem Ho{k:Int}(h:ps.Nodup):(lay v ps k).Nodup:=h.filter _
theorem Ee{f w:Nat}(nd:ps.Nodup)(w0:1<=w)(x1:xs.Nodup)(x2:∀q,q∈xs↔q∈ps/\∃i:Nat,i<j/\v q=f+i*w):(xs++lay v ps (f+j*w)).Nodup/\∀q,q∈xs++lay v ps (f+j*w)↔q∈ps/\∃i:Nat,i<j+1/\v q=f+i*w:=by
 refine⟨MT.mpr ⟨x1,Ho nd,λa ma b mb e=>?_⟩,λq=>?_⟩
 ·subst e;obtain⟨_,i,hi,e1⟩:=(x2 a).mp ma;have e2:=(jt.mp mb).2;have e3:(i:Int)*w=j*w:=by omega
  have:=Int.eq_of_mul_eq_mul_right (by lia) e3;lia
 rw[C',x2,jt];constructor
 ·rintro(⟨m,i,hi,e⟩|⟨m,e⟩)
  ·exact⟨m,i,Ms hi,e⟩
  exact⟨m,j,MI j,e⟩
 rintro⟨m,i,hi,e⟩;rcases O6.mp hi with hi|rfl
 ·exact .inl ⟨m,i,hi,e⟩
 exact .inr ⟨m,e⟩
theorem B6{f w:Nat}(hv:Dp ps v):∀i l l',((p_ m).map λ(i:Nat)=>lay v ps (f+i*w))[i]?=some l->((p_ m).map λ(i:Nat)=>lay v ps (f+i*w))[i+1]?=some l'->∀p∈l',(∀q∈l,(w:Int)<=apA p q)/\∃q∈l,apA p q=w:=by
 intro i l l' e e' p mp;have at':∀{i:Nat}{l:List Pt},((p_ m).map λ(i:Nat)=>lay v ps (f+i*w))[i]?=some l->l=lay v ps (f+i*w):=λ{i l} e=>by
  rw[o_]at e;cases hr:(p_ m)[i]? with
  |none=>rw[hr]at e;cases e
  |some k=>
   obtain⟨hi,ek⟩:=e_.mp hr;rw[P6]at ek;subst ek;rw[hr]at e;exact(H_ e).symm
 rw[at' e']at mp;rw[at' e];obtain⟨m1,e1⟩:=jt.mp mp;have e2:((i+1:Nat):Int)*w=i*w+w:=by rw[Qx,Qc];lia
 have n0:(0:Int)<=i*w:=QB (by lia) (by lia);have:=DB hv m1 (w:=w) (by lia);rwa[show v p-w=f+i*w by lia]at this
theorem Ht(h:∀q,q∈rs↔q∈qs)(h0:(0,0,0)∈M)(p:Pt):((p.1,p.2,0)∈rs/\∀m∈M,mvQ p m∈rs)↔∀m∈M,mvQ p m∈qs:=by refine⟨λg m mm=>(h _).mp (g.2 m mm),λg=>⟨(h _).mpr ?_,λm mm=>(h _).mpr (g m mm)⟩⟩;have:=g _ h0;unfold mvQ at this;rwa[MA,MA]at this
theorem Dk{f w:Nat}(hv:Dp ps v)(w0:1<=w)(h:∀i,i<m->∃q∈ps,(f+i*w:Int)<=v q):m<10000:=by
 cases m with
 |zero=>decide
 |succ m=>
  obtain⟨q,mq,e⟩:=h m (MI m);have h1:=(hv q mq).2.1;have h2:(m:Int)*1<=m*w:=Int.mul_le_mul_of_nonneg_left (by lia) (by lia);lia
theorem JO{a b:Pt}(h:ltP a b):ZS.ltL (lg a) (lg b)=true:=by
 unfold ltP at h;unfold lg;rw[ZS.ltL,ZS.ltL,ZS.ltL];split
 ·split
  ·lia
  exact decide_eq_true (by lia)
 exact decide_eq_true (by lia)
theorem Jw{a b:Pt}(h:ltP a b):ZS.ltL (lg b) (lg a)=false:=by
 unfold ltP at h;unfold lg;rw[ZS.ltL,ZS.ltL,ZS.ltL];split
 ·split
  ·rfl
  exact decide_eq_false (by lia)
 exact decide_eq_false (by lia)
theorem pU(h:ps.Pairwise ltP):ps.Nodup:=h.imp λ{a b} g e=>by subst e;unfold ltP at g;lia
theorem y9{l:List Int}(h:l.Pairwise (·<·))(e:l[i]?=some x)(m:y∈l.take i):y<x:=by obtain⟨j,hj,ej⟩:=OV.mp m;obtain⟨hi,e⟩:=e_.mp e;have:=MN.mp h j i (by lia) hi (by lia);rwa[ej,e]at this
theorem HE(h:ps.Pairwise ltP):kq (ps.map lg):=.inr (.inl (J_.mpr (h.imp JO)))
theorem JJ(h:ps.Pairwise ltP):uJ (ps.map lg)=ps.map lg:=(pC ZS.qT (QA _) (J_.mpr (h.imp Jw))).symm
theorem Ct(ps:List Pt):(ps.map lg).map iT=ps.map ptP:=by
 rw[F']
 rfl
theorem CV(ps:List Pt):rowsOf (ps.map ptP)=some (ps.map lg):=by rw[<-Ct];exact wJ (zE ps)
theorem Gm(h:ps.Nodup):(ps.map lg).Nodup:=J_.mpr (h.imp λ{a b} g e=>g (by unfold lg at e;simp only[Mu,and_true]at e;exact ME e.1 e.2))
def vt(ks:List Pt)(f:Pt->Int):List (List Key×T):=ks.map λq=>(kP q,.int (f q))
variable {f:Pt->Int}{ks:List Pt}
theorem gu:erT (vt ks f)=vt ks f:=by
 unfold vt;induction ks with
 |nil=>rfl
 |cons p ks ih=>rw[d_,erT,ih];rfl
theorem ck:iF (vt ks f)=true:=by
 unfold vt;induction ks with
 |nil=>rfl
 |cons p ks ih=>rw[d_,iF,ih];rfl
theorem BK:(vt ks f).length=ks.length:=a_ ..
theorem CW{q:Pt}:((vt ks f).any λkv=>decide (kv.1=kP q))=decide (q∈ks):=by
 rw[NR,MQ,decide_eq_true_iff];constructor
 ·rintro⟨kv,m,e⟩;obtain⟨p,hp,rfl⟩:=h_.mp m;rw[<-pM (of_decide_eq_true e)];exact hp
 exact λm=>⟨_,h_.mpr ⟨q,m,rfl⟩,decide_eq_true rfl⟩
variable {g:Pt->Int}
theorem pR(h:∀q∈ks,f q=g q):vt ks f=vt ks g:=MM λq m=>by rw[h q m]
theorem Jz(h:p ∉ ks):iw (vt ks f) (kP p) (.int (f p))=vt (ks++[p]) f:=by
 unfold iw;rw[CW,if_neg (by rw[decide_eq_true_iff];exact h)];unfold vt;rw[z_]
 rfl
theorem IU(h:p∈ks)(hg:∀q,q≠p->f q=g q):iw (vt ks f) (kP p) (.int (g p))=vt ks g:=by
 unfold iw;rw[CW,if_pos (by rw[decide_eq_true_iff];exact h)];unfold vt;rw[F'];refine MM λq _=>?_;show(if kP q=kP p then(kP q,T.int (g p))else(kP q,T.int (f q)))=_;by_cases e:q=p
 ·rw[e,if_pos rfl]
 rw[if_neg (λz=>e (pM z)),hg q e]
theorem Iq{q:Pt}(m:q∈ks):jL (vt ks f) (kP q)=some (.int (f q)):=by
 unfold jL vt;induction ks with
 |nil=>cases m
 |cons p ks ih=>
  rw[d_,Mq];by_cases h:p=q
  ·subst h;rw[decide_eq_true (by rfl)]
   rfl
  rw[decide_eq_false (λz=>h (pM z))];exact ih ((i_.mp m).resolve_left λz=>h z.symm)
theorem G2:(vt ks f).map (·.1)=(ks.map lg).map kI:=by
 unfold vt;rw[F',F']
 rfl
def prV(v:Pt->Int)(q:Pt):T:=.tup [ptP q,.int (v q)]
theorem iX{k:T->Prop}:ixT (.dT o (vt ks f)) (ptP p) k=i6 (jL (vt ks f) (kP p)) (k:=⟨k⟩):=rfl
noncomputable def csP(s:Pt):T:=.cst [.int s.1,.int s.2]
theorem hC{k:T->Prop}:ixT (csP s) (.int 0) k=k (.int s.1):=rfl
theorem gx{k:T->Prop}:ixT (csP s) (.int 1) k=k (.int s.2):=rfl
theorem cU:isAny (csP s)=false:=rfl
theorem iU:er (csP s)=csP s:=rfl
theorem cS:aK (csP s)=true:=rfl
theorem Dn:[T.cst [T.int 1,T.int 0],T.cst [T.int 1,T.int 1],T.cst [T.int 0,T.int 1],T.cst [T.int (-1),T.int 1],T.cst [T.int (-1),T.int 0],T.cst [T.int (-1),T.int (-1)],T.cst [T.int 0,T.int (-1)],T.cst [T.int 1,T.int (-1)]]=nE.map csP:=rfl
theorem FT(ps:List Pt):pairsOf (ps.map λp=>T.tup [ptP p,.bl true])=some (dP ps):=by
 induction ps with
 |nil=>rfl
 |cons a l ih=>rw[d_,pairsOf,ih];rfl
theorem Ay:∀(r a:List (List Key×T)),((a++r).map (·.1)).Nodup->r.foldl (λa x=>iw a x.1 x.2) a=a++r:=λr=>by
 induction r with
 |nil=>exact λa _=>(L' a).symm
 |cons x r ih=>
  intro a h;have e:iw a x.1 x.2=a++[x]:=by unfold iw;rw[if_neg];intro g;obtain⟨y,my,ey⟩:=MQ.mp g;rw[z_]at h;exact(Nl.mp h).2.2 y.1 (y_ my) x.1 (.head _) (of_decide_eq_true ey)
  rw[MU,e,ih (a++[x]) (by rw[w_];exact h),w_]
  rfl
theorem KY(h:ps.Nodup):(ps.map kP).Nodup:=J_.mpr (h.imp λg e=>g (pM e))
theorem K3(h:ps.Nodup):putAll (dP ps)=dP ps:=by refine Ay _ [] ?_;unfold dP;rw[MZ,F'];exact(Pb _).symm▸KY h
theorem Gu{k:T->Prop}(h:ps.Nodup)(q:k (.dT true (dP ps))):CQ [.lst true (ps.map λp=>T.tup [ptP p,.bl true])] k:=by show got (pairsOf _) _;rw[FT];exact⟨bj ps,by rw[K3 h];exact q⟩
theorem cN(ps:List Pt):lT (dP ps)=true:=by
 unfold dP;induction ps with
 |nil=>rfl
 |cons a l ih=>rw[d_,d_,lT,ih];rfl
theorem sk{p:α->Bool}{l:List α}{x:α}(h:l[i]?=some x):(l.take (i+1)).filter p=(l.take i).filter p++if p x=true then [x]else []:=by rw[Md,h,Nh];congr 1;show Oe p [x]=_;rw[Mh,OA]
def lyr(v:Pt->Int)(l:List Pt)(n:Nat):List (List Pt):=(p_ n).map λ(k:Nat)=>lay v l k
def lyI(l:List Pt):T:=.lst true (l.map ptP)
theorem gy{l:List Pt}:er (lyI l)=.lst false (l.map ptP):=by unfold lyI;rw[er,cw];rfl
theorem DY{l:List Pt}(g:∀q∈l,v q<n):lyr v l (n+1)=lyr v l n++[[]]:=by unfold lyr lay;rw[Nj,z_];congr 1;rw[List.map_singleton,Pe.mpr];intro q m;rw[decide_eq_true_iff];have:=g q m;lia
theorem FX{l:List Pt}{d:Nat}(hd:v p=d)(hn:d<n):lyr v (l++[p]) n=(lyr v l n).set d (lay v l d++[p]):=by
 refine N6 λi=>?_;unfold lyr lay;by_cases hi:i<n
 ·rw[o_,Mw hi];by_cases e:d=i
  ·subst e;rw[N8 (by rw[a_,B_];exact hn)];show some (Oe (λq=>decide (v q=(d:Int))) (l++[p]))=some _;rw[Nh,Mh,if_pos (decide_eq_true hd)]
   rfl
  rw[Nk e,o_,Mw hi];show some (Oe (λq=>decide (v q=(i:Int))) (l++[p]))=some _;rw[Nh,Mh,if_neg (by rw[decide_eq_true_iff,hd];lia),OA,L']
 rw[Mj (by rw[a_,B_];lia),Mj (by rw[Mc,a_,B_];lia)]
theorem J5{l:List Pt}{d:Nat}(hn:d<n):(lyr v l n)[d]?=some (lay v l d):=by
 unfold lyr;rw[o_,Mw hn]
 rfl
theorem tN{l:List Pt}:(lyr v l n).length=n:=by unfold lyr;rw[a_,B_]
theorem eP{gs:oD}{q:Pt}{k:Ev->Prop}:gTp n gs (prV v q) env k=gTp n gs (.tup [ptP q,.int (v q)]) env k:=rfl
theorem gE{q:Pt}:er (prV v q)=prV v q:=rfl
theorem cB{q:Pt}:fE (prV v q)=true:=rfl
theorem F6{f:α->Option β}{g:α->β}{l:List α}(e:∀x∈l,f x=some (g x)):l.filterMap f=l.map g:=by
 induction l with
 |nil=>rfl
 |cons x l ih=>
  rw[Nu,e x (t_ ..),ih λy m=>e y (j_ _ m)]
  rfl
theorem FZ{f:Nat->α}{a b:Nat}(hb:1<=b)(h1:∀i,i<m->a+i*b<n)(h2:¬a+m*b<n):ij ((p_ n).map f) (a:Int) (b:Int)=(p_ m).map λi=>f (a+i*b):=by
 unfold ij Wy;have hl:((p_ n).map f).length=n:=by rw[a_,B_]
 rw[hl,if_pos (show(b:Int) > 0 by lia)];have ec:(if max 0 (min (a:Int) n)<(n:Int)then((n:Int)-max 0 (min (a:Int) n)+b-1)/b else 0).toNat=m:=by
  cases m with
  |zero=>
   rw[QU]at h2;rw[if_neg (by lia)]
   rfl
  |succ m=>
   have h3:=h1 m (MI m);have h4:=h1 0 (Nt m);rw[QU]at h4;rw[Q2,OG]at h2;have em:max 0 (min (a:Int) n)=a:=by lia
   have ep:((m*b:Nat):Int)=(m:Int)*b:=NT m b;rw[em,if_pos (by lia)];have e1:(m:Int)+1<=((n:Int)-a+b-1)/b:=(Int.le_ediv_iff_mul_le (by lia)).mpr (by rw[Qc,Int.one_mul];lia);have e2:((n:Int)-a+b-1)/b<(m:Int)+2:=(Int.ediv_lt_iff_lt_mul (by lia)).mpr (by rw[Qc];lia);lia
 dsimp only;rw[ec,PK];refine F6 λi mi=>?_;have hi:=h1 i (mo.mp mi);have ep:((i*b:Nat):Int)=(b:Int)*i:=by rw[NT,O5]
 show((p_ n).map f)[(max 0 (min (a:Int) n)+(b:Int)*i).toNat]?=_;rw[show(max 0 (min (a:Int) n)+(b:Int)*i).toNat=a+i*b by omega,o_,Mw hi]
 rfl
theorem FO{w:Nat}(hw:0<w)(n f:Nat):∃m,(∀i,i<m->f+i*w<n)/\¬f+m*w<n:=by
 induction n with
 |zero=>exact⟨0,λi h=>absurd h (Na i),Na _⟩
 |succ n ih=>
  obtain⟨m,h1,h2⟩:=ih;by_cases g:f+m*w<n+1
  ·refine⟨m+1,λi h=>?_,?_⟩
   ·rcases O6.mp h with h|rfl
    ·exact Ms (h1 i h)
    exact g
   rw[Q2,OG];lia
  exact⟨m,λi h=>Ms (h1 i h),g⟩
theorem Cp{g:α->T}{l:List α}{j:Int}{x:α}(e:l[i]?=some x)(hj:j=i):atI (l.map g) j=some (g x):=by
 subst hj;have hi:=(e_.mp e).1;unfold atI ixN;rw[a_,if_pos (by lia),if_pos (by lia)];show(l.map g)[(i:Int).toNat]?=_;rw[Mr,o_,e]
 rfl
noncomputable def lK:=@Mp.Jb
noncomputable def lL:=@PL.aI
end Mp
local macro_rules | `(tactic| walk_at "go")=>do
 let l<-("!PL.iY !PL.gH !PL.j6 !PL.eQ !PL.hW !PL.gW !PL.dR !PL.gm !PL.eI !PL.dD !PL.bY !PL.eR !PL.cI !PL.fq !PL.hZ !PL.dE !PL.cV !PL.fj !PL.dG !PL.gX !PL.eJ !PL.fx !PL.dN !PL.fA !PL.cL !PL.cQ !PL.fW !PL.eZ !PL.eW !PL.cP !PL.dy !PL.cY !PL.dC !PL.gQ !PL.eX !PL.dY !PL.fZ !PL.dX !PL.fw !PL.bW !PL.eD !PL.jb !PL.dH !PL.cR !PL.dJ !PL.cG !PL.f7 !PL.gU !PL.fX !PL.hJ !PL.gL !PL.fV !PL.hV !PL.gp !PL.eN !PL.du !PL.eS !PL.dS !PL.dB !PL.eB !PL.cW !PL.gK !PL.gj !PL.gB !PL.gf !PL.gI !PL.gM !PL.fv !PL.eC !PL.fo !PL.gG !PL.fU !PL.cZ !PL.gv !PL.hX !PL.g9 !PL.gc !PL.fY !PL.gR !PL.gA !PL.i4 !PL.cC !PL.gC !PL.j3 !PL.g6 !PL.gD !PL.aX !PL.ba !PL.aQ !PL.f9 PL.gJ PL.dF PL.cE PL.cA PL.j4 PL.ja PL.iS PL.iW PL.iV PL.j9 PL.jc PL.jf PL.bH PL.cu PL.bo PL.dO PL.cw PL.fB PL.aR PL.aI PL.aW PL.bz PL.fD PL.bI PL.cf PL.bT PL.bZ PL.cM PL.dZ PL.bA PL.bO PL.bU PL.er PL.erL PL.aK PL.aY PL.fE PL.df PL.lend PL.back PL.outs PL.frA PL.lB d_ NW gV NP a_ Nc MS List.set_cons_zero OH B' Ml MZ List.zipWith_cons_cons List.zipWith_nil_left List.zipWith_nil_right decide_eq_true_eq decide_true ON Pn MJ Bool.and_self true_and Option.map_some My Nat.sub_self PySem.sizeLine_eq PL.Th.v if_true if_false Mp.dM Nat.reduceAdd Nat.reduceSub Nat.reduceLeDiff Mp.gP Mp.cH Mp.bE Mp.bJ !Mp.eK !Mp.eU !Mp.eE Mp.gY Mp.cF Mp.bV Mp.bK !Mp.fy !Mp.fu !Mp.eM !Mp.dW Mp.aL Mp.gZ Mp.cD Mp.bD Mp.bQ !Mp.hU Mp.cT Mp.fL Mp.bX Mp.cg !Mp.e9 !Mp.eY Mp.fJ Mp.bS Mp.bB !Mp.eG Mp.fN Mp.bG Mp.bC Mp.bM !PL.eO !PL.iZ Mp.j7 Mp.gF Mp.bF Mp.cO !PL.eV !Mp.cJ !PL.cj PL.dU !PL.eA !PL.dq Mp.i5 Mp.bP Mp.bN !Mp.eF !Mp.dA !Mp.dw !PL.aP !PL.cK Mp.gS Mp.bj !PL.fg Mp.gu Mp.ck !Mp.iX !Mp.hC !Mp.gx Mp.cU Mp.iU Mp.cS Mp.cN !Mp.eP Mp.gE Mp.cB Mp.gy !PL.cX !PL.j5 !Mp.lK Mp.lL".splitOn " ").toArray.mapM λs=>let i:Lean.Ident:=Lean.mkIdent (s.replace "!" "").toName;if s.front=='!' then `(Lean.Parser.Tactic.simpLemma|↓$i:ident) else `(Lean.Parser.Tactic.simpLemma|$i:ident)
 `(tactic| simp only[$l,*])
local macro_rules | `(tactic| nofun)=>`(tactic| walk_at "go")
local macro_rules | `(tactic| walk_at "take")=>`(tactic| refine⟨_,_,_,rfl,by lia,by first|decide|lia,by first|decide|lia,?_⟩)
namespace Mp
open PySem L2 PL
def lQ:FP:=λts k=>∃q:Qt,ts=[qtT q]/\q.2.2<4/\k (ptP (ug q)) ts
variable {f:Ra}{fd:Rx}
section
variable{P:Rj}{w:Ro}{K:Rb}{mg:Str->Option Q_}{base:Rq}
theorem lu:FnScope ["quarter","inner"] ["quarter"] (av jF):=⟨rfl,rfl,rfl,by rfl',rfl,by rfl',by rfl'⟩
theorem qi(F:Fun K "inner_point" "inner_point" jF f fd)(TX:Txt mg)(C_INNER:Glb K mg "INNER" zA) :FnOk P w K mg base CX0 1 f fd ["quarter"] (aG K 1 lQ):=by refine cv F lu [true] rfl (λcdv A outer s H E hr=>?_);have sc:=@lu;refine⟨_,(ag (aA (i:=1) sc.nd (by rfl) (f_ rfl) (by rfl) (aB (aw hr (Kd C_INNER (by rfl)) (aw hr (ae 0) ge_int)))) (aj (aJ (aB (ax (aa (ah au (ah cq ge_int (aw hr (ae 0) ge_int)) (aw hr (ae 1) ge_int)) (aa (ah au (ah cq ge_int (aw hr (ae 0) ge_int)) (aw hr (ae 1) ge_int)) af))))))),λts kk hl hp=>?_⟩;clear hl;obtain⟨p,rfl,hs,q⟩:=hp;nofun;refine dc (J9 hs) ?_;nofun;exact⟨c4 _,c4 _,q⟩
end
def sC:FP:=λts k=>∃(o:Bool) (ps:List Pt),ts=[.lst o (ps.map ptP)]/\ps≠[]/\ps.length<sizeLine/\∀oc,Hb ps oc->k (ocT oc) ts
section
variable{P:Rj}{w:Ro}{K:Rb}{mg:Str->Option Q_}{base:Rq}
theorem qd:FnScope ["corners","bounds","numbers"] ["corners"] (av oq):=⟨rfl,rfl,rfl,by rfl',rfl,by rfl',by rfl'⟩
theorem xm(F:Fun K "octo_of" "octo_of" oq f fd)(TX:Txt mg)  :FnOk P w K mg base CX0 1 f fd ["corners"] (aG K 1 sC):=by
 refine cv F qd [true] rfl (λcdv A outer s H E hr=>?_);have sc:=@qd;have nd1:(["corner"]:List Str).Nodup:=by rfl'
 have nd2:(["corner"]:List Str).Nodup:=by rfl'
 have nd3:(["corner"]:List Str).Nodup:=by rfl'
 have nd4:(["corner"]:List Str).Nodup:=by rfl'
 refine⟨_,(ag (aA (i:=1) sc.nd (by rfl) (f_ rfl) (by rfl) (aB (cn af))) (ag (cm Rv (by rfl) (aZ (ax (aa (aB (d9 sc ["corner"] [none] nd4 (by rfl') (aZ (ae 0)) (λ_ _ _=>(aq (i:=0) nd4 (by rfl) (f_ rfl) (by rfl) (hf:=(m_ rfl)))) (λ_ _ _=>d5) (λ_ _ _=>(aw hr (ae 0) ge_int)))) (aa (aB (d9 sc ["corner"] [none] nd3 (by rfl') (aZ (ae 0)) (λ_ _ _=>(aq (i:=0) nd3 (by rfl) (f_ rfl) (by rfl) (hf:=(m_ rfl)))) (λ_ _ _=>d5) (λ_ _ _=>(aw hr (ae 0) ge_int)))) (aa (aB (d9 sc ["corner"] [none] nd2 (by rfl') (aZ (ae 0)) (λ_ _ _=>(aq (i:=0) nd2 (by rfl) (f_ rfl) (by rfl) (hf:=(m_ rfl)))) (λ_ _ _=>d5) (λ_ _ _=>(ah au (aw hr (ae 0) ge_int) (aw hr (ae 0) ge_int))))) (aa (aB (d9 sc ["corner"] [none] nd1 (by rfl') (aZ (ae 0)) (λ_ _ _=>(aq (i:=0) nd1 (by rfl) (f_ rfl) (by rfl) (hf:=(m_ rfl)))) (λ_ _ _=>d5) (λ_ _ _=>(ah aO (aw hr (ae 0) ge_int) (aw hr (ae 0) ge_int))))) af)))))) (aq (i:=2) sc.nd (by rfl) (f_ rfl) (by rfl)) (ag (iI (lH 1 Sn So iD (aa (aB (aE (i9 rfl) (by rfl) TX.min (by rfl') (aa (ae 2) af))) af))) (aj (iI (lH 1 Sn So iD (aa (aB (aE (iC rfl) (by rfl) TX.max (by rfl') (aa (ae 2) af))) af)))))) (aj (aJ (aB (fT jz (by rfl) TX.tuple (by rfl') (aa (ae 1) af))))))),λts kk hl hp=>?_⟩;clear hl;obtain⟨o,ps,rfl,ld,hz,q⟩:=hp;have hne':∀j,ps.map (gO j)≠[]:=λj z=>ld (NO.mp z);nofun;refine aN (by rw[a_];exact hz) (λi acc ie=>∃z,acc=(ps.take i).map (λp=>T.int (gO 0 p))/\ie=[z]) ⟨_,rfl,rfl⟩ ?_ ?_
 ·rintro i u _ _ ⟨z,rfl,rfl⟩ eu;obtain⟨p,ep,rfl⟩:=aS eu;nofun;exact⟨_,by rw[map_take ep];rfl,rfl⟩
 rintro _ _ ⟨z,rfl,rfl⟩;rw[a_,v_];nofun;refine aN (by rw[a_];exact hz) (λi acc ie=>∃z,acc=(ps.take i).map (λp=>T.int (gO 1 p))/\ie=[z]) ⟨_,rfl,rfl⟩ ?_ ?_
 ·rintro i u _ _ ⟨z,rfl,rfl⟩ eu;obtain⟨p,ep,rfl⟩:=aS eu;nofun;exact⟨_,by rw[map_take ep];rfl,rfl⟩
 rintro _ _ ⟨z,rfl,rfl⟩;rw[a_,v_];nofun;refine aN (by rw[a_];exact hz) (λi acc ie=>∃z,acc=(ps.take i).map (λp=>T.int (gO 2 p))/\ie=[z]) ⟨_,rfl,rfl⟩ ?_ ?_
 ·rintro i u _ _ ⟨z,rfl,rfl⟩ eu;obtain⟨p,ep,rfl⟩:=aS eu;nofun;exact⟨_,by rw[map_take ep];rfl,rfl⟩
 rintro _ _ ⟨z,rfl,rfl⟩;rw[a_,v_];nofun;refine aN (by rw[a_];exact hz) (λi acc ie=>∃z,acc=(ps.take i).map (λp=>T.int (gO 3 p))/\ie=[z]) ⟨_,rfl,rfl⟩ ?_ ?_
 ·rintro i u _ _ ⟨z,rfl,rfl⟩ eu;obtain⟨p,ep,rfl⟩:=aS eu;nofun;exact⟨_,by rw[map_take ep];rfl,rfl⟩
 rintro _ _ ⟨z,rfl,rfl⟩;rw[a_,v_];nofun;have eL:[T.lst false (Mx (λp=>T.int (gO 0 p)) ps),T.lst false (Mx (λp=>T.int (gO 1 p)) ps),T.lst false (Mx (λp=>T.int (gO 2 p)) ps),T.lst false (Mx (λp=>T.int (gO 3 p)) ps)]=(p_ 4).map λj=>T.lst false (Mx (λp=>T.int (gO j p)) ps):=rfl;rw[eL];refine aV (λi env=>∃(f:Nat->Int×Int) (z:T),(∀j,j<i->je (ps.map (gO j)) (f j).1/\jd (ps.map (gO j)) (f j).2)/\env=[.lst o (ps.map ptP),.lst true ((p_ i).flatMap λj=>[.int (f j).1,.int (f j).2]),z]) ⟨λ_=>(0,0),_,λj hj=>by lia,rfl⟩ ?_ ?_
 ·rintro i t _ ⟨f,z,hf,rfl⟩ ei;obtain⟨j,ej,rfl⟩:=aS ei;have hi:i<4:=by have:=(e_.mp ej).1;rwa[B_]at this
  rw[Mw hi]at ej;cases ej;have ll:∀n,((p_ n).flatMap λj=>[T.int (f j).1,T.int (f j).2]).length=2*n:=λn=>by
   induction n with
   |zero=>rfl
   |succ n ih=>rw[Nj,OE,n_,ih];rfl
  nofun;refine⟨hne' i,λm hm=>⟨by rw[ll];lia,hne' i,λM hM=>⟨by rw[n_,ll];show 2*i+1<_;lia,λj=>if j=i then(m,M)else f j,.lst false (ps.map λp=>T.int (gO i p)),λj hj=>?_,by rw[BI]⟩⟩⟩;show je _ (if j=i then(m,M)else f j).1/\jd _ (if j=i then(m,M)else f j).2;by_cases e:j=i
  ·rw[if_pos e,e];exact⟨hm,hM⟩
  rw[if_neg e];exact hf j (by lia)
 rintro _ ⟨f,z,hf,rfl⟩;have e4:(p_ (Mx (λj=>T.lst false (Mx (λp=>T.int (gO j p)) ps)) (p_ 4)).length).flatMap (λj=>[T.int (f j).1,T.int (f j).2])=[T.int (f 0).1,T.int (f 0).2,T.int (f 1).1,T.int (f 1).2,T.int (f 2).1,T.int (f 2).2,T.int (f 3).1,T.int (f 3).2]:=by rw[a_];rfl
 rw[e4];rw[a_]at hf;have f0:=hf 0 (by decide);have f1:=hf 1 (by decide);have f2:=hf 2 (by decide);have f3:=hf 3 (by decide);nofun;exact q ⟨(f 0).1,(f 0).2,(f 1).1,(f 1).2,(f 2).1,(f 2).2,(f 3).1,(f 3).2⟩ ⟨⟨f0,f1⟩,f2,f3⟩
end
def zV:FP:=λts k=>∃o q,ts=[ocT o,ocT q]/\k (ocT (G9 o q)) ts
section
variable{P:Rj}{w:Ro}{K:Rb}{mg:Str->Option Q_}{base:Rq}
theorem vS:FnScope ["one","other"] ["one","other"] (av ur):=⟨rfl,rfl,rfl,by rfl',rfl,by rfl',by rfl'⟩
theorem BQ(F:Fun K "added" "added" ur f fd)(TX:Txt mg)  :FnOk P w K mg base CX0 1 f fd ["one","other"] (aG K 2 zV):=by
 refine cv F vS [true,true] rfl (λcdv A outer s H E hr=>?_);have sc:=@vS;have nd1:(["bound","more"]:List Str).Nodup:=by rfl'
 refine⟨_,(aj (aJ (aB (fT jz (by rfl) TX.tuple (by rfl') (aa (d9 sc ["bound","more"] [none,none] nd1 (by rfl') (J2 (by rfl) TX.zip (aa (ae 0) (aa (ae 1) af))) (λ_ _ _=>(iu (n:=2) (by rfl) (aC (aq (i:=0) nd1 (by rfl) (f_ rfl) (by rfl) (hf:=(m_ rfl))) (aC (aq (i:=1) nd1 (by rfl) (f_ rfl) (by rfl) (hf:=(m_ rfl))) fI)))) (λ_ _ _=>d5) (λ_ _ _=>(ah au (ae 0) (ae 1)))) af))))),λts kk hl hp=>?_⟩;clear hl;obtain⟨o,q',rfl,q⟩:=hp;have e1:∀o:Oc,ocT o=.tup ((ocL o).map T.int):=λo=>rfl;rw[e1,e1];nofun;have ez:(Mx (λp=>T.tup [p.1,p.2]) ((Mx (λx=>T.int x) (ocL o)).zip (Mx (λx=>T.int x) (ocL q'))))=((ocL o).zip (ocL q')).map λp=>T.tup [.int p.1,.int p.2]:=by rw[List.zip_map,F'];rfl
 rw[ez];refine aN (by rw[a_];show 8<sizeLine;decide) (λi acc ie=>∃z1 z2,acc=(((ocL o).zip (ocL q')).take i).map (λp=>T.int (p.1+p.2))/\ie=[z1,z2]) ⟨_,_,rfl,rfl⟩ ?_ ?_
 ·rintro i u _ _ ⟨z1,z2,rfl,rfl⟩ eu;obtain⟨p,ep,rfl⟩:=aS eu;nofun;exact⟨_,_,by rw[map_take ep],rfl⟩
 rintro _ _ ⟨z1,z2,rfl,rfl⟩;rw[a_,v_];nofun;exact q
end
def zS:FP:=λts k=>∃o p,ts=[ocT o,ptP p]/\k (ocT (G9 o (oc1 p))) ts
section
variable{P:Rj}{w:Ro}{K:Rb}{mg:Str->Option Q_}{base:Rq}
theorem uH:FnScope ["octo","corner"] ["octo","corner"] (av tH):=⟨rfl,rfl,rfl,by rfl',rfl,by rfl',by rfl'⟩
theorem E8(F:Fun K "moved" "moved" tH f fd)(TX:Txt mg)  (wT:Cal P w K mg base 1 "octo_of" ["corners"] (aG K 1 sC))(np:Cal P w K mg base 1 "added" ["one","other"] (aG K 2 zV)):FnOk P w K mg base CX0 2 f fd ["octo","corner"] (aG K 2 zS):=by refine cv F uH [true,true] rfl (λcdv A outer s H E hr=>?_);have sc:=@uH;refine⟨_,(aj (aJ (aB (ay np hr (by rfl) (ai (ae 0) (ai (ay wT hr (by rfl) (ai (cn (aa (ae 1) af)) az)) az)))))),λts kk hl hp=>?_⟩;clear hl;obtain⟨o,p,rfl,q⟩:=hp;nofun;refine⟨true,[p],rfl,(λz=>nomatch z),by show 1<sizeLine;decide,λoc h=>?_⟩;rw[Lk h];nofun;refine⟨o,oc1 p,rfl,?_⟩;nofun;exact q
end
def rR:FP:=λts k=>∃o,ts=[ocT o]/\k (.bl (vL o)) ts
section
variable{P:Rj}{w:Ro}{K:Rb}{mg:Str->Option Q_}{base:Rq}
theorem qJ:FnScope ["octo"] ["octo"] (av oE):=⟨rfl,rfl,rfl,by rfl',rfl,by rfl',by rfl'⟩
theorem wQ(F:Fun K "is_flat" "is_flat" oE f fd)(TX:Txt mg)  :FnOk P w K mg base CX0 1 f fd ["octo"] (aG K 1 rR):=by
 refine cv F qJ [true] rfl (λcdv A outer s H E hr=>?_);have sc:=@qJ;refine⟨_,(aj (aJ (aB (DH (kL (fH hr) (aw hr (ae 0) ge_int) (aw hr (ae 0) ge_int) (cp _)) (DH (kL (fH hr) (aw hr (ae 0) ge_int) (aw hr (ae 0) ge_int) (cp _)) (DH (kL (fH hr) (aw hr (ae 0) ge_int) (aw hr (ae 0) ge_int) (cp _)) (Bh (kL (fH hr) (aw hr (ae 0) ge_int) (aw hr (ae 0) ge_int) (cp _))))))))),λts kk hl hp=>?_⟩;clear hl;obtain⟨o,rfl,q⟩:=hp;nofun;unfold vL at q;refine aT (λh1=>?_) (λh1=>?_)
 ·rw[decide_eq_true h1]at q;nofun;exact q
 rw[decide_eq_false h1,OL]at q;nofun;refine aT (λh2=>?_) (λh2=>?_)
 ·rw[decide_eq_true h2]at q;nofun;exact q
 rw[decide_eq_false h2,OL]at q;nofun;refine aT (λh3=>?_) (λh3=>?_)
 ·rw[decide_eq_true h3]at q;nofun;exact q
 rw[decide_eq_false h3,OL]at q;nofun;exact q
end
def yC:FP:=λts k=>∃(o:Oc) (p:Qt),ts=[ocT o,qtT p]/\p.2.2<4/\k (.bl (inO o p)) ts
section
variable{P:Rj}{w:Ro}{K:Rb}{mg:Str->Option Q_}{base:Rq}
theorem wg:FnScope ["octo","quarter","point","x","y"] ["octo","quarter"] (av tf):=⟨rfl,rfl,rfl,by rfl',rfl,by rfl',by rfl'⟩
theorem BR(F:Fun K "holds" "holds" tf f fd)(TX:Txt mg)  (sB:Cal P w K mg base 1 "inner_point" ["quarter"] (aG K 1 lQ)):FnOk P w K mg base CX0 2 f fd ["octo","quarter"] (aG K 2 yC):=by
 refine cv F wg [true,true] rfl (λcdv A outer s H E hr=>?_);have sc:=@wg;refine⟨_,(ag (aA (i:=2) sc.nd (by rfl) (f_ rfl) (by rfl) (aB (ay sB hr (by rfl) (ai (ae 1) az)))) (ag (aA (i:=3) sc.nd (by rfl) (f_ rfl) (by rfl) (aB (aw hr (ae 2) ge_int))) (ag (aA (i:=4) sc.nd (by rfl) (f_ rfl) (by rfl) (aB (aw hr (ae 2) ge_int))) (aj (aJ (aB (xY (nz iN iN (ah cq ge_int (aw hr (ae 0) ge_int)) (ae 3) (ah cq ge_int (aw hr (ae 0) ge_int))) (xY (nz iN iN (ah cq ge_int (aw hr (ae 0) ge_int)) (ae 4) (ah cq ge_int (aw hr (ae 0) ge_int))) (xY (nz iN iN (ah cq ge_int (aw hr (ae 0) ge_int)) (ah au (ae 3) (ae 4)) (ah cq ge_int (aw hr (ae 0) ge_int))) (Bh (nz iN iN (ah cq ge_int (aw hr (ae 0) ge_int)) (ah aO (ae 3) (ae 4)) (ah cq ge_int (aw hr (ae 0) ge_int))))))))))))),λts kk hl hp=>?_⟩;clear hl;obtain⟨o,p,rfl,hs,q⟩:=hp;nofun;refine⟨p,rfl,hs,?_⟩;nofun;unfold inO at q;have no:¬inP o (ug p).1 (ug p).2->kk (.bl false) [ocT o,qtT p]:=λh=>by rw[decide_eq_false h]at q;exact q
 refine⟨c4 _,aT (λh0=>?_) (λh0=>?_)⟩
 rotate_left
 ·nofun;exact no λh=>h0 h.1.1
 nofun;refine⟨c4 _,aT (λh1=>?_) (λh1=>?_)⟩
 rotate_left
 ·nofun;exact no λh=>h1 h.1.2
 nofun;refine⟨c4 _,aT (λh2=>?_) (λh2=>?_)⟩
 rotate_left
 ·nofun;exact no λh=>h2 h.2.1.1
 nofun;refine⟨c4 _,aT (λh3=>?_) (λh3=>?_)⟩
 rotate_left
 ·nofun;exact no λh=>h3 h.2.1.2
 nofun;refine⟨c4 _,aT (λh4=>?_) (λh4=>?_)⟩
 rotate_left
 ·nofun;exact no λh=>h4 h.2.2.1.1
 nofun;refine⟨c4 _,aT (λh5=>?_) (λh5=>?_)⟩
 rotate_left
 ·nofun;exact no λh=>h5 h.2.2.1.2
 nofun;refine⟨c4 _,aT (λh6=>?_) (λh6=>?_)⟩
 rotate_left
 ·nofun;exact no λh=>h6 h.2.2.2.1
 nofun;refine⟨c4 _,?_⟩;rw[show decide (inP o (ug p).1 (ug p).2)=decide ((ug p).1-(ug p).2<4*o.h)from decide_eq_decide.mpr ⟨λh=>h.2.2.2.2,λh=>⟨⟨h0,h1⟩,⟨h2,h3⟩,⟨h4,h5⟩,h6,h⟩⟩]at q;exact q
end
def lO:FP:=λts k=>∃o:Oc,ts=[ocT o]/\vL o=false/\bdO o/\k (.lst true ((ocN o (o.b-o.a).toNat).map qtT)) ts
section
variable{P:Rj}{w:Ro}{K:Rb}{mg:Str->Option Q_}{base:Rq}
theorem kN:FnScope ["octo","region","x","low","high","y"] ["octo"] (av jE):=⟨rfl,rfl,rfl,by rfl',rfl,by rfl',by rfl'⟩
theorem qq(F:Fun K "quarters_in" "quarters_in" jE f fd)(TX:Txt mg)  (ul:Cal P w K mg base 1 "is_flat" ["octo"] (aG K 1 rR))(sn:Cal P w K mg base 2 "holds" ["octo","quarter"] (aG K 2 yC)):FnOk P w K mg base CX0 3 f fd ["octo"] (aG K 1 lO):=by
 refine cv F kN [true] rfl (λcdv A outer s H E hr=>?_);have sc:=@kN;have nd1:(["side","y","x","octo"]:List Str).Nodup:=by rfl'
 refine⟨_,(ag (aA (i:=1) sc.nd (by rfl) (f_ rfl) (by rfl) (aB (cn af))) (ag (ig (kC (kT (ay ul hr (by rfl) (ai (ae 0) az)))) (aj (aJ (kZ 1))) d8) (ag (cm Rv (by rfl) (iB (by rfl) TX.range (aa (aB (aw hr (ae 0) ge_int)) (aa (aB (aw hr (ae 0) ge_int)) af))) (aq (i:=2) sc.nd (by rfl) (m_ rfl) (by rfl)) (ag (aA (i:=3) sc.nd (by rfl) (f_ rfl) (by rfl) (aB (aE (iC rfl) (by rfl) TX.max (by rfl') (aa (aw hr (ae 0) ge_int) (aa (ah aO (ah aO (aw hr (ae 0) ge_int) (ae 2)) ge_int) (aa (ah aO (ae 2) (aw hr (ae 0) ge_int)) af)))))) (ag (aA (i:=4) sc.nd (by rfl) (f_ rfl) (by rfl) (aB (aE (i9 rfl) (by rfl) TX.min (by rfl') (aa (aw hr (ae 0) ge_int) (aa (ah aO (aw hr (ae 0) ge_int) (ae 2)) (aa (ah aO (ah au (ae 2) ge_int) (aw hr (ae 0) ge_int)) af)))))) (aj (cm Rv (by rfl) (iB (by rfl) TX.range (aa (bx 3) (aa (bx 4) af))) (aq (i:=5) sc.nd (by rfl) (m_ rfl) (by rfl)) (aj (iI (lH 1 PySem.F.slot_list_extend PySem.F.type_list_extend wZ (aa (aB (d9 sc ["side","y","x","octo"] [none,some 5,some 2,some 0] nd1 (by rfl') (iz (by rfl) TX.range (aa ge_int af)) (λ_ _ _=>(aq (i:=0) nd1 (by rfl) (f_ rfl) (by rfl) (hf:=(m_ rfl)))) (λ_ _ _=>(lC (kT (ay sn hr (by rfl) (ai (ae 3) (ai (ax (aa (ae 2) (aa (ae 1) (aa (ae 0) af)))) az)))))) (λ_ _ _=>(ax (aa (ae 2) (aa (ae 1) (aa (ae 0) af))))))) af))))))))) (aj (aJ (kZ 1)))))),λts kk hl hp=>?_⟩;clear hl;obtain⟨o,rfl,hf,hb,q⟩:=hp;nofun;refine⟨o,rfl,?_⟩;nofun;rw[hf];nofun;have ab:=hb.1.1;refine⟨by omega,aV (λi env=>∃z2 z3 z4 z5,env=[ocT o,.lst true ((ocN o i).map qtT),z2,z3,z4,z5]) ⟨_,_,_,_,rfl⟩ ?_ ?_⟩
 ·rintro i t _ ⟨z2,z3,z4,z5,rfl⟩ ei;have hi:=i7 ei;have et:=jA ei;subst et;nofun;rw[show max (max o.c (o.e-(o.a+i)-1)) (o.a+i-o.h)=pW o (o.a+i)from rfl,show min (min o.d (o.f-(o.a+i))) (o.a+i+1-o.g)=xg o (o.a+i)from rfl];have lb:=D8 (x:=o.a+i) hb (by lia) (by omega);have ll:=G6 hb i (by lia);refine⟨by lia,aV (λj env=>∃z5,env=[ocT o,.lst true ((ocN o i++ocC o (o.a+i) j).map qtT),.int (o.a+i),.int (pW o (o.a+i)),.int (xg o (o.a+i)),z5]) ⟨_,by rw[show ocC o (o.a+i) 0=[]from rfl,L']⟩ ?_ ?_⟩
  ·rintro j t _ ⟨z5,rfl⟩ ej;have hj:=i7 ej;have et:=jA ej;subst et;have l2:=yE (o:=o) (x:=o.a+i) j;have ec:ocC o (o.a+i) (j+1)=ocC o (o.a+i) j++cellQ (λs=>inO o (o.a+i,pW o (o.a+i)+j,s)) (o.a+i) (pW o (o.a+i)+j):=jl;rw[ec];generalize pW o (o.a+i)+j=y at *;generalize o.a+(i:Int)=x at *;nofun;refine⟨by decide,aN (by rw[fG];decide) (λs acc ie=>∃z1,acc=(((p_ s).filter λs=>inO o (x,y,s)).map λs=>(x,y,s)).map qtT/\ie=[z1,.int y,.int x,ocT o]) ⟨_,rfl,rfl⟩ ?_ ?_⟩
   ·rintro s t _ _ ⟨z1,rfl,rfl⟩ es;have hs:s<4:=i7 es;have et:=jA es;subst et;rw[NF];nofun;refine⟨o,(x,y,s),rfl,hs,?_⟩;nofun;rw[Nj,Nh,z_,z_];refine oj (λh=>?_) (λh=>?_)
    ·nofun;exact⟨_,by rw[Mh,h];rfl,rfl⟩
    nofun;exact⟨_,by rw[Mh,h];exact(L' _).symm,rfl⟩
   rintro _ _ ⟨z1,rfl,rfl⟩;rw[fG];nofun;have l3:=o6 (λs=>inO o (x,y,s)) x y;have l4:((p_ (Q7 4)).filter λs=>inO o (x,y,s)).length=(cellQ (λs=>inO o (x,y,s)) x y).length:=(a_ ..).symm;exact⟨by rw[l4,n_];lia,_,by rw[<-w_,z_ (l₁:=_++_)];rfl⟩
  rintro _ ⟨z5,rfl⟩;rw[fG];have e1:ocN o (i+1)=ocN o i++_:=jl;exact⟨_,_,_,_,by rw[e1]⟩
 rintro _ ⟨z2,z3,z4,z5,rfl⟩;rw[fG];nofun;exact q
end
def rq:FP:=λts k=>∃(b o:Bool) (t:Tl) (p:Pt),ts=[tlT b o t,ptP p]/\k (ocT (mkO t.1 t.2.1 p)) ts
section
variable{P:Rj}{w:Ro}{K:Rb}{mg:Str->Option Q_}{base:Rq}
theorem qo:FnScope ["tool","corner","r","both"] ["tool","corner"] (av oB):=⟨rfl,rfl,rfl,by rfl',rfl,by rfl',by rfl'⟩
theorem xB(F:Fun K "mark_of" "mark_of" oB f fd)(TX:Txt mg)  (wv:Cal P w K mg base 2 "moved" ["octo","corner"] (aG K 2 zS)):FnOk P w K mg base CX0 3 f fd ["tool","corner"] (aG K 2 rq):=by refine cv F qo [true,true] rfl (λcdv A outer s H E hr=>?_);have sc:=@qo;refine⟨_,(ag (aA (i:=2) sc.nd (by rfl) (f_ rfl) (by rfl) (aB (aw hr (ae 0) ge_int))) (ag (aA (i:=3) sc.nd (by rfl) (f_ rfl) (by rfl) (aB (ah au (aw hr (ae 0) ge_int) (aw hr (ae 0) ge_int)))) (aj (aJ (aB (ay wv hr (by rfl) (ai (ax (aa (mF (ae 2)) (aa (ae 2) (aa (mF (ae 2)) (aa (ae 2) (aa (mF (ae 3)) (aa (ae 3) (aa (mF (ae 3)) (aa (ae 3) af))))))))) (ai (ae 1) az)))))))),λts kk hl hp=>?_⟩;clear hl;obtain⟨b,o,t,p,rfl,q⟩:=hp;nofun;refine⟨⟨-t.1,t.1,-t.1,t.1,-(t.1+t.2.1),t.1+t.2.1,-(t.1+t.2.1),t.1+t.2.1⟩,p,rfl,?_⟩;nofun;exact q
end
def iO:FP:=λts k=>∃(b o:Bool) (t:Tl),ts=[tlT b o t]/\tlO t/\k (.lst true ((nrQ t).map qtT)) ts
section
variable{P:Rj}{w:Ro}{K:Rb}{mg:Str->Option Q_}{base:Rq}
theorem jQ:FnScope ["tool"] ["tool"] (av iM):=⟨rfl,rfl,rfl,by rfl',rfl,by rfl',by rfl'⟩
theorem nR(F:Fun K "near_quarters" "near_quarters" iM f fd)(TX:Txt mg)  (At:Cal P w K mg base 3 "quarters_in" ["octo"] (aG K 1 lO))(wl:Cal P w K mg base 3 "mark_of" ["tool","corner"] (aG K 2 rq)):FnOk P w K mg base CX0 4 f fd ["tool"] (aG K 1 iO):=by refine cv F jQ [true] rfl (λcdv A outer s H E hr=>?_);have sc:=@jQ;refine⟨_,(aj (aJ (aB (ay At hr (by rfl) (ai (ay wl hr (by rfl) (ai (ae 0) (ai (ax (aa ge_int (aa ge_int af))) az))) az))))),λts kk hl hp=>?_⟩;clear hl;obtain⟨b,o,t,rfl,ht,q⟩:=hp;nofun;refine⟨b,false,t,(0,0),rfl,?_⟩;nofun;refine⟨mk0 t,rfl,(Hl ht).1,(Hl ht).2,?_⟩;nofun;exact q
end
def yD:FP:=λts k=>∃(c o b u:Bool) (qs:List Qt),ts=[rgT c o b u qs]/\qs.Nodup/\qs.length<250000/\k (.dT true (dQ qs)) [rgT c false b false qs]
section
variable{P:Rj}{w:Ro}{K:Rb}{mg:Str->Option Q_}{base:Rq}
theorem vi:FnScope ["region","there","quarter"] ["region"] (av tL):=⟨rfl,rfl,rfl,by rfl',rfl,by rfl',by rfl'⟩
theorem Dy(F:Fun K "noted" "noted" tL f fd)(TX:Txt mg)  :FnOk P w K mg base CX0 1 f fd ["region"] (aG K 1 yD):=by
 refine cv F vi [true] rfl (λcdv A outer s H E hr=>?_);have sc:=@vi;refine⟨_,(ag (aA (i:=1) sc.nd (by rfl) (f_ rfl) (by rfl) (aB qL)) (ag (cm Rv (by rfl) (aZ (bx 0)) (aq (i:=2) sc.nd (by rfl) (f_ rfl) (by rfl)) (aj (nS iL (qv (i:=1) hr (aB (fT jz (by rfl) TX.tuple (by rfl') (aa (ae 2) af))))))) (aj (aJ (kZ 1))))),λts kk hl hp=>?_⟩;clear hl;obtain⟨c,o,b,u,qs,rfl,hd,hl,q⟩:=hp;nofun;refine⟨rfl,aV (λi env=>∃z,env=[rgT c false b false qs,.dT true (dQ (qs.take i)),z]) ⟨_,rfl⟩ ?_ ?_⟩
 ·rintro i t _ ⟨z,rfl⟩ ei;obtain⟨r,e1,rfl⟩:=aS ei;nofun;have hn:=vP hd e1;exact⟨by rw[sO,L_];lia,_,by rw[Md,e1,Option.toList_some,<-tQ hn];rfl⟩
 rintro _ ⟨z,rfl⟩;rw[a_,v_];nofun;exact q
end
def rL:FP:=λts k=>∃(o:Bool) (ps:List Pt) (sp:Pt),ts=[.lst o (ps.map ptP),ptP sp]/\0<ps.length/\ps.length<1000/\(∀p∈ps,sm p)/\k (.int (m9 (cr sp) ps)) [.lst false (ps.map ptP),ptP sp]
section
variable{P:Rj}{w:Ro}{K:Rb}{mg:Str->Option Q_}{base:Rq}
theorem qf:FnScope ["_law_corners","_law_spot","_law_many","_law_k","_law_corner","_law_ahead","_law_low","_law_high","_law_slope","_law_start"] ["_law_corners","_law_spot"] (av o9):=⟨rfl,rfl,rfl,by rfl',rfl,by rfl',by rfl'⟩
theorem xl(F:Fun K "_law_crossed" "_law_crossed" o9 f fd)(TX:Txt mg)  :FnOk P w K mg base CX0 1 f fd ["_law_corners","_law_spot"] (aG K 2 rL):=by
 refine cv F qf [true,true] rfl (λcdv A outer s H E hr=>?_);have sc:=@qf;refine⟨_,(ag (aA (i:=2) sc.nd (by rfl) (f_ rfl) (by rfl) ge_int) (ag (cm Rv (by rfl) (yR (by rfl) TX.enumerate (aa (bx 0) af)) (iu (n:=2) (by rfl) (aC (aq (i:=3) sc.nd (by rfl) (f_ rfl) (by rfl)) (aC (aq (i:=4) sc.nd (by rfl) (f_ rfl) (by rfl)) fI))) (ag (aA (i:=5) sc.nd (by rfl) (f_ rfl) (by rfl) (aB (aw hr (ae 0) (ah aO (ae 3) ge_int)))) (ag (nM (i:=6) (j:=7) (by rfl) sc.nd (by rfl) (by rfl) (by decide) (by rfl) (by rfl) (by rfl) (by rfl) (aa (aB (ah cq (aE (i9 rfl) (by rfl) TX.min (by rfl') (aa (aw hr (ae 5) ge_int) (aa (aw hr (ae 4) ge_int) af))) ge_int)) (aa (aB (ah cq (aE (iC rfl) (by rfl) TX.max (by rfl') (aa (aw hr (ae 5) ge_int) (aa (aw hr (ae 4) ge_int) af))) ge_int)) af)) (by rfl)) (aj (ig (kC (BV xU iN (ae 6) (aw hr (ae 1) ge_int) (ae 7))) (ag (aA (i:=8) sc.nd (by rfl) (f_ rfl) (by rfl) (aB (ah jX (ah aO (aw hr (ae 4) ge_int) (aw hr (ae 5) ge_int)) (aE (iC rfl) (by rfl) TX.max (by rfl') (aa ge_int (aa (aE jT (by rfl) TX.abs (by rfl') (aa (ah aO (aw hr (ae 4) ge_int) (aw hr (ae 5) ge_int)) af)) af)))))) (iq (ig (kC (fC iN (aw hr (ae 4) ge_int) (aw hr (ae 5) ge_int) (cp _))) (aj (aA (i:=8) sc.nd (by rfl) (f_ rfl) (by rfl) (aB (mF (ae 8))))) d8) (ag (aA (i:=9) sc.nd (by rfl) (f_ rfl) (by rfl) (aB (ah cq ge_int (aw hr (cn (aa (aw hr (ae 5) ge_int) (aa (aw hr (ae 4) ge_int) af))) (fT rY (by rfl) TX.int (by rfl') (aa (kL iN (aw hr (ae 4) ge_int) (aw hr (ae 5) ge_int) (cp _)) af)))))) (aj (aA (i:=2) sc.nd (by rfl) (f_ rfl) (by rfl) (aB (ah au (ae 2) (fT rY (by rfl) TX.int (by rfl') (aa (kL Hw (ah au (ae 9) (ah cq (ae 8) (ah aO (aw hr (ae 1) ge_int) (ae 6)))) (aw hr (ae 1) ge_int) (cp _)) af))))))))) d8))))) (aj (aJ (kZ 2))))),λts kk hl hp=>?_⟩;clear hl;obtain⟨o,ps,sp,rfl,h0,h1,hs,q⟩:=hp;nofun;refine aV (λi env=>∃z3 z4 z5 z6 z7 z8 z9,env=[.lst false (ps.map ptP),ptP sp,.int (fS (cr sp) (ps.getLastD (0,0)) (ps.take i)),z3,z4,z5,z6,z7,z8,z9]) ⟨_,_,_,_,_,_,_,rfl⟩ ?_ ?_
 ·rintro i t _ ⟨z3,z4,z5,z6,z7,z8,z9,rfl⟩ ei;obtain⟨p,ep,rfl⟩:=zy rfl ei;have hi:i<ps.length:=(e_.mp ep).1;have sp1:=hs p (F_ ep);nofun;refine dc (vY (g:=ptP) (l:=ps) hi (0,0)) ?_;have sp2:=hs (ps.getD (kx ps.length i) (0,0)) (by
   rw[D_];have hj:kx ps.length i<ps.length:=by unfold kx;split <;> omega
   rw[b_ hj];exact MG hj)
  rw[Aw ep];generalize ps.getD (kx ps.length i) (0,0)=a at *;generalize fS (cr sp) (ps.getLastD (0,0)) (ps.take i)=n at *;have no:¬(min a.2 p.2*8<=sp.2/\sp.2<max a.2 p.2*8)->cr sp (a,p)=0:=λg=>by
   unfold cr crB;rw[decide_eq_false g]
   rfl
  nofun;refine⟨.inr ⟨by decide,by decide⟩,.inr ⟨by decide,by decide⟩,aT (λg1=>?_) (λg1=>?_)⟩
  ·nofun;refine aT (λg2=>?_) (λg2=>?_)
   ·nofun;obtain⟨s11,s12,s13,s14⟩:=sp1;obtain⟨s21,s22,s23,s24⟩:=sp2;refine⟨⟨by omega,by lia⟩,?_⟩;rw[show(p.1-a.1)/max 1 ((p.1-a.1).natAbs:Int)=sgE (a,p)from rfl];have sg:=sZ (a,p);refine jo (λenv=>env=[T.lst false (Mx ptP ps),ptP sp,T.int n,T.int (i:Int),ptP p,ptP a,T.int (min a.2 p.2*8),T.int (max a.2 p.2*8),T.int (if p.2<a.2 then -sgE (a,p)else sgE (a,p)),z9]) ?_ ?_
    ·nofun;refine aT (λg=>?_) (λg=>?_)
     ·nofun;rw[if_pos g]
     nofun;rw[if_neg g]
    rintro _ rfl;have e:cr sp (a,p)=if sp.1<8*(if p.2<a.2 then p.1 else a.1)+(if p.2<a.2 then -sgE (a,p)else sgE (a,p))*(sp.2-min a.2 p.2*8)then 1 else 0:=by unfold cr crB;rw[decide_eq_true ⟨g1,g2⟩,MJ];simp only[decide_eq_true_iff]
    rw[e];have sg2:-1<=(if p.2<a.2 then -sgE (a,p)else sgE (a,p))/\(if p.2<a.2 then -sgE (a,p)else sgE (a,p))<=1:=by split <;> lia
    generalize (if p.2<a.2 then -sgE (a,p)else sgE (a,p))=σ at *;nofun;refine dc Ln ?_;nofun;exact⟨.inl ⟨by decide,by decide⟩,.inl ⟨by lia,by lia⟩,_,_,_,_,_,_,_,rfl⟩
   nofun;rw[no λg=>g2 g.2,MA];exact⟨_,_,_,_,_,_,_,rfl⟩
  nofun;rw[no λg=>g1 g.1,MA];exact⟨_,_,_,_,_,_,_,rfl⟩
 rintro _ ⟨z3,z4,z5,z6,z7,z8,z9,rfl⟩;rw[qM rfl,v_];nofun;exact q
end
def vx:FP:=λts k=>∃(o:Bool) (ps:List Pt) (cx cy:Int),ts=[.lst o (ps.map ptP)]/\0<ps.length/\ps.length<1000/\bd 40 cx/\bd 40 cy/\inR cx cy ps/\∀(qs:List Qt) (z:T),upQ qs->(∀q∈qs,okQ cx cy q)->qs.length<=1600->(∀q∈qs,∀a b,(∀p∈ps,a<=p.1/\p.1<=b)->a<=q.1/\q.1<b)->(∀x y,Wi ps x y->((x,y,3):Qt)∈qs)->k (.dT true (dQ qs)) [z]
section
variable{P:Rj}{w:Ro}{K:Rb}{mg:Str->Option Q_}{base:Rq}
theorem sr:FnScope ["_law_corners","_law_found","_law_xs","_law_ys","_law_x","_law_y","_law_side","_law_spot"] ["_law_corners"] (av pI):=⟨rfl,rfl,rfl,by rfl',rfl,by rfl',by rfl'⟩
theorem Aq(F:Fun K "_law_inside" "_law_inside" pI f fd)(TX:Txt mg)  (pp:Cal P w K mg base 1 "_law_crossed" ["_law_corners","_law_spot"] (aG K 2 rL)):FnOk P w K mg base CX0 2 f fd ["_law_corners"] (aG K 1 vx):=by
 refine cv F sr [true] rfl (λcdv A outer s H E hr=>?_);have sc:=@sr;have nd1:(["_law_corner"]:List Str).Nodup:=by rfl'
 have nd2:(["_law_corner"]:List Str).Nodup:=by rfl'
 refine⟨_,(ag (aA (i:=1) sc.nd (by rfl) (f_ rfl) (by rfl) (aB qL)) (ag (jP sc (i:=2) ["_law_corner"] [none] nd1 (by rfl') (by rfl) (f_ rfl) (by rfl) (aZ (ae 0)) (λ_ _ _=>(aq (i:=0) nd1 (by rfl) (f_ rfl) (by rfl) (hf:=(m_ rfl)))) (λ_ _ _=>d5) (λ_ _ _=>(aw hr (ae 0) ge_int)) (by rfl)) (ag (jP sc (i:=3) ["_law_corner"] [none] nd2 (by rfl') (by rfl) (f_ rfl) (by rfl) (aZ (ae 0)) (λ_ _ _=>(aq (i:=0) nd2 (by rfl) (f_ rfl) (by rfl) (hf:=(m_ rfl)))) (λ_ _ _=>d5) (λ_ _ _=>(aw hr (ae 0) ge_int)) (by rfl)) (ag (cm Rv (by rfl) (iB (by rfl) TX.range (aa (aB (aE (i9 rfl) (by rfl) TX.min (by rfl') (aa (ae 2) af))) (aa (aB (aE (iC rfl) (by rfl) TX.max (by rfl') (aa (ae 2) af))) af))) (aq (i:=4) sc.nd (by rfl) (f_ rfl) (by rfl)) (aj (cm Rv (by rfl) (iB (by rfl) TX.range (aa (aB (aE (i9 rfl) (by rfl) TX.min (by rfl') (aa (ae 3) af))) (aa (aB (aE (iC rfl) (by rfl) TX.max (by rfl') (aa (ae 3) af))) af))) (aq (i:=5) sc.nd (by rfl) (f_ rfl) (by rfl)) (aj (cm Rv (by rfl) (iz (by rfl) TX.range (aa ge_int af)) (aq (i:=6) sc.nd (by rfl) (f_ rfl) (by rfl)) (ag (aA (i:=7) sc.nd (by rfl) (f_ rfl) (by rfl) (aB (ax (aa (ah au (ah cq ge_int (ae 4)) (aw hr (cn (aa ge_int (aa ge_int (aa ge_int (aa ge_int af))))) (ae 6))) (aa (ah au (ah cq ge_int (ae 5)) (aw hr (cn (aa ge_int (aa ge_int (aa ge_int (aa ge_int af))))) (ae 6))) af))))) (aj (ig (kC (fC (fH hr) (ah Gg (ay pp hr (by rfl) (ai (ae 0) (ai (ae 7) az))) ge_int) ge_int (cp _))) (aj (nS iL (qv (i:=1) hr (aB (ax (aa (ae 4) (aa (ae 5) (aa (ae 6) af)))))))) d8)))))))) (aj (aJ (kZ 1))))))),λts kk hl hp=>?_⟩;clear hl;obtain⟨o,ps,cx,cy,rfl,h0,h1,⟨c1,c2⟩,⟨c3,c4⟩,hb,q⟩:=hp;have ld:∀f:Pt->Int,ps.map f≠[]:=λf z=>by rw[NO]at z;rw[z]at h0;exact absurd h0 (by decide)
 nofun;refine⟨rfl,aN (by rw[a_,sizeLine_eq];lia) (λi acc ie=>∃z1,acc=(ps.take i).map (λp=>T.int p.1)/\ie=[z1]) ⟨_,rfl,rfl⟩ ?_ ?_⟩
 ·rintro i t _ _ ⟨z1,rfl,rfl⟩ ei;obtain⟨l,el,rfl⟩:=aS ei;nofun;exact⟨_,by rw[map_take el],rfl⟩
 rintro _ _ ⟨z1,rfl,rfl⟩;rw[a_,v_];nofun;refine aN (by rw[a_,sizeLine_eq];lia) (λi acc ie=>∃z1,acc=(ps.take i).map (λp=>T.int p.2)/\ie=[z1]) ⟨_,rfl,rfl⟩ ?_ ?_
 ·rintro i t _ _ ⟨z1,rfl,rfl⟩ ei;obtain⟨l,el,rfl⟩:=aS ei;nofun;exact⟨_,by rw[map_take el],rfl⟩
 rintro _ _ ⟨z1,rfl,rfl⟩;rw[a_,v_];nofun;refine⟨ld _,λx0 hx0=>⟨ld _,λx1 hx1=>?_⟩⟩;obtain⟨y0,hy0⟩:=sW (l:=ps.map (·.2)) (by rw[a_];omega);obtain⟨y1,hy1⟩:=FK (l:=ps.map (·.2)) (by rw[a_];omega);have bb:=Js hb hx0 hx1 hy0 hy1;have hs:∀p∈ps,sm p:=λp m=>by obtain⟨⟨g1,g2⟩,g3,g4⟩:=ju hb m;exact⟨by lia,by lia,by lia,by lia⟩
 refine⟨by omega,aV (λi env=>∃(qs:List Qt) (z4 z5 z6 z7:T),upQ qs/\(∀q∈qs,okQ cx cy q/\x0<=q.1/\q.1<x0+i)/\qs.length<=80*i/\(∀x y,Od ps x y->y0<=y->y<y1->x0<=x->x<x0+i->((x,y,3):Qt)∈qs)/\env=[.lst o (ps.map ptP),.dT true (dQ qs),.lst true (ps.map λp=>T.int p.1),.lst true (ps.map λp=>T.int p.2),z4,z5,z6,z7]) ⟨[],_,_,_,_,.nil,(λq m=>by cases m),Me _,(λx y _ _ _ a b=>by lia),rfl⟩ ?_ ?_⟩
 ·rintro i t _ ⟨qs,z4,z5,z6,z7,u1,u2,u3,u4,rfl⟩ ei;have hi:=i7 ei;have et:=jA ei;subst et;nofun;refine⟨ld _,λy0' hy0'=>?_⟩;cases EW hy0 hy0';refine⟨ld _,λy1' hy1'=>?_⟩;cases FF hy1 hy1';clear hy0' hy1';refine⟨by omega,aV (λj env=>∃(qs:List Qt) (z5 z6 z7:T),upQ qs/\(∀q∈qs,okQ cx cy q/\x0<=q.1/\(q.1<x0+i\/q.1=x0+i/\q.2.1<y0+j))/\qs.length<=80*i+4*j/\(∀x y,Od ps x y->y0<=y->y<y1->x0<=x->(x<x0+i\/x=x0+i/\y<y0+j)->((x,y,3):Qt)∈qs)/\env=[.lst o (ps.map ptP),.dT true (dQ qs),.lst true (ps.map λp=>T.int p.1),.lst true (ps.map λp=>T.int p.2),.int (x0+i),z5,z6,z7]) ⟨qs,_,_,_,u1,λq m=>⟨(u2 q m).1,(u2 q m).2.1,.inl (u2 q m).2.2⟩,u3,(λx y o a b c d=>u4 x y o a b c (by lia)),rfl⟩ ?_ ?_⟩
  ·clear u1 u2 u3 u4 qs;rintro j t _ ⟨qs,z5,z6,z7,u1,u2,u3,u4,rfl⟩ ej;have hj:=i7 ej;have et:=jA ej;subst et;nofun;refine⟨by decide,aV (λs env=>∃(qs:List Qt) (z6 z7:T),upQ qs/\(∀q∈qs,okQ cx cy q/\x0<=q.1/\(q.1<x0+i\/q.1=x0+i/\(q.2.1<y0+j\/q.2.1=y0+j/\q.2.2<s)))/\qs.length<=80*i+4*j+s/\(∀x y,Od ps x y->y0<=y->y<y1->x0<=x->(x<x0+i\/x=x0+i/\(y<y0+j\/y=y0+j/\s=4))->((x,y,3):Qt)∈qs)/\env=[.lst o (ps.map ptP),.dT true (dQ qs),.lst true (ps.map λp=>T.int p.1),.lst true (ps.map λp=>T.int p.2),.int (x0+i),.int (y0+j),z6,z7]) ⟨qs,_,_,u1,λq m=>⟨(u2 q m).1,by have:=(u2 q m).2;lia⟩,u3,(λx y o a b c d=>u4 x y o a b c (by lia)),rfl⟩ ?_ ?_⟩
   ·clear u1 u2 u3 u4 qs;rintro s t _ ⟨qs,z6,z7,u1,u2,u3,u4,rfl⟩ es;have hs4:s<4:=i7 es;have et:=jA es;subst et;rw[NF];obtain⟨⟨v1,e1,f1⟩,v2,e2,f2⟩:=C0 hs4;nofun;refine⟨.inl ⟨by decide,by decide⟩,dc e1 ?_⟩;nofun;refine⟨.inl ⟨by decide,by decide⟩,dc e2 ?_⟩;nofun;refine⟨false,ps,(8*(x0+i)+v1,8*(y0+j)+v2),rfl,h0,h1,hs,?_⟩;nofun;refine⟨by decide,aT (λh=>?_) (λh=>?_)⟩
    ·nofun;have gn:∀r∈qs,ltQ r (x0+i,y0+j,s):=λr m=>by have:=(u2 r m).2.2;unfold ltQ;dsimp only;omega
     refine⟨by rw[sO];lia,qs++[(x0+i,y0+j,s)],_,_,Em u1 gn,EG u2 (λr g=>⟨g.1,by have:=g.2;lia⟩) ⟨⟨⟨by dsimp only;lia,by dsimp only;lia⟩,⟨by dsimp only;lia,by dsimp only;lia⟩,hs4⟩,by dsimp only;lia⟩,by rw[n_];show qs.length+1<=_;lia,(λx y o a b c d=>?_),by rw[<-tQ (HM gn)];rfl⟩;by_cases z:x=x0+i/\y=y0+j
     ·obtain⟨rfl,rfl⟩:=z;obtain rfl:s=3:=by lia
      exact u_ _ (.head _)
     exact K' _ (u4 x y o a b c (by lia))
    nofun;refine⟨qs,_,_,u1,λr m=>⟨(u2 r m).1,by have:=(u2 r m).2;lia⟩,by lia,(λx y o a b c d=>?_),rfl⟩;by_cases z:x=x0+i/\y=y0+j
    ·obtain⟨rfl,rfl⟩:=z;obtain rfl:s=3:=by lia
     cases f1 rfl;cases f2 rfl;exact absurd o h
    exact u4 x y o a b c (by lia)
   clear u1 u2 u3 u4 qs;rintro _ ⟨qs,z6,z7,u1,u2,u3,u4,rfl⟩;have u3:qs.length<=80*i+4*j+4:=u3;exact⟨qs,_,_,_,u1,λr m=>⟨(u2 r m).1,by have:=(u2 r m).2;lia⟩,by omega,(λx y o a b c d=>u4 x y o a b c (by have e:(nX 0 (Q7 4)).length=4:=rfl;lia)),rfl⟩
  clear u1 u2 u3 u4 qs;rintro _ ⟨qs,z5,z6,z7,u1,u2,u3,u4,rfl⟩;rw[fG]at u3 u2 u4;exact⟨qs,_,_,_,_,u1,λr m=>⟨(u2 r m).1,by have:=(u2 r m).2;lia⟩,by lia,(λx y o a b c d=>u4 x y o a b c (by lia)),rfl⟩
 rintro _ ⟨qs,z4,z5,z6,z7,u1,u2,u3,u4,rfl⟩;rw[fG]at u3 u2 u4;nofun;refine q qs _ u1 (λr m=>(u2 r m).1) (by lia) (λr m a b h=>?_) λx y ⟨o,⟨p1,m1,g1⟩,⟨p2,m2,g2⟩,⟨p3,m3,g3⟩,p4,m4,g4⟩=>?_
 ·obtain⟨p,mp,rfl⟩:=h_.mp hx0.1;obtain⟨p',mp',rfl⟩:=h_.mp hx1.1;have h1:=(h p mp).1;have h2:=(h p' mp').2;have h3:=u2 r m;lia
 have h1:=hx0.2 _ (y_ m1);have h2:=hx1.2 _ (y_ m2);have h3:=hy0.2 _ (y_ m3);have h4:=hy1.2 _ (y_ m4);exact u4 x y o (by lia) (by lia) (by lia) (by lia)
end
def CZ:FP:=λts k=>∃x y w h,∃(o:Bool),∃a b c d,ts=[.int x,.int y,.int w,.int h,.lst o [.int a,.int b,.int c,.int d]]/\k (.lst true ((jW x y w h a b c d).map ptP)) [.int x,.int y,.int w,.int h,.lst false [.int a,.int b,.int c,.int d]]
section
variable{P:Rj}{w:Ro}{K:Rb}{mg:Str->Option Q_}{base:Rq}
theorem Bb:FnScope ["_law_x","_law_y","_law_wide","_law_high","_law_cuts","_law_a","_law_b","_law_c","_law_d","_law_corners"] ["_law_x","_law_y","_law_wide","_law_high","_law_cuts"] (av Du):=⟨rfl,rfl,rfl,by rfl',rfl,by rfl',by rfl'⟩
theorem IY(F:Fun K "_law_box" "_law_box" Du f fd)(TX:Txt mg)  :FnOk P w K mg base CX0 1 f fd ["_law_x","_law_y","_law_wide","_law_high","_law_cuts"] (aG K 5 CZ):=by
 refine cv F Bb [true,true,true,true,true] rfl (λcdv A outer s H E hr=>?_);have sc:=@Bb;have nd1:(["_law_k","_law_corner","_law_corners"]:List Str).Nodup:=by rfl'
 refine⟨_,(ag (nS (bx 4) (yN (n:=4) (by rfl) (aC (aq (i:=5) sc.nd (by rfl) (f_ rfl) (by rfl)) (aC (aq (i:=6) sc.nd (by rfl) (f_ rfl) (by rfl)) (aC (aq (i:=7) sc.nd (by rfl) (f_ rfl) (by rfl)) (aC (aq (i:=8) sc.nd (by rfl) (f_ rfl) (by rfl)) fI)))))) (ag (aA (i:=9) sc.nd (by rfl) (m_ rfl) (by rfl) (aB (cn (aa (ax (aa (ah au (ae 0) (ae 5)) (aa (ae 1) af))) (aa (ax (aa (ah aO (ah au (ae 0) (ae 2)) (ae 6)) (aa (ae 1) af))) (aa (ax (aa (ah au (ae 0) (ae 2)) (aa (ah au (ae 1) (ae 6)) af))) (aa (ax (aa (ah au (ae 0) (ae 2)) (aa (ah aO (ah au (ae 1) (ae 3)) (ae 7)) af))) (aa (ax (aa (ah aO (ah au (ae 0) (ae 2)) (ae 7)) (aa (ah au (ae 1) (ae 3)) af))) af)))))))) (ag (aA (i:=9) sc.nd (by rfl) (m_ rfl) (by rfl) (aB (ah au (ae 9) (cn (aa (ax (aa (ah au (ae 0) (ae 8)) (aa (ah au (ae 1) (ae 3)) af))) (aa (ax (aa (ae 0) (aa (ah aO (ah au (ae 1) (ae 3)) (ae 8)) af))) (aa (ax (aa (ae 0) (aa (ah au (ae 1) (ae 5)) af))) af))))))) (aj (aJ (aB (d9 sc ["_law_k","_law_corner","_law_corners"] [none,none,some 9] nd1 (by rfl') (yR (by rfl) TX.enumerate (aa (ae 9) af)) (λ_ _ _=>(yN (n:=2) (by rfl) (aC (aq (i:=0) nd1 (by rfl) (f_ rfl) (by rfl) (hf:=(m_ rfl))) (aC (aq (i:=1) nd1 (by rfl) (f_ rfl) (by rfl) (hf:=(m_ rfl))) fI)))) (λ_ _ _=>(lC (fC (u6 hr) (ae 1) (aw hr (ae 2) (ah aO (ae 0) ge_int)) (cp _)))) (λ_ _ _=>(ae 1))))))))),λts kk hl hp=>?_⟩;clear hl;obtain⟨x,y,w,h,o,a,b,c,d,rfl,q⟩:=hp;nofun;have el:[T.tup [T.int (x+a),T.int y],T.tup [T.int (x+w-b),T.int y],T.tup [T.int (x+w),T.int (y+b)],T.tup [T.int (x+w),T.int (y+h-c)],T.tup [T.int (x+w-c),T.int (y+h)],T.tup [T.int (x+d),T.int (y+h)],T.tup [T.int x,T.int (y+h-d)],T.tup [T.int x,T.int (y+a)]]=(pJ x y w h a b c d).map ptP:=rfl;rw[el];have hl:8=(pJ x y w h a b c d).length:=rfl;have hp:(pJ x y w h a b c d).getD ((pJ x y w h a b c d).length-1) (0,0)=(x,y+a):=rfl;unfold jW at q;generalize pJ x y w h a b c d=ps at *;generalize (x,y+a)=p at *;refine aN (by rw[qM hl,<-hl];decide) (λi acc ie=>∃z1 z2,acc=(ddl p (ps.take i)).map ptP/\ie=[z1,z2,.lst false (ps.map ptP)]) ⟨_,_,rfl,rfl⟩ ?_ ?_
 ·rintro i u _ _ ⟨z1,z2,rfl,rfl⟩ eu;obtain⟨c,ec,rfl⟩:=zy hl eu;have hi:i<ps.length:=(e_.mp ec).1;nofun;refine dc (vY (g:=ptP) (l:=ps) hi (0,0)) ?_;nofun;rw[D3 hp ec];refine aT (λh=>?_) (λh=>?_)
  ·nofun;rw[if_neg h];exact⟨_,_,by rw[z_];rfl,rfl⟩
  nofun;rw[if_pos (Zt h),L'];exact⟨_,_,rfl,rfl⟩
 rintro _ _ ⟨z1,z2,rfl,rfl⟩;rw[qM hl,v_];nofun;exact q
end
def uU:FP:=λts k=>∃x y w h m,ts=[.int x,.int y,.int w,.int h,.int m]/\bd 15 x/\bd 15 y/\7<=w/\w<=20/\5<=h/\h<=20/\∀(ps:List Pt),0<ps.length->ps.length<=12->inR x y ps->Thr ps->k (.lst true (ps.map ptP)) ts
section
variable{P:Rj}{w:Ro}{K:Rb}{mg:Str->Option Q_}{base:Rq}
theorem sA:FnScope ["_law_x","_law_y","_law_wide","_law_high","_law_way","_law_u","_law_v","_law_rows","_law_p","_law_q"] ["_law_x","_law_y","_law_wide","_law_high","_law_way"] (av pH):=⟨rfl,rfl,rfl,by rfl',rfl,by rfl',by rfl'⟩
theorem A0(F:Fun K "_law_angled" "_law_angled" pH f fd)(TX:Txt mg)  :FnOk P w K mg base CX0 1 f fd ["_law_x","_law_y","_law_wide","_law_high","_law_way"] (aG K 5 uU):=by
 refine cv F sA [true,true,true,true,true] rfl (λcdv A outer s H E hr=>?_);have sc:=@sA;have nd1:(["_law_one","_law_other","_law_y","_law_x"]:List Str).Nodup:=by rfl'
 refine⟨_,(ag (nM (i:=5) (j:=6) (by rfl) sc.nd (by rfl) (by rfl) (by decide) (by rfl) (by rfl) (by rfl) (by rfl) (aa (aB (ah au ge_int (ah jX (ae 2) ge_int))) (aa (aB (ah au ge_int (ah jX (ae 3) ge_int))) af)) (by rfl)) (iq (ig (kC (fC (fH hr) (ae 4) ge_int (cp _))) (aj (aA (i:=7) sc.nd (by rfl) (f_ rfl) (by rfl) (aB (cn (aa (ax (aa ge_int (aa ge_int af))) (aa (ax (aa (ae 2) (aa ge_int af))) (aa (ax (aa (ae 2) (aa (ae 6) af))) (aa (ax (aa (ae 5) (aa (ae 6) af))) (aa (ax (aa (ae 5) (aa (ae 3) af))) (aa (ax (aa ge_int (aa (ae 3) af))) af)))))))))) (aj (ig (kC (fC (fH hr) (ae 4) ge_int (cp _))) (aj (aA (i:=7) sc.nd (by rfl) (f_ rfl) (by rfl) (aB (cn (aa (ax (aa ge_int (aa ge_int af))) (aa (ax (aa (ae 2) (aa ge_int af))) (aa (ax (aa (ae 2) (aa (ae 3) af))) (aa (ax (aa (ah aO (ae 2) (ae 5)) (aa (ae 3) af))) (aa (ax (aa (ah aO (ae 2) (ae 5)) (aa (ae 6) af))) (aa (ax (aa (ae 5) (aa (ae 6) af))) (aa (ax (aa (ae 5) (aa (ae 3) af))) (aa (ax (aa ge_int (aa (ae 3) af))) af)))))))))))) (ag (nM (i:=8) (j:=9) (by rfl) sc.nd (by rfl) (by rfl) (by decide) (by rfl) (by rfl) (by rfl) (by rfl) (aa (aB (ah jX (ae 3) ge_int)) (aa (aB (ah aO (ae 3) (ah jX (ae 3) ge_int))) af)) (by rfl)) (ag (aA (i:=7) sc.nd (by rfl) (f_ rfl) (by rfl) (aB (cn (aa (ax (aa ge_int (aa ge_int af))) (aa (ax (aa (ae 5) (aa ge_int af))) (aa (ax (aa (ae 5) (aa (ae 8) af))) (aa (ax (aa (ah aO (ae 2) (ae 5)) (aa (ae 8) af))) (aa (ax (aa (ah aO (ae 2) (ae 5)) (aa ge_int af))) (aa (ax (aa (ae 2) (aa ge_int af))) (aa (ax (aa (ae 2) (aa (ae 3) af))) (aa (ax (aa (ah aO (ae 2) (ae 5)) (aa (ae 3) af))) af))))))))))) (aj (aA (i:=7) sc.nd (by rfl) (f_ rfl) (by rfl) (aB (ah au (ae 7) (cn (aa (ax (aa (ah aO (ae 2) (ae 5)) (aa (ae 9) af))) (aa (ax (aa (ae 5) (aa (ae 9) af))) (aa (ax (aa (ae 5) (aa (ae 3) af))) (aa (ax (aa ge_int (aa (ae 3) af))) af)))))))))))))) (aj (aJ (aB (d9 sc ["_law_one","_law_other","_law_y","_law_x"] [none,none,some 1,some 0] nd1 (by rfl') (aZ (ae 7)) (λ_ _ _=>(iu (n:=2) (by rfl) (aC (aq (i:=0) nd1 (by rfl) (f_ rfl) (by rfl) (hf:=(m_ rfl))) (aC (aq (i:=1) nd1 (by rfl) (f_ rfl) (by rfl) (hf:=(m_ rfl))) fI)))) (λ_ _ _=>d5) (λ_ _ _=>(ax (aa (ah au (ae 3) (ae 0)) (aa (ah au (ae 2) (ae 1)) af)))))))))),λts kk hl hp=>?_⟩;clear hl;obtain⟨x,y,w,h,m,rfl,⟨x0,x1⟩,⟨y0,y1⟩,w0,w1,h0,h1,q⟩:=hp;nofun;refine⟨⟨by decide,by decide⟩,⟨by decide,by decide⟩,?_⟩;have b0:bR 0 0:=⟨by decide,by decide⟩;have bw:bR 0 w:=⟨by lia,by lia⟩;have bh:bR 0 h:=⟨by lia,by lia⟩;have bu:bR 0 (1+w/4):=⟨by lia,by lia⟩;have bv:bR 0 (1+h/3):=⟨by lia,by lia⟩;have bwu:bR 0 (w-(1+w/4)):=⟨by lia,by lia⟩;have bp:bR 0 (h/3):=⟨by lia,by lia⟩;have bq:bR 0 (h-h/3):=⟨by lia,by lia⟩;refine jo (λenv=>∃(rs:List Pt) (z8 z9:T),0<rs.length/\rs.length<=12/\inR 0 0 rs/\Thr rs/\env=[.int x,.int y,.int w,.int h,.int m,.int (1+w/4),.int (1+h/3),.lst true (rs.map ptP),z8,z9]) ?_ ?_
 ·nofun;refine aT (λg=>?_) (λg=>?_)
  ·nofun;exact⟨[(0,0),(w,0),(w,1+h/3),(1+w/4,1+h/3),(1+w/4,h),(0,h)],_,_,Nt _,NG rfl,⟨⟨b0,b0⟩,⟨bw,b0⟩,⟨bw,bv⟩,⟨bu,bv⟩,⟨bu,bh⟩,⟨b0,bh⟩,trivial⟩,K6 (by omega) (by lia) (by lia),rfl⟩
  nofun;refine aT (λg=>?_) (λg=>?_)
  ·nofun;exact⟨[(0,0),(w,0),(w,h),(w-(1+w/4),h),(w-(1+w/4),1+h/3),(1+w/4,1+h/3),(1+w/4,h),(0,h)],_,_,Nt _,NG rfl,⟨⟨b0,b0⟩,⟨bw,b0⟩,⟨bw,bh⟩,⟨bwu,bh⟩,⟨bwu,bv⟩,⟨bu,bv⟩,⟨bu,bh⟩,⟨b0,bh⟩,trivial⟩,JU (by omega) (by lia) (by lia),rfl⟩
  nofun;refine⟨⟨by decide,by decide⟩,⟨by decide,by decide⟩,?_⟩;exact⟨[(0,0),(1+w/4,0),(1+w/4,h/3),(w-(1+w/4),h/3),(w-(1+w/4),0),(w,0),(w,h),(w-(1+w/4),h),(w-(1+w/4),h-h/3),(1+w/4,h-h/3),(1+w/4,h),(0,h)],_,_,Nt _,NG rfl,⟨⟨b0,b0⟩,⟨bu,b0⟩,⟨bu,bp⟩,⟨bwu,bp⟩,⟨bwu,b0⟩,⟨bw,b0⟩,⟨bw,bh⟩,⟨bwu,bh⟩,⟨bwu,bq⟩,⟨bu,bq⟩,⟨bu,bh⟩,⟨b0,bh⟩,trivial⟩,K4 (by omega) (by lia) (by lia) (by lia),rfl⟩
 rintro _ ⟨rs,z8,z9,l0,l1,hb,ht,rfl⟩;nofun;refine aN (by rw[a_,sizeLine_eq];lia) (λi acc ie=>∃z1 z2,acc=(rs.take i).map (λp=>ptP (x+p.1,y+p.2))/\ie=[z1,z2,.int y,.int x]) ⟨_,_,rfl,rfl⟩ ?_ ?_
 ·rintro i u _ _ ⟨z1,z2,rfl,rfl⟩ eu;obtain⟨p,ep,rfl⟩:=aS eu;nofun;exact⟨_,_,by rw[map_take ep];rfl,rfl⟩
 rintro _ _ ⟨z1,z2,rfl,rfl⟩;rw[a_,v_];nofun;have e:rs.map (λp=>ptP (x+p.1,y+p.2))=(rs.map λp=>((x+p.1,y+p.2):Pt)).map ptP:=by rw[F'];rfl
 rw[e];refine q _ (by rw[a_];exact l0) (by rw[a_];exact l1) (xi λp m=>?_) (Hs ht);obtain⟨r,mr,rfl⟩:=h_.mp m;obtain⟨⟨r1,r2⟩,r3,r4⟩:=ju hb mr;exact⟨⟨by dsimp only;lia,by dsimp only;lia⟩,by dsimp only;lia,by dsimp only;lia⟩
end
def rM:FP:=λts k=>∃c n x y w h,ts=[stT c n,.int x,.int y,.int w,.int h]/\n<2 ^ 39/\bd 15 x/\bd 15 y/\7<=w/\w<=20/\7<=h/\h<=20/\∀(c':Cells) (n':Nat) (ps:List Pt),n<=n'->n'<=n+20->0<ps.length->ps.length<=12->inR x y ps->Thr ps->k (.lst true (ps.map ptP)) [stT c' n',.int x,.int y,.int w,.int h]
section
variable{P:Rj}{w:Ro}{K:Rb}{mg:Str->Option Q_}{base:Rq}
theorem pY:FnScope ["_law_state","_law_x","_law_y","_law_wide","_law_high","_law_way","_law_most","_law_cuts","_law_corners","_law_least","_law_first"] ["_law_state","_law_x","_law_y","_law_wide","_law_high"] (av oH):=⟨rfl,rfl,rfl,by rfl',rfl,by rfl',by rfl'⟩
theorem xE(F:Fun K "_law_outline" "_law_outline" oH f fd)(TX:Txt mg)  (Cl:Cal P w K mg base 1 "_law_take" ["_law_state","_law_many"] (aG K 2 mh))(pc:Cal P w K mg base 1 "_law_box" ["_law_x","_law_y","_law_wide","_law_high","_law_cuts"] (aG K 5 CZ))(nw:Cal P w K mg base 1 "_law_angled" ["_law_x","_law_y","_law_wide","_law_high","_law_way"] (aG K 5 uU)):FnOk P w K mg base CX0 2 f fd ["_law_state","_law_x","_law_y","_law_wide","_law_high"] (aG K 5 rM):=by
 refine cv F pY [true,true,true,true,true] rfl (λcdv A outer s H E hr=>?_);have sc:=@pY;have nd1:(["_law_turn","_law_most","_law_state"]:List Str).Nodup:=by rfl'
 refine⟨_,(ag (aA (i:=5) sc.nd (by rfl) (f_ rfl) (by rfl) (ay Cl hr (by rfl) (bf 0 (ai ge_int az)))) (ag (aA (i:=6) sc.nd (by rfl) (m_ rfl) (by rfl) (aB (ah jX (aE (i9 rfl) (by rfl) TX.min (by rfl') (aa (ae 3) (aa (ae 4) af))) ge_int))) (ag (FI sc (i:=7) ["_law_turn","_law_most","_law_state"] [none,some 6,some 0] nd1 (by rfl') (by rfl) (f_ rfl) (by rfl) (iz (by rfl) TX.range (aa ge_int af)) (λ_ _ _=>(aq (i:=0) nd1 (by rfl) (f_ rfl) (by rfl) (hf:=(m_ rfl)))) (λ_ _ _=>d5) (λ_ _ _=>(ay Cl hr (by rfl) (bf 2 (ai (aw hr (aB (cn (aa ge_int (aa ge_int (aa (ah au (ae 1) ge_int) af))))) (ay Cl hr (by rfl) (bf 2 (ai ge_int az)))) az)))) (by rfl)) (ag (aA (i:=8) sc.nd (by rfl) (f_ rfl) (by rfl) (aB (ay pc hr (by rfl) (ai (ae 1) (ai (ae 2) (ai (ae 3) (ai (ae 4) (ai (ae 7) az)))))))) (iq (ig (kC (fC iN (ae 5) ge_int (cp _))) (aj (aA (i:=8) sc.nd (by rfl) (f_ rfl) (by rfl) (aB (ay nw hr (by rfl) (ai (ae 1) (ai (ae 2) (ai (ae 3) (ai (ae 4) (ai (ae 5) az))))))))) d8) (iq (ig (kC (fC (fH hr) (ae 5) ge_int (cp _))) (ag (aA (i:=9) sc.nd (by rfl) (f_ rfl) (by rfl) (aB (aE (i9 rfl) (by rfl) TX.min (by rfl') (aa (ae 3) (aa (ae 4) af))))) (aj (aA (i:=8) sc.nd (by rfl) (f_ rfl) (by rfl) (aB (cn (aa (ax (aa (ae 1) (aa (ae 2) af))) (aa (ax (aa (ah au (ae 1) (ae 9)) (aa (ae 2) af))) (aa (ax (aa (ae 1) (aa (ah au (ae 2) (ae 9)) af))) af)))))))) d8) (ag (aA (i:=10) sc.nd (by rfl) (f_ rfl) (by rfl) (ay Cl hr (by rfl) (bf 0 (ai (aB (aE jO (by rfl) TX.len (by rfl') (aa (ae 8) af))) az)))) (ag (aA (i:=8) sc.nd (by rfl) (f_ rfl) (by rfl) (aB (ah au (vU (ae 8) (yu (ae 10)) yh) (vU (ae 8) yh (yu (ae 10)))))) (iq (ig (fC (fH hr) (ay Cl hr (by rfl) (bf 0 (ai ge_int az))) ge_int (cp _)) (aj (iI (CL 8 PySem.F.slot_list_reverse PySem.F.type_list_reverse vX))) d8) (aj (aJ (kZ 8)))))))))))),λts kk hl hp=>?_⟩;clear hl;obtain⟨c,n,x,y,w,h,rfl,hn,⟨x0,x1⟩,⟨y0,y1⟩,w0,w1,h0,h1,q⟩:=hp;nofun;walk_at "take";intro way c1 a1 b1;nofun;refine⟨⟨by decide,by decide⟩,by decide,aN (by rw[fG,sizeLine_eq];decide) (λi acc ie=>∃c' n' cs z,n+1<=n'/\n'<=n+1+2*i/\acc=Mx T.int cs/\cs.length=i/\(∀v∈cs,0<=v/\v<=min w h/2)/\ie=[z,.int (min w h/2),stT c' n']) ⟨c1,n+1,[],_,c_ _,by lia,rfl,rfl,(λ_ m=>by cases m),rfl⟩ ?_ ?_⟩
 ·rintro i t _ _ ⟨c',n',cs,z,l1,l2,rfl,hl,hv,rfl⟩ ei;have hi:i<4:=i7 ei;nofun;walk_at "take";intro r c2 a2 b2;nofun;obtain⟨v,ev,v0,v1⟩:=og (λv=>1<=v/\v<=min w h/2+1) (ns:=[1,2,min w h/2+1]) (i:=r) (by omega) (by show r<3;omega) (by intro v hv;simp only[i_,Mg,or_false]at hv;lia)
  refine dc ev ?_;nofun;walk_at "take";intro r2 c3 a3 b3;nofun;refine⟨c3,n'+1+1,cs++[r2],_,by lia,by lia,by rw[z_];rfl,by rw[n_,hl];rfl,λv m=>?_,rfl⟩;rcases C'.mp m with m|m
  ·exact hv v m
  rw[x_.mp m];lia
 rintro _ _ ⟨c2,n2,cs,z,l1,l2,rfl,hl,hv,rfl⟩;rw[fG]at l2 hl;obtain⟨a,b,c',d,rfl,ha,hb,hc,hd⟩:=four (P:=λv=>0<=v/\v<=min w h/2) hl hv;nofun;refine⟨x,y,w,h,false,a,b,c',d,rfl,?_⟩;have pb:inR x y (jW x y w h a b c' d):=zR ⟨by lia,by lia⟩ ⟨by lia,by lia⟩ ⟨by lia,by lia⟩ ⟨by lia,by lia⟩ ⟨by lia,by lia⟩ ⟨by lia,by lia⟩ ⟨by lia,by lia⟩ ⟨by lia,by lia⟩ ⟨by lia,by lia⟩ ⟨by lia,by lia⟩ ⟨by lia,by lia⟩ ⟨by lia,by lia⟩;have pl:(jW x y w h a b c' d).length<=8:=yw;have pt:Thr (jW x y w h a b c' d):=EH (by omega) (by lia) ha hb hc hd;have p0:0<(jW x y w h a b c' d).length:=mX (by lia);generalize jW x y w h a b c' d=ps at *;nofun;refine jo (λenv=>∃(ps:List Pt) (z9 z10:T),0<ps.length/\ps.length<=12/\inR x y ps/\Thr ps/\env=[stT c2 n2,.int x,.int y,.int w,.int h,.int way,.int (min w h/2),.lst true [.int a,.int b,.int c',.int d],.lst true (ps.map ptP),z9,z10]) ?_ ?_
 ·nofun;refine aT (λg=>?_) (λg=>?_)
  ·nofun;refine⟨x,y,w,h,way,rfl,⟨x0,x1⟩,⟨y0,y1⟩,by omega,w1,by lia,h1,λps' g1 g2 g3 g4=>?_⟩;nofun;exact⟨ps',_,_,g1,g2,g3,g4,rfl⟩
  nofun;exact⟨ps,_,_,p0,by lia,pb,pt,rfl⟩
 clear pb pl p0 pt ps;rintro _ ⟨ps,z9,z10,p0,pl,pb,pt,rfl⟩;refine jo (λenv=>∃(ps:List Pt) (z9 z10:T),0<ps.length/\ps.length<=12/\inR x y ps/\Thr ps/\env=[stT c2 n2,.int x,.int y,.int w,.int h,.int way,.int (min w h/2),.lst true [.int a,.int b,.int c',.int d],.lst true (ps.map ptP),z9,z10]) ?_ ?_
 ·nofun;refine aT (λg=>?_) (λg=>?_)
  ·nofun;exact⟨[(x,y),(x+min w h,y),(x,y+min w h)],_,_,Nt _,NG rfl,⟨⟨⟨by dsimp only;lia,by dsimp only;lia⟩,by dsimp only;lia,by dsimp only;lia⟩,⟨⟨by dsimp only;lia,by dsimp only;lia⟩,by dsimp only;lia,by dsimp only;lia⟩,⟨⟨by dsimp only;lia,by dsimp only;lia⟩,by dsimp only;lia,by dsimp only;lia⟩,trivial⟩,L4 (by lia),rfl⟩
  nofun;exact⟨ps,_,_,p0,pl,pb,pt,rfl⟩
 clear pb pl p0 pt ps;rintro _ ⟨ps,z9,z10,p0,pl,pb,pt,rfl⟩;nofun;walk_at "take";intro first c3 a3 b3
 nofun;obtain⟨e1,e2⟩:=Ld (ts:=ps.map ptP) (m:=first) a3 (by rw[a_];exact b3);rw[e1,e2,<-QI,<-QJ,aW,aW,<-z_];have l1:(ps.drop first.toNat++ps.take first.toNat).length=ps.length:=by rw[n_,MP,L_];lia
 have m1:inR x y (ps.drop first.toNat++ps.take first.toNat):=vW pb λp m=>(C'.mp m).elim Ot Ou;have t1:Thr (ps.drop first.toNat++ps.take first.toNat):=BO pt (λs=>by rw[Cu,Ni]) λp m=>C'.mpr (Or.symm (C'.mp (by rwa[Ni])))
 refine⟨by rw[a_,a_,MP,L_];lia,by rw[show((ps.drop first.toNat).all λx=>fE (ptP x))=true from fD _,show((ps.take first.toNat).all λx=>fE (ptP x))=true from fD _];rfl,?_⟩;generalize ps.drop first.toNat++ps.take first.toNat=qs at *;refine jo (λenv=>∃(c4:Cells) (qs:List Pt),qs.length=ps.length/\inR x y qs/\Thr qs/\env=[stT c4 (n2+1+1),.int x,.int y,.int w,.int h,.int way,.int (min w h/2),.lst true [.int a,.int b,.int c',.int d],.lst true (qs.map ptP),z9,.int first]) ?_ ?_
 ·nofun;walk_at "take";intro r c4 a4 b4;nofun;refine aT (λg=>?_) (λg=>?_)
  ·nofun;exact⟨c4,qs.reverse,by rw[ML,l1],vW m1 λp m=>NI.mp m,BO t1 (λs=>DT λ_ _=>tV) λp m=>NI.mpr m,by rw[List.map_reverse]⟩
  nofun;exact⟨c4,qs,l1,m1,t1,rfl⟩
 rintro _ ⟨c4,qs,l2,m2,t2,rfl⟩;nofun;exact q c4 (n2+1+1) qs (by lia) (by lia) (by lia) (by lia) m2 t2
end
def sE:FP:=λts k=>∃(b o:Bool) (t:Tl) (x y:Int) (s:Nat),ts=[tlT b o t,.int x,.int y,.int (s:Int)]/\s<4/\k (.bl (inM t (x,y,s))) ts
section
variable{P:Rj}{w:Ro}{K:Rb}{mg:Str->Option Q_}{base:Rq}
theorem qC:FnScope ["_law_tool_here","_law_x","_law_y","_law_side","_law_ends","_law_points"] ["_law_tool_here","_law_x","_law_y","_law_side"] (av nT):=⟨rfl,rfl,rfl,by rfl',rfl,by rfl',by rfl'⟩
theorem wK(F:Fun K "_law_in_mark" "_law_in_mark" nT f fd)(TX:Txt mg)  :FnOk P w K mg base CX0 1 f fd ["_law_tool_here","_law_x","_law_y","_law_side"] (aG K 4 sE):=by
 refine cv F qC [true,true,true,true] rfl (λcdv A outer s H E hr=>?_);have sc:=@qC;have nd1:(["_law_one","_law_other","_law_y","_law_x"]:List Str).Nodup:=by rfl'
 have nd2:(["_law_one","_law_other","_law_tool_here"]:List Str).Nodup:=by rfl'
 refine⟨_,(@ag _ _ _ _ _ _ (@aA _ _ _ _ _ 4 _ _ sc.nd (by rfl) (f_ rfl) (by rfl) (@aB _ _ _ (@aw _ _ _ _ _ _ _ hr (@cn _ _ _ _ (@aa _ _ _ _ _ (@cn _ _ _ _ (@aa _ _ _ _ _ (@ax _ _ _ _ _ (@aa _ _ _ _ _ (@ge_int _ _ _ _) (@aa _ _ _ _ _ (@ge_int _ _ _ _) (@af _) (by rfl)) (by rfl))) (@aa _ _ _ _ _ (@ax _ _ _ _ _ (@aa _ _ _ _ _ (@ge_int _ _ _ _) (@aa _ _ _ _ _ (@ge_int _ _ _ _) (@af _) (by rfl)) (by rfl))) (@af _) (by rfl)) (by rfl))) (@aa _ _ _ _ _ (@cn _ _ _ _ (@aa _ _ _ _ _ (@ax _ _ _ _ _ (@aa _ _ _ _ _ (@ge_int _ _ _ _) (@aa _ _ _ _ _ (@ge_int _ _ _ _) (@af _) (by rfl)) (by rfl))) (@aa _ _ _ _ _ (@ax _ _ _ _ _ (@aa _ _ _ _ _ (@ge_int _ _ _ _) (@aa _ _ _ _ _ (@ge_int _ _ _ _) (@af _) (by rfl)) (by rfl))) (@af _) (by rfl)) (by rfl))) (@aa _ _ _ _ _ (@cn _ _ _ _ (@aa _ _ _ _ _ (@ax _ _ _ _ _ (@aa _ _ _ _ _ (@ge_int _ _ _ _) (@aa _ _ _ _ _ (@ge_int _ _ _ _) (@af _) (by rfl)) (by rfl))) (@aa _ _ _ _ _ (@ax _ _ _ _ _ (@aa _ _ _ _ _ (@ge_int _ _ _ _) (@aa _ _ _ _ _ (@ge_int _ _ _ _) (@af _) (by rfl)) (by rfl))) (@af _) (by rfl)) (by rfl))) (@aa _ _ _ _ _ (@cn _ _ _ _ (@aa _ _ _ _ _ (@ax _ _ _ _ _ (@aa _ _ _ _ _ (@ge_int _ _ _ _) (@aa _ _ _ _ _ (@ge_int _ _ _ _) (@af _) (by rfl)) (by rfl))) (@aa _ _ _ _ _ (@ax _ _ _ _ _ (@aa _ _ _ _ _ (@ge_int _ _ _ _) (@aa _ _ _ _ _ (@ge_int _ _ _ _) (@af _) (by rfl)) (by rfl))) (@af _) (by rfl)) (by rfl))) (@af _) (by rfl)) (by rfl)) (by rfl)) (by rfl))) (@ae _ _ 3 _ (by rfl) (by first|exact f_ rfl|exact m_ (f_ rfl)|exact m_ (m_ rfl)) (by decide) (by decide)) (by intro _ _;rfl))) (by rfl) (by first|exact .inl rfl|exact .inr rfl)) (@ag _ _ _ _ _ _ (@aA _ _ _ _ _ 5 _ _ sc.nd (by rfl) (f_ rfl) (by rfl) (@aB _ _ _ (@ah _ _ _ _ _ _ _ _ au (@cn _ _ _ _ (@aa _ _ _ _ _ (@ax _ _ _ _ _ (@aa _ _ _ _ _ (@ah _ _ _ _ _ _ _ _ au (@ah _ _ _ _ _ _ _ _ cq (@ge_int _ _ _ _) (@ae _ _ 1 _ (by rfl) (by first|exact f_ rfl|exact m_ (f_ rfl)|exact m_ (m_ rfl)) (by decide) (by decide))) (@ge_int _ _ _ _)) (@aa _ _ _ _ _ (@ah _ _ _ _ _ _ _ _ au (@ah _ _ _ _ _ _ _ _ cq (@ge_int _ _ _ _) (@ae _ _ 2 _ (by rfl) (by first|exact f_ rfl|exact m_ (f_ rfl)|exact m_ (m_ rfl)) (by decide) (by decide))) (@ge_int _ _ _ _)) (@af _) (by rfl)) (by rfl))) (@af _) (by rfl))) (@d9 _ _ _ _ sc ["_law_one","_law_other","_law_y","_law_x"] [none,none,some 2,some 1] nd1 _ _ _ _ _ _ _ _ _ _ (by rfl') (@aZ _ _ _ _ (@ae _ _ 4 _ (by rfl) (by first|exact f_ rfl|exact m_ (f_ rfl)|exact m_ (m_ rfl)) (by decide) (by decide))) (λ_ _ _=>(@iu _ _ _ _ _ _ 2 (by rfl) (@aC _ _ _ _ _ _ (@aq _ _ _ 0 _ nd1 (by rfl) (f_ rfl) (by rfl) (m_ rfl)) (@aC _ _ _ _ _ _ (@aq _ _ _ 1 _ nd1 (by rfl) (f_ rfl) (by rfl) (m_ rfl)) (@fI _ _) (by rfl)) (by rfl)) (by rfl) (by rfl))) (λ_ _ _=>(@d5 _)) (λ_ _ _=>(@ax _ _ _ _ _ (@aa _ _ _ _ _ (@ah _ _ _ _ _ _ _ _ cq (@ge_int _ _ _ _) (@ah _ _ _ _ _ _ _ _ au (@ae _ _ 3 _ (by rfl) (by first|exact f_ rfl|exact m_ (f_ rfl)|exact m_ (m_ rfl)) (by decide) (by decide)) (@ae _ _ 0 _ (by rfl) (by first|exact f_ rfl|exact m_ (f_ rfl)|exact m_ (m_ rfl)) (by decide) (by decide)))) (@aa _ _ _ _ _ (@ah _ _ _ _ _ _ _ _ cq (@ge_int _ _ _ _) (@ah _ _ _ _ _ _ _ _ au (@ae _ _ 2 _ (by rfl) (by first|exact f_ rfl|exact m_ (f_ rfl)|exact m_ (m_ rfl)) (by decide) (by decide)) (@ae _ _ 1 _ (by rfl) (by first|exact f_ rfl|exact m_ (f_ rfl)|exact m_ (m_ rfl)) (by decide) (by decide)))) (@af _) (by rfl)) (by rfl)))) (by rfl) (by rfl) (by rfl) (by intro _;rfl)))) (by rfl) (by first|exact .inl rfl|exact .inr rfl)) (@aj _ _ _ _ (@aJ _ _ _ _ _ (@aB _ _ _ (@aE _ _ _ _ _ _ _ _ _ (AH rfl) (by rfl) TX.all (by rfl') (@aa _ _ _ _ _ (@d9 _ _ _ _ sc ["_law_one","_law_other","_law_tool_here"] [none,none,some 0] nd2 _ _ _ _ _ _ _ _ _ _ (by rfl') (@aZ _ _ _ _ (@ae _ _ 5 _ (by rfl) (by first|exact f_ rfl|exact m_ (f_ rfl)|exact m_ (m_ rfl)) (by decide) (by decide))) (λ_ _ _=>(@iu _ _ _ _ _ _ 2 (by rfl) (@aC _ _ _ _ _ _ (@aq _ _ _ 0 _ nd2 (by rfl) (f_ rfl) (by rfl) (m_ rfl)) (@aC _ _ _ _ _ _ (@aq _ _ _ 1 _ nd2 (by rfl) (f_ rfl) (by rfl) (m_ rfl)) (@fI _ _) (by rfl)) (by rfl)) (by rfl) (by rfl))) (λ_ _ _=>(@d5 _)) (λ_ _ _=>(@kL _ _ _ _ _ _ _ _ xU (@ah _ _ _ _ _ _ _ _ au (@aE _ _ _ _ _ _ _ _ _ jT (by rfl) TX.abs (by rfl') (@aa _ _ _ _ _ (@ae _ _ 0 _ (by rfl) (by first|exact f_ rfl|exact m_ (f_ rfl)|exact m_ (m_ rfl)) (by decide) (by decide)) (@af _) (by rfl)) (by decide) (by decide) (by rfl) (by rfl)) (@aE _ _ _ _ _ _ _ _ _ jT (by rfl) TX.abs (by rfl') (@aa _ _ _ _ _ (@ae _ _ 1 _ (by rfl) (by first|exact f_ rfl|exact m_ (f_ rfl)|exact m_ (m_ rfl)) (by decide) (by decide)) (@af _) (by rfl)) (by decide) (by decide) (by rfl) (by rfl))) (@ah _ _ _ _ _ _ _ _ cq (@ge_int _ _ _ _) (@ah _ _ _ _ _ _ _ _ au (@aw _ _ _ _ _ _ _ hr (@ae _ _ 2 _ (by rfl) (by first|exact f_ rfl|exact m_ (f_ rfl)|exact m_ (m_ rfl)) (by decide) (by decide)) (@ge_int _ _ _ _) (by intro _ _;rfl)) (@aw _ _ _ _ _ _ _ hr (@ae _ _ 2 _ (by rfl) (by first|exact f_ rfl|exact m_ (f_ rfl)|exact m_ (m_ rfl)) (by decide) (by decide)) (@ge_int _ _ _ _) (by intro _ _;rfl)))) (cp _))) (by rfl) (by rfl) (by rfl) (by intro _;rfl)) (@af _) (by rfl)) (by decide) (by decide) (by rfl) (by rfl))))))),λts kk hl hp=>?_⟩;clear hl;obtain⟨b,o,t,x,y,s,rfl,hs,q⟩:=hp;nofun;refine dc (zu hs).1 ?_;have l2:=(zu hs).2;unfold inM ptM at q;dsimp only at q;generalize edL.getD s []=es at *;nofun;refine⟨.inl ⟨by decide,by decide⟩,.inl ⟨by decide,by decide⟩,aN (by rw[a_,sizeLine_eq];lia) (λi acc ie=>∃z1 z2,acc=(es.take i).map (λe=>ptP (2*(x+e.1),2*(y+e.2)))/\ie=[z1,z2,.int y,.int x]) ⟨_,_,rfl,rfl⟩ ?_ ?_⟩
 ·rintro i u _ _ ⟨z1,z2,rfl,rfl⟩ ei;obtain⟨e,ee,rfl⟩:=aS ei;nofun;exact⟨.inl ⟨by decide,by decide⟩,.inl ⟨by decide,by decide⟩,_,_,by rw[map_take ee];rfl,rfl⟩
 rintro _ _ ⟨z1,z2,rfl,rfl⟩;rw[a_,v_];nofun;have ep:T.tup [T.int (2*x+1),T.int (2*y+1)]::Mx (λe=>ptP (2*(x+e.1),2*(y+e.2))) es=((2*x+1,2*y+1)::es.map λe=>((2*(x+e.1),2*(y+e.2)):Pt)).map ptP:=by rw[d_,F'];rfl
 have lp:((2*x+1,2*y+1)::es.map λe=>((2*(x+e.1),2*(y+e.2)):Pt)).length=3:=by rw[gV,a_,l2]
 rw[ep];generalize ((2*x+1,2*y+1)::es.map λe=>((2*(x+e.1),2*(y+e.2)):Pt))=ps at *;refine⟨by lia,aN (by rw[a_,sizeLine_eq];lia) (λi acc ie=>∃z1 z2,acc=(ps.take i).map (λp=>T.bl (decide ((p.1.natAbs:Int)+p.2.natAbs<=2*(t.1+t.2.1))))/\ie=[z1,z2,tlT b false t]) ⟨_,_,rfl,rfl⟩ ?_ ?_⟩
 ·rintro i u _ _ ⟨z1,z2,rfl,rfl⟩ ei;obtain⟨p,ee,rfl⟩:=aS ei;nofun;exact⟨.inl ⟨by decide,by decide⟩,_,_,by rw[map_take ee],rfl⟩
 rintro _ _ ⟨z1,z2,rfl,rfl⟩;rw[a_,v_];nofun;rw[Oq];exact q
end
def CF:FP:=λts k=>∃(b o:Bool) (t:Tl),ts=[tlT b o t,ptP (0,0)]/\tlO t/\k (.dT true (dQ (nrQ t))) ts
section
variable{P:Rj}{w:Ro}{K:Rb}{mg:Str->Option Q_}{base:Rq}
theorem zG:FnScope ["_law_tool_here","_law_corner","_law_found","_law_x","_law_y","_law_side"] ["_law_tool_here","_law_corner"] (av xG):=⟨rfl,rfl,rfl,by rfl',rfl,by rfl',by rfl'⟩
theorem EZ(F:Fun K "_law_mark" "_law_mark" xG f fd)(TX:Txt mg)  (sw:Cal P w K mg base 1 "_law_in_mark" ["_law_tool_here","_law_x","_law_y","_law_side"] (aG K 4 sE)):FnOk P w K mg base CX0 2 f fd ["_law_tool_here","_law_corner"] (aG K 2 CF):=by
 refine cv F zG [true,true] rfl (λcdv A outer s H E hr=>?_);have sc:=@zG;refine⟨_,(ag (aA (i:=2) sc.nd (by rfl) (f_ rfl) (by rfl) (aB qL)) (ag (cm Rv (by rfl) (iB (by rfl) TX.range (aa (aB (mF (aw hr (ae 0) ge_int))) (aa (aB (aw hr (ae 0) ge_int)) af))) (aq (i:=3) sc.nd (by rfl) (f_ rfl) (by rfl)) (aj (cm Rv (by rfl) (iB (by rfl) TX.range (aa (aB (mF (aw hr (ae 0) ge_int))) (aa (aB (aw hr (ae 0) ge_int)) af))) (aq (i:=4) sc.nd (by rfl) (f_ rfl) (by rfl)) (aj (cm Rv (by rfl) (iz (by rfl) TX.range (aa ge_int af)) (aq (i:=5) sc.nd (by rfl) (f_ rfl) (by rfl)) (aj (ig (kC (kT (ay sw hr (by rfl) (ai (ae 0) (ai (ae 3) (ai (ae 4) (ai (ae 5) az))))))) (aj (nS iL (qv (i:=2) hr (aB (ax (aa (ah au (aw hr (ae 1) ge_int) (ae 3)) (aa (ah au (aw hr (ae 1) ge_int) (ae 4)) (aa (ae 5) af)))))))) d8))))))) (aj (aJ (kZ 2))))),λts kk hl hp=>?_⟩;clear hl;obtain⟨b,o,t,rfl,ht,q⟩:=hp;rw[<-mk_eq ht]at q;obtain⟨t1,t2,t3,t4⟩:=ht;have im:∀x y s,inM t (x,y,s)=inM (t.1,t.2.1,0,0,0) (x,y,s):=λ_ _ _=>rfl;nofun;refine⟨rfl,by lia,aV (λi env=>∃z3 z4 z5,env=[tlT b o t,ptP (0,0),.dT true (dQ (mkN t.1 t.2.1 i)),z3,z4,z5]) ⟨_,_,_,rfl⟩ ?_ ?_⟩
 ·rintro i u _ ⟨z3,z4,z5,rfl⟩ ei;have hi:=i7 ei;have et:=jA ei;subst et;nofun;refine⟨by lia,aV (λj env=>∃z4 z5,env=[tlT b o t,ptP (0,0),.dT true (dQ (mkN t.1 t.2.1 i++mkC t.1 t.2.1 (-t.1+i) j)),.int (-t.1+i),z4,z5]) ⟨_,_,by rw[show mkC t.1 t.2.1 (-t.1+i) 0=[]from rfl,L']⟩ ?_ ?_⟩
  ·rintro j u _ ⟨z4,z5,rfl⟩ ej;have hj:=i7 ej;have et:=jA ej;subst et;nofun;refine⟨by decide,aV (λs env=>∃z5,env=[tlT b o t,ptP (0,0),.dT true (dQ (mkN t.1 t.2.1 i++mkC t.1 t.2.1 (-t.1+i) j++((p_ s).filter λs=>inM (t.1,t.2.1,0,0,0) (-t.1+i,-t.1+j,s)).map λs=>(-t.1+(i:Int),-t.1+(j:Int),s))),.int (-t.1+i),.int (-t.1+j),z5]) ⟨_,by rw[List.range_zero,OA,NW,L']⟩ ?_ ?_⟩
   ·rintro s u _ ⟨z5,rfl⟩ es;have hs4:s<4:=i7 es;have et:=jA es;subst et;rw[NF];nofun;refine⟨b,false,t,-t.1+i,-t.1+j,s,rfl,hs4,?_⟩;nofun;rw[Nj,Nh,z_,im];refine oj (λh=>?_) (λh=>?_)
    ·nofun;have l1:=Ir (r:=t.1) (k:=t.2.1) (i:=i) (j:=j) (s:=s) (by lia);have ef:((Oe (λs=>inM (t.1,t.2.1,0,0,0) (-t.1+i,-t.1+j,s)) [s]).map λs=>((-t.1+(i:Int),-t.1+(j:Int),s):Qt))=[(-t.1+(i:Int),-t.1+(j:Int),s)]:=by rw[Mh,h];rfl
     rw[NF,NF];exact⟨by rw[sO];lia,_,by rw[ef,<-w_,<-tQ HG];rfl⟩
    nofun;have ef:((Oe (λs=>inM (t.1,t.2.1,0,0,0) (-t.1+i,-t.1+j,s)) [s]).map λs=>((-t.1+(i:Int),-t.1+(j:Int),s):Qt))=[]:=by rw[Mh,h];rfl
    exact⟨_,by rw[ef,L']⟩
   rintro _ ⟨z5,rfl⟩;have e1:mkC t.1 t.2.1 (-t.1+i) (j+1)=mkC t.1 t.2.1 (-t.1+i) j++_:=jl;exact⟨_,_,by rw[e1,<-w_];rfl⟩
  rintro _ ⟨z4,z5,rfl⟩;rw[fG];have e1:mkN t.1 t.2.1 (i+1)=mkN t.1 t.2.1 i++_:=jl;exact⟨_,_,_,by rw[e1]⟩
 rintro _ ⟨z3,z4,z5,rfl⟩;rw[fG];nofun;exact q
end
def BW:FP:=λts k=>∃c n m,ts=[stT c n,.int m]/\n<2 ^ 39/\2<=m/\m<=4/\∀(c':Cells) (t:Tl),tlO t->k (tlT false false t) [stT c' (n+5),.int m]
section
variable{P:Rj}{w:Ro}{K:Rb}{mg:Str->Option Q_}{base:Rq}
theorem zK:FnScope ["_law_state","_law_most","_law_r","_law_k"] ["_law_state","_law_most"] (av x9):=⟨rfl,rfl,rfl,by rfl',rfl,by rfl',by rfl'⟩
theorem Ej(F:Fun K "_law_tool" "_law_tool" x9 f fd)(TX:Txt mg)  (Cl:Cal P w K mg base 1 "_law_take" ["_law_state","_law_many"] (aG K 2 mh)):FnOk P w K mg base CX0 2 f fd ["_law_state","_law_most"] (aG K 2 BW):=by refine cv F zK [true,true] rfl (λcdv A outer s H E hr=>?_);have sc:=@zK;refine⟨_,(ag (aA (i:=2) sc.nd (by rfl) (f_ rfl) (by rfl) (ah au ge_int (ay Cl hr (by rfl) (bf 0 (ai (aB (ah aO (ae 1) ge_int)) az))))) (ag (aA (i:=3) sc.nd (by rfl) (f_ rfl) (by rfl) (ah au ge_int (ay Cl hr (by rfl) (bf 0 (ai (aB (ah aO (ae 2) ge_int)) az))))) (aj (aJ (ax (aa (bx 2) (aa (bx 3) (aa (ah au ge_int (ay Cl hr (by rfl) (bf 0 (ai ge_int az)))) (aa (ah au ge_int (ay Cl hr (by rfl) (bf 0 (ai ge_int az)))) (aa (ah au ge_int (ay Cl hr (by rfl) (bf 0 (ai ge_int az)))) af)))))))))),λts kk hl hp=>?_⟩;clear hl;obtain⟨c,n,m,rfl,hn,m0,m1,q⟩:=hp;nofun;walk_at "take";intro r c1 a1 b1;nofun;walk_at "take";intro kk c2 a2 b2;nofun;walk_at "take";intro u c3 a3 b3;nofun;walk_at "take";intro v c4 a4 b4;nofun;walk_at "take";intro w' c5 a5 b5;nofun;exact q c5 (2+r,1+kk,_,_,_) ⟨by dsimp only;lia,by dsimp only;lia,by dsimp only;lia,by dsimp only;lia⟩
end
def Bo:FP:=λts k=>∃(o b u:Bool) (M:List Qt) (p:Pt),ts=[.lst o (M.map qtT),cbT b u p]/\M.length<100000/\k (.lst true ((M.map (mvQ p)).map qtT)) ts
section
variable{P:Rj}{w:Ro}{K:Rb}{mg:Str->Option Q_}{base:Rq}
theorem yb:FnScope ["near","corner","x","y"] ["near","corner"] (av xr):=⟨rfl,rfl,rfl,by rfl',rfl,by rfl',by rfl'⟩
theorem EX(F:Fun K "laid" "laid" xr f fd)(TX:Txt mg)  :FnOk P w K mg base CX0 1 f fd ["near","corner"] (aG K 2 Bo):=by
 refine cv F yb [true,true] rfl (λcdv A outer s H E hr=>?_);have sc:=@yb;have nd1:(["along","up","side","y","x"]:List Str).Nodup:=by rfl'
 refine⟨_,(ag (aA (i:=2) sc.nd (by rfl) (m_ rfl) (by rfl) (aB (aw hr (ae 1) ge_int))) (ag (aA (i:=3) sc.nd (by rfl) (m_ rfl) (by rfl) (aB (aw hr (ae 1) ge_int))) (aj (aJ (aB (d9 sc ["along","up","side","y","x"] [none,none,none,some 3,some 2] nd1 (by rfl') (aZ (ae 0)) (λ_ _ _=>(iu (n:=3) (by rfl) (aC (aq (i:=0) nd1 (by rfl) (f_ rfl) (by rfl) (hf:=(m_ rfl))) (aC (aq (i:=1) nd1 (by rfl) (f_ rfl) (by rfl) (hf:=(m_ rfl))) (aC (aq (i:=2) nd1 (by rfl) (f_ rfl) (by rfl) (hf:=(m_ rfl))) fI))))) (λ_ _ _=>d5) (λ_ _ _=>(ax (aa (ah au (ae 4) (ae 0)) (aa (ah au (ae 3) (ae 1)) (aa (ae 2) af))))))))))),λts kk hl hp=>?_⟩;clear hl;obtain⟨o,b,u,M,p,rfl,hl,q⟩:=hp;nofun;refine aN (by rw[a_,sizeLine_eq];lia) (λi acc ie=>∃z1 z2 z3,acc=((M.take i).map (mvQ p)).map qtT/\ie=[z1,z2,z3,.int p.2,.int p.1]) ⟨_,_,_,rfl,rfl⟩ ?_ ?_
 ·rintro i t _ _ ⟨z1,z2,z3,rfl,rfl⟩ ei;obtain⟨m,em,rfl⟩:=aS ei;nofun;exact⟨_,_,_,by rw[map_take em,z_];rfl,rfl⟩
 rintro _ _ ⟨z1,z2,z3,rfl,rfl⟩;rw[a_,v_];nofun;exact q
end
def Dt:FP:=λts k=>∃(o u:Bool) (M rs:List Qt) (p:Pt),ts=[.lst o (M.map qtT),ptP p,.dT u (dQ rs)]/\k (.bl ((M.map (mvQ p)).all λz=>decide (z∈rs))) [.lst false (M.map qtT),ptP p,.dT u (dQ rs)]
section
variable{P:Rj}{w:Ro}{K:Rb}{mg:Str->Option Q_}{base:Rq}
theorem zO:FnScope ["near","corner","there","x","y","along","up","side"] ["near","corner","there"] (av xx):=⟨rfl,rfl,rfl,by rfl',rfl,by rfl',by rfl'⟩
theorem Eu(F:Fun K "fits" "fits" xx f fd)(TX:Txt mg)  :FnOk P w K mg base CX0 1 f fd ["near","corner","there"] (aG K 3 Dt):=by
 refine cv F zO [true,true,true] rfl (λcdv A outer s H E hr=>?_);have sc:=@zO;refine⟨_,(ag (aA (i:=3) sc.nd (by rfl) (f_ rfl) (by rfl) (aB (aw hr (ae 1) ge_int))) (ag (aA (i:=4) sc.nd (by rfl) (f_ rfl) (by rfl) (aB (aw hr (ae 1) ge_int))) (ag (cm Rv (by rfl) (aZ (bx 0)) (iu (n:=3) (by rfl) (aC (aq (i:=5) sc.nd (by rfl) (f_ rfl) (by rfl)) (aC (aq (i:=6) sc.nd (by rfl) (f_ rfl) (by rfl)) (aC (aq (i:=7) sc.nd (by rfl) (f_ rfl) (by rfl)) fI)))) (aj (ig (kC (fC (oz hr) (ax (aa (ah au (ae 3) (ae 5)) (aa (ah au (ae 4) (ae 6)) (aa (ae 7) af)))) (ae 2) (by with_unfolding_all rfl))) (aj (aJ iL)) d8))) (aj (aJ iL))))),λts kk hl hp=>?_⟩;clear hl;obtain⟨o,u,M,rs,p,rfl,q⟩:=hp;nofun;refine aV (λi env=>∃z5 z6 z7,(((M.drop i).map (mvQ p)).all λz=>decide (z∈rs))=((M.map (mvQ p)).all λz=>decide (z∈rs))/\env=[.lst false (M.map qtT),ptP p,.dT u (dQ rs),.int p.1,.int p.2,z5,z6,z7]) ⟨_,_,_,rfl,rfl⟩ ?_ ?_
 ·rintro i t _ ⟨z5,z6,z7,ew,rfl⟩ ei;obtain⟨m,em,rfl⟩:=aS ei;rw[yk em,d_,Of]at ew;nofun;rw[show(jL (dQ rs) [Tf (p.1+m.1),Tf (p.2+m.2.1),Tf (m.2.2:Int)]).isSome=decide (mvQ p m∈rs)from DC (q:=mvQ p m)];refine aT (λh=>?_) (λh=>?_)
  ·nofun;rw[decide_eq_true h,MJ]at ew;exact⟨_,_,_,ew,rfl⟩
  nofun;rw[decide_eq_false h,Ph]at ew;rw[<-ew]at q;exact q
 rintro _ ⟨z5,z6,z7,ew,rfl⟩;rw[a_,Qp]at ew;rw[<-ew]at q;nofun;exact q
end
def qm:FP:=λts k=>∃(b o o2 bc u:Bool) (t:Tl) (ps:List Pt),ts=[tlT b o t,.lst o2 (ps.map (cbT bc u))]/\tlO t/\ps.length<=60000/\k (.dT true (dQ (mK (nrQ t) ps))) [tlT b o t,.lst false (ps.map (cbT bc false))]
section
variable{P:Rj}{w:Ro}{K:Rb}{mg:Str->Option Q_}{base:Rq}
theorem rG:FnScope ["tool","corners","near","there","corner","quarter"] ["tool","corners"] (av qr):=⟨rfl,rfl,rfl,by rfl',rfl,by rfl',by rfl'⟩
theorem Av(F:Fun K "marked" "marked" qr f fd)(TX:Txt mg)  (ww:Cal P w K mg base 4 "near_quarters" ["tool"] (aG K 1 iO))(v4:Cal P w K mg base 1 "laid" ["near","corner"] (aG K 2 Bo)):FnOk P w K mg base CX0 5 f fd ["tool","corners"] (aG K 2 qm):=by
 refine cv F rG [true,true] rfl (λcdv A outer s H E hr=>?_);have sc:=@rG;refine⟨_,(ag (aA (i:=2) sc.nd (by rfl) (f_ rfl) (by rfl) (aB (ay ww hr (by rfl) (ai (ae 0) az)))) (ag (aA (i:=3) sc.nd (by rfl) (f_ rfl) (by rfl) (aB qL)) (ag (cm Rv (by rfl) (aZ (bx 1)) (aq (i:=4) sc.nd (by rfl) (f_ rfl) (by rfl)) (aj (cm Rv (by rfl) (aZ (aB (ay v4 hr (by rfl) (ai (ae 2) (ai (ae 4) az))))) (aq (i:=5) sc.nd (by rfl) (f_ rfl) (by rfl)) (aj (nS iL (qv (i:=3) hr (bx 5))))))) (aj (aJ (kZ 3)))))),λts kk hl hp=>?_⟩;clear hl;obtain⟨b,o,o2,bc,u,t,ps,rfl,ht,hl,q⟩:=hp;nofun;refine⟨b,false,t,rfl,ht,?_⟩;have ln:=Jp ht;generalize nrQ t=M at *;nofun;refine⟨rfl,aV (λi env=>∃z4 z5,env=[tlT b o t,.lst false (ps.map (cbT bc false)),.lst true (M.map qtT),.dT true (dQ (mK M (ps.take i))),z4,z5]) ⟨_,_,rfl⟩ ?_ ?_⟩
 ·rintro i t' _ ⟨z4,z5,rfl⟩ ei;obtain⟨p,ep,rfl⟩:=aS ei;have hi:=(e_.mp ep).1;nofun;refine⟨_,bc,false,M,p,rfl,by lia,?_⟩;nofun;have l1:=Hr (M:=M) (ps:=ps.take i) (qs:=[]);rw[NP,L_,NS (Mt hi)]at l1;have l3:(mK M (ps.take i)).length<=256*60000:=G' l1 (by rw[My];exact Nat.mul_le_mul ln (by lia));rw[AM ep];generalize mK M (ps.take i)=F at *;refine aV (λj env=>∃z5,env=[tlT b o t,.lst false (ps.map (cbT bc false)),.lst true (M.map qtT),.dT true (dQ (addQ F ((M.map (mvQ p)).take j))),cbT bc false p,z5]) ⟨_,rfl⟩ ?_ ?_
  ·rintro j u _ ⟨z5,rfl⟩ ej;obtain⟨m,em,rfl⟩:=aS ej;have l2:=uV (qs:=F) (rs:=(M.map (mvQ p)).take j);rw[L_,a_]at l2;nofun;exact⟨by rw[sO];lia,_,by rw[B3 em,<-Hv];rfl⟩
  rintro _ ⟨z5,rfl⟩;rw[a_,v_];exact⟨_,_,rfl⟩
 rintro _ ⟨z4,z5,rfl⟩;rw[a_,v_];nofun;exact q
end
def rS:FP:=λts k=>∃(c o b u b2 u2:Bool) (rs:List Qt) (t:Tl),ts=[rgT c o b u rs,tlT b2 u2 t]/\rs.Nodup/\kq (j8 rs)/\rs.length<=60000/\tlO t/\∀(cs:List Pt),cs.length<=rs.length->(∀p,p∈cs↔(p.1,p.2,0)∈rs/\∀m∈nrQ t,mvQ p m∈rs)->∀z1 z2,k (.lst true (cs.map ptP)) [z1,z2]
section
variable{P:Rj}{w:Ro}{K:Rb}{mg:Str->Option Q_}{base:Rq}
theorem qF:FnScope ["region","tool","there","near","corners"] ["region","tool"] (av nO):=⟨rfl,rfl,rfl,by rfl',rfl,by rfl',by rfl'⟩
theorem wF(F:Fun K "centres" "centres" nO f fd)(TX:Txt mg)  (ww:Cal P w K mg base 4 "near_quarters" ["tool"] (aG K 1 iO))(re:Cal P w K mg base 1 "fits" ["near","corner","there"] (aG K 3 Dt))(wP:Cal P w K mg base 1 "noted" ["region"] (aG K 1 yD)):FnOk P w K mg base CX0 5 f fd ["region","tool"] (aG K 2 rS):=by
 refine cv F qF [true,true] rfl (λcdv A outer s H E hr=>?_);have sc:=@qF;have nd1:(["x","y","side"]:List Str).Nodup:=by rfl'
 have nd2:(["corner","there","near"]:List Str).Nodup:=by rfl'
 refine⟨_,(ag (aA (i:=2) sc.nd (by rfl) (m_ rfl) (by rfl) (aB (ay wP hr (by rfl) (ai (ae 0) az)))) (ag (aA (i:=3) sc.nd (by rfl) (m_ rfl) (by rfl) (aB (ay ww hr (by rfl) (ai (ae 1) az)))) (ag (jP sc (i:=4) ["x","y","side"] [none,none,none] nd1 (by rfl') (by rfl) (f_ rfl) (by rfl) (aZ (aE (iH (by rfl)) (by rfl) TX.sorted (by rfl') (aa (ae 2) af))) (λ_ _ _=>(iu (n:=3) (by rfl) (aC (aq (i:=0) nd1 (by rfl) (f_ rfl) (by rfl) (hf:=(m_ rfl))) (aC (aq (i:=1) nd1 (by rfl) (f_ rfl) (by rfl) (hf:=(m_ rfl))) (aC (aq (i:=2) nd1 (by rfl) (f_ rfl) (by rfl) (hf:=(m_ rfl))) fI))))) (λ_ _ _=>(lC (fC (fH hr) (ae 2) ge_int (cp _)))) (λ_ _ _=>(ax (aa (ae 0) (aa (ae 1) af)))) (by rfl)) (aj (aJ (aB (d9 sc ["corner","there","near"] [none,some 2,some 3] nd2 (by rfl') (aZ (ae 4)) (λ_ _ _=>(aq (i:=0) nd2 (by rfl) (f_ rfl) (by rfl) (hf:=(m_ rfl)))) (λ_ _ _=>(lC (kT (ay re hr (by rfl) (ai (ae 2) (ai (ae 0) (ai (ae 1) az))))))) (λ_ _ _=>(ae 0))))))))),λts kk hl hp=>?_⟩;clear hl;obtain⟨c,o,b,u,b2,u2,rs,t,rfl,hd,hmo,hl,ht,q⟩:=hp;nofun;refine⟨c,false,b,false,rs,rfl,hd,by lia,?_⟩;nofun;refine⟨b2,false,t,rfl,ht,?_⟩;generalize nrQ t=M at *;nofun;obtain⟨rs',pm,e'⟩:=Cn rs;refine tO (pD rs) (p8 rs) hmo ?_;rw[e',pd];nofun;refine aN (by rw[a_,sizeLine_eq,pm.length_eq];lia) (λi acc ie=>∃z1 z2 z3,acc=((rs'.take i).filter λq=>decide ((q.2.2:Int)=0)).map (λq=>ptP (q.1,q.2.1))/\ie=[z1,z2,z3]) ⟨_,_,_,rfl,rfl⟩ ?_ ?_
 ·rintro i u _ _ ⟨z1,z2,z3,rfl,rfl⟩ ei;obtain⟨m,em,rfl⟩:=aS ei;nofun;refine aT (λh=>?_) (λh=>?_)
  ·nofun;exact⟨_,_,_,by rw[p9 em,if_pos (decide_eq_true h)];rfl,rfl⟩
  nofun;exact⟨_,_,_,by rw[p9 em,if_neg (by rw[decide_eq_false h];decide),L'],rfl⟩
 rintro _ _ ⟨z1,z2,z3,rfl,rfl⟩;rw[a_,v_];have hm:∀p:Pt,p∈(rs'.filter λq=>decide ((q.2.2:Int)=0)).map (λq=>(q.1,q.2.1))↔(p.1,p.2,0)∈rs:=by
  intro p;rw[<-pm.mem_iff];constructor
  ·intro h;obtain⟨m,mm,rfl⟩:=h_.mp h;obtain⟨m1,m2⟩:=Mf.mp mm;have m2:=of_decide_eq_true m2;rw[show((m.1,m.2.1,0):Qt)=m from ME rfl (ME rfl (by dsimp only;lia))];exact m1
  intro h;exact h_.mpr ⟨_,Mf.mpr ⟨h,rfl⟩,rfl⟩
 have hl1:((rs'.filter λq=>decide ((q.2.2:Int)=0)).map λq=>((q.1,q.2.1):Pt)).length<=rs.length:=by rw[a_,<-pm.length_eq];exact Mz _ _
 rw[show(rs'.filter λq=>decide ((q.2.2:Int)=0)).map (λq=>ptP (q.1,q.2.1))=((rs'.filter λq=>decide ((q.2.2:Int)=0)).map λq=>((q.1,q.2.1):Pt)).map ptP by rw[F'];rfl];generalize (rs'.filter λq=>decide ((q.2.2:Int)=0)).map (λq=>((q.1,q.2.1):Pt))=ps at *;nofun;refine aN (by rw[a_,sizeLine_eq];lia) (λi acc ie=>∃z1,acc=((ps.take i).filter λp=>(M.map (mvQ p)).all λz=>decide (z∈rs)).map ptP/\ie=[z1,.dT false (dQ rs),.lst false (M.map qtT)]) ⟨_,rfl,rfl⟩ ?_ ?_
 ·rintro i u _ _ ⟨z1,rfl,rfl⟩ ei;obtain⟨p,ep,rfl⟩:=aS ei;nofun;refine⟨_,_,M,rs,p,rfl,?_⟩;nofun;refine oj (λh=>?_) (λh=>?_)
  ·nofun;exact⟨_,by rw[p9 ep,if_pos h],rfl⟩
  nofun;exact⟨_,by rw[p9 ep,if_neg (by rw[h];decide),L'],rfl⟩
 rintro _ _ ⟨z1,rfl,rfl⟩;rw[a_,v_];nofun;refine q _ (G' (Mz _ _) hl1) (λp=>?_) _ _;rw[Mf,hm,Mk];refine and_congr_right λ_=>⟨λh m mm=>of_decide_eq_true (h _ (y_ mm)),λh z mz=>?_⟩;obtain⟨m,mm,rfl⟩:=h_.mp mz;exact decide_eq_true (h m mm)
end
def mL:FP:=λts k=>∃(c o b u b2 u2:Bool) (rs:List Qt) (t:Tl),ts=[rgT c o b u rs,tlT b2 u2 t]/\rs.Nodup/\kq (j8 rs)/\rs.length<=60000/\tlO t/\∀(cs:List Pt),(∀p,p∈cs↔(p.1,p.2,0)∈rs/\∀m∈nrQ t,mvQ p m∈rs)->∀z1 z2,k (.dT true (dQ (mK (nrQ t) cs))) [z1,z2]
section
variable{P:Rj}{w:Ro}{K:Rb}{mg:Str->Option Q_}{base:Rq}
theorem lN:FnScope ["region","tool"] ["region","tool"] (av jY):=⟨rfl,rfl,rfl,by rfl',rfl,by rfl',by rfl'⟩
theorem rg(F:Fun K "reached_in" "reached_in" jY f fd)(TX:Txt mg)  (wn:Cal P w K mg base 5 "marked" ["tool","corners"] (aG K 2 qm))(po:Cal P w K mg base 5 "centres" ["region","tool"] (aG K 2 rS)):FnOk P w K mg base CX0 6 f fd ["region","tool"] (aG K 2 mL):=by refine cv F lN [true,true] rfl (λcdv A outer s H E hr=>?_);have sc:=@lN;refine⟨_,(aj (aJ (aB (ay wn hr (by rfl) (ai (ae 1) (ai (ay po hr (by rfl) (ai (ae 0) (ai (ae 1) az))) az)))))),λts kk hl hp=>?_⟩;clear hl;obtain⟨c,o,b,u,b2,u2,rs,t,rfl,hd,hmo,hl,ht,q⟩:=hp;nofun;refine⟨c,false,b,false,b2,false,rs,t,rfl,hd,hmo,hl,ht,λcs l1 hc z1 z2=>?_⟩;nofun;refine⟨b2,false,true,false,false,t,cs,rfl,ht,by lia,?_⟩;nofun;exact q cs hc _ _
end
def lV:FP:=λts k=>∃(c o b u b2 u2 o3 bc u3:Bool) (rs:List Qt) (t:Tl) (ps:List Pt),ts=[rgT c o b u rs,tlT b2 u2 t,.lst o3 (ps.map (cbT bc u3))]/\rs.Nodup/\kq (j8 rs)/\rs.length<=60000/\tlO t/\ps.length<=60000/\∀(cs:List Pt),(∀p,p∈cs↔(p.1,p.2,0)∈rs/\∀m∈nrQ t,mvQ p m∈rs)->∀z1 z2 z3,k (.bl (Ad (mK (nrQ t) ps) (mK (nrQ t) cs))) [z1,z2,z3]
section
variable{P:Rj}{w:Ro}{K:Rb}{mg:Str->Option Q_}{base:Rq}
theorem lj:FnScope ["region","tool","points"] ["region","tool","points"] (av jC):=⟨rfl,rfl,rfl,by rfl',rfl,by rfl',by rfl'⟩
theorem qA(F:Fun K "is_covering" "is_covering" jC f fd)(TX:Txt mg)  (wn:Cal P w K mg base 5 "marked" ["tool","corners"] (aG K 2 qm))(AC:Cal P w K mg base 6 "reached_in" ["region","tool"] (aG K 2 mL)):FnOk P w K mg base CX0 7 f fd ["region","tool","points"] (aG K 3 lV):=by refine cv F lj [true,true,true] rfl (λcdv A outer s H E hr=>?_);have sc:=@lj;refine⟨_,(aj (aJ (aB (kL (FN hr) (ay wn hr (by rfl) (ai (ae 1) (ai (ae 2) az))) (ay AC hr (by rfl) (ai (ae 0) (ai (ae 1) az))) (cp _))))),λts kk hl hp=>?_⟩;clear hl;obtain⟨c,o,b,u,b2,u2,o3,bc,u3,rs,t,ps,rfl,hd,hmo,hl,ht,hp,q⟩:=hp;nofun;refine⟨b2,false,_,bc,false,t,ps,rfl,ht,hp,?_⟩;nofun;refine⟨c,false,b,false,b2,false,rs,t,rfl,hd,hmo,hl,ht,λcs hc z1 z2=>?_⟩;nofun;refine Ke Hc Hc ?_;nofun;exact q cs hc _ _ _
end
def vA:FP:=λts k=>∃c n x y wd hg,ts=[stT c n,.int x,.int y,.int wd,.int hg]/\n<2 ^ 37/\bd 15 x/\bd 15 y/\(7<=wd/\wd<=20/\7<=hg/\hg<=20)/\∀(c':Cells) (n':Nat) (qs:List Qt) (z1 z2 z3 z4:T),n'<=n+1000->upQ qs->(∀q∈qs,okQ x y q)->qs.length<=1600->k (.dT true (dQ qs)) [stT c' n',z1,z2,z3,z4]
section
variable{P:Rj}{w:Ro}{K:Rb}{mg:Str->Option Q_}{base:Rq}
theorem rX:FnScope ["_law_state","_law_x","_law_y","_law_wide","_law_high","_law_region","_law_turn","_law_east","_law_north","_law_quarter","_law_quarters"] ["_law_state","_law_x","_law_y","_law_wide","_law_high"] (av pN):=⟨rfl,rfl,rfl,by rfl',rfl,by rfl',by rfl'⟩
theorem A4(F:Fun K "_law_pocket" "_law_pocket" pN f fd)(TX:Txt mg)  (Cl:Cal P w K mg base 1 "_law_take" ["_law_state","_law_many"] (aG K 2 mh))(pc:Cal P w K mg base 1 "_law_box" ["_law_x","_law_y","_law_wide","_law_high","_law_cuts"] (aG K 5 CZ))(xz:Cal P w K mg base 2 "_law_outline" ["_law_state","_law_x","_law_y","_law_wide","_law_high"] (aG K 5 rM))(sK:Cal P w K mg base 2 "_law_inside" ["_law_corners"] (aG K 1 vx)):FnOk P w K mg base CX0 3 f fd ["_law_state","_law_x","_law_y","_law_wide","_law_high"] (aG K 5 vA):=by
 refine cv F rX [true,true,true,true,true] rfl (λcdv A outer s H E hr=>?_);have sc:=@rX;refine⟨_,(iq (aA (i:=5) sc.nd (by rfl) (f_ rfl) (by rfl) (ay sK hr (by rfl) (ai (ay xz hr (by rfl) (bf 0 (ai (bx 1) (ai (bx 2) (ai (bx 3) (ai (bx 4) az)))))) az))) (iq (cm Rv (by rfl) (iz (by rfl) TX.range (aa (aw hr (aB (cn (aa ge_int (aa ge_int (aa ge_int (aa ge_int (aa ge_int (aa ge_int af)))))))) (ay Cl hr (by rfl) (bf 0 (ai ge_int az)))) af)) (aq (i:=6) sc.nd (by rfl) (f_ rfl) (by rfl)) (ag (nM (i:=7) (j:=8) (by rfl) sc.nd (by rfl) (by rfl) (by decide) (by rfl) (by rfl) (by rfl) (by rfl) (aa (ah au (bx 1) (ay Cl hr (by rfl) (bf 0 (ai (bx 3) az)))) (aa (ah au (bx 2) (ay Cl hr (by rfl) (bf 0 (ai (bx 4) az)))) af)) (by rfl)) (aj (cm Rv (by rfl) (t9 (ay sK hr (by rfl) (ai (ay pc hr (by rfl) (ai (bx 7) (ai (bx 8) (ai (ah au ge_int (ay Cl hr (by rfl) (bf 0 (ai ge_int az)))) (ai (ah au ge_int (ay Cl hr (by rfl) (bf 0 (ai ge_int az)))) (ai (aB (ah Cd (cn (aa ge_int af)) ge_int)) az)))))) az))) (aq (i:=9) sc.nd (by rfl) (f_ rfl) (by rfl)) (aj (iI (vn (i:=5) hr (bx 9) DS ⟨rfl,rfl,rfl,rfl⟩))))))) (iq (ig (fC (fH hr) (ay Cl hr (by rfl) (bf 0 (ai ge_int az))) ge_int (cp _)) (ag (aA (i:=10) sc.nd (by rfl) (f_ rfl) (by rfl) (aB (aE (iH (by rfl)) (by rfl) TX.sorted (by rfl') (aa (ae 5) af)))) (aj (cm Rv (by rfl) (iz (by rfl) TX.range (aa ge_int af)) (aq (i:=6) sc.nd (by rfl) (f_ rfl) (by rfl)) (aj (iI (vn (i:=5) hr (aw hr (bx 10) (ay Cl hr (by rfl) (bf 0 (ai (aB (aE jO (by rfl) TX.len (by rfl') (aa (ae 10) af))) az)))) DS ⟨rfl,rfl,rfl,rfl⟩)))))) d8) (aj (aJ (kZ 5)))))),λts kk hl hp=>?_⟩;clear hl;obtain⟨c,n,x,y,wd,hg,rfl,hn,hx,hy,hb,q⟩:=hp;refine jo (λenv=>∃(c':Cells) (n':Nat) (qs:List Qt),n'<=n+25/\upQ qs/\(∀q∈qs,okQ x y q)/\qs.length<=1600/\Far qs 3/\env=[stT c' n',.int x,.int y,.int wd,.int hg,.dT true (dQ qs),.any,.any,.any,.any,.any]) ?_ ?_
 ·nofun;refine⟨c,n,x,y,wd,hg,rfl,by lia,hx,hy,hb.1,hb.2.1,hb.2.2.1,hb.2.2.2,λc6 n6 ps l1 l2 p0 p1 pb pt=>?_⟩;nofun;have hx':=hx;have hy':=hy;refine⟨true,ps,x,y,rfl,p0,by lia,⟨by have:=hx'.1;lia,by have:=hx'.2;lia⟩,⟨by have:=hy'.1;lia,by have:=hy'.2;lia⟩,pb,λqs z u1 u2 u3 _ u5=>?_⟩;nofun;exact⟨c6,n6,qs,by lia,u1,u2,u3,EC pt u5,rfl⟩
 rintro _ ⟨c6,n6,qs,l2,u1,u2,u3,u4,rfl⟩;obtain⟨hx0,hx1⟩:=id hx;obtain⟨hy0,hy1⟩:=id hy;refine jo (λenv=>∃(c':Cells) (n':Nat) (qs:List Qt) (z6 z7 z8 z9 z10:T),n'<=n6+500/\upQ qs/\(∀q∈qs,okQ x y q)/\qs.length<=1600/\Far qs 1/\env=[stT c' n',.int x,.int y,.int wd,.int hg,.dT true (dQ qs),z6,z7,z8,z9,z10]) ?_ ?_
 ·nofun;walk_at "take";intro r c7 a7 b7;nofun;obtain⟨v,ev,v0,v1⟩:=og (λv=>0<=v/\v<=2) (ns:=[0,0,0,1,1,2]) (i:=r) (by omega) (by show r<6;omega) (by intro v hv;simp only[i_,Mg,or_false]at hv;lia)
  refine dc ev ?_;nofun;refine⟨by lia,aV (λi env=>∃(c':Cells) (n':Nat) (qs:List Qt) (z6 z7 z8 z9 z10:T),n'<=n6+1+50*i/\upQ qs/\(∀q∈qs,okQ x y q)/\qs.length<=1600/\Far qs (3-i)/\env=[stT c' n',.int x,.int y,.int wd,.int hg,.dT true (dQ qs),z6,z7,z8,z9,z10]) ⟨c7,n6+1,qs,_,_,_,_,_,by lia,u1,u2,u3,u4,rfl⟩ ?_ ?_⟩
  ·clear u1 u2 u3 u4 qs;rintro i t7 _ ⟨c8,n8,qs,z6,z7,z8,z9,z10,l4,u1,u2,u3,⟨as,a1,a2,a3⟩,rfl⟩ ei;have hi:=i7 ei;nofun;walk_at "take";intro r1 c9 a9 b9;nofun;walk_at "take";intro r2 c10 a10 b10;nofun;walk_at "take";intro r3 c11 a11 b11;nofun;walk_at "take";intro r4 c12 a12 b12;nofun;refine⟨by decide,rfl,x+r1,y+r2,1+r3,1+r4,true,0,0,0,0,rfl,?_⟩;have pb:inR (x+r1) (y+r2) (jW (x+r1) (y+r2) (1+r3) (1+r4) 0 0 0 0):=zR ⟨by lia,by lia⟩ ⟨by lia,by lia⟩ ⟨by lia,by lia⟩ ⟨by lia,by lia⟩ ⟨by lia,by lia⟩ ⟨by lia,by lia⟩ ⟨by lia,by lia⟩ ⟨by lia,by lia⟩ ⟨by lia,by lia⟩ ⟨by lia,by lia⟩ ⟨by lia,by lia⟩ ⟨by lia,by lia⟩;have pl:(jW (x+r1) (y+r2) (1+r3) (1+r4) 0 0 0 0).length<=8:=yw;have p0:0<(jW (x+r1) (y+r2) (1+r3) (1+r4) 0 0 0 0).length:=mX (by lia);have bi:=HH (x:=x+r1) (y:=y+r2) (w:=1+r3) (h:=1+r4) (by lia);generalize jW (x+r1) (y+r2) (1+r3) (1+r4) 0 0 0 0=ps at *;nofun;refine⟨true,ps,x+r1,y+r2,rfl,p0,by lia,⟨by lia,by lia⟩,⟨by lia,by lia⟩,pb,λis z w1 w2 w3 w4 _=>?_⟩;nofun;refine aV (λj env=>∃(qs:List Qt) (z9:T),upQ qs/\(∀q∈qs,okQ x y q)/\qs.length<=1600/\(∀a∈as,¬(x+r1<=a.1/\a.1<x+r1+3)->a∈qs)/\env=[stT c12 (n8+1+1+1+1),.int x,.int y,.int wd,.int hg,.dT true (dQ qs),t7,.int (x+r1),.int (y+r2),z9,z10]) ⟨qs,_,u1,u2,u3,(λa m _=>a3 a m),rfl⟩ ?_ ?_
   ·clear u1 u2 u3 a3 qs;rintro j t _ ⟨qs,z9,u1,u2,u3,a3,rfl⟩ ej;obtain⟨m,em,rfl⟩:=aS ej;nofun;refine vw λrs u hs hk=>?_;have wm:=w4 m (F_ em) _ _ bi;exact⟨rs,_,u1.sublist hs,λq m=>u2 q (hs.subset m),G' hs.length_le u3,λa ma g=>hk a (a3 a ma g) λz=>g (by rw[z];lia),rfl⟩
   clear u1 u2 u3 a3 qs;rintro _ ⟨qs,z9,u1,u2,u3,a3,rfl⟩;exact⟨c12,_,qs,_,_,_,_,_,by lia,u1,u2,u3,DL a1 a2 a3,rfl⟩
  clear u1 u2 u3 u4 qs;rintro _ ⟨c8,n8,qs,z6,z7,z8,z9,z10,l4,u1,u2,u3,u4,rfl⟩;rw[fG]at l4 u4;obtain⟨as,a1,a2,a3⟩:=u4;exact⟨c8,n8,qs,_,_,_,_,_,by lia,u1,u2,u3,⟨as,by lia,a2,a3⟩,rfl⟩
 clear u1 u2 u3 u4 qs;rintro _ ⟨c7,n7,qs,z6,z7,z8,z9,z10,l4,u1,u2,u3,u4,rfl⟩;replace u4:=Gf u4;refine jo (λenv=>∃(c':Cells) (n':Nat) (qs:List Qt) (z6 z7 z8 z9 z10:T),n'<=n7+5/\upQ qs/\(∀q∈qs,okQ x y q)/\qs.length<=1600/\env=[stT c' n',.int x,.int y,.int wd,.int hg,.dT true (dQ qs),z6,z7,z8,z9,z10]) ?_ ?_
 ·nofun;walk_at "take";intro r c8 a8 b8;nofun;refine aT (λg=>?_) (λg=>?_)
  ·nofun;refine tO (pD qs) (p8 qs) (tU u1) ?_;rw[CO u1,pd];nofun;refine⟨⟨by decide,by decide⟩,aV (λi env=>∃(c':Cells) (n':Nat) (rs:List Qt) (z6 z9:T) (b:Bool),n'<=n7+1+i/\upQ rs/\(∀q∈rs,okQ x y q)/\rs.length<=1600/\env=[stT c' n',.int x,.int y,.int wd,.int hg,.dT true (dQ rs),z6,z7,z8,z9,.lst b (qs.map qtT)]) ⟨c8,n7+1,qs,_,_,true,c_ _,u1,u2,u3,rfl⟩ ?_ ?_⟩
   ·rintro i t _ ⟨c9,n9,rs,z6,z9,b,l6,v1,v2,v3,rfl⟩ ei;have hi:i<3:=i7 ei;nofun;walk_at "take";intro r c10 a10 b10;nofun;obtain⟨t,mt,et⟩:=yV (l:=qs.map qtT) a10 (by rw[a_];exact b10);obtain⟨q,mq,rfl⟩:=h_.mp mt;refine dc et ?_;nofun;refine vw λrs' u hs _=>?_;exact⟨c10,n9+1,rs',_,_,_,by lia,v1.sublist hs,λq m=>v2 q (hs.subset m),G' hs.length_le v3,rfl⟩
   rintro _ ⟨c9,n9,rs,z6,z9,b,l6,v1,v2,v3,rfl⟩;have l6:n9<=n7+1+3:=l6;exact⟨c9,n9,rs,_,_,_,_,_,by lia,v1,v2,v3,rfl⟩
  nofun;exact⟨c8,n7+1,qs,_,_,_,_,_,by lia,u1,u2,u3,rfl⟩
 clear u1 u2 u3 u4 qs;rintro _ ⟨c8,n8,qs,z6,z7,z8,z9,z10,l5,u1,u2,u3,rfl⟩;nofun;exact q c8 n8 qs _ _ _ _ (by lia) u1 u2 u3
end
def uN:FP:=λts k=>∃(u o:Bool) (M rs:List Qt) (p:Pt),ts=[.dT u (dQ rs),.lst o (M.map qtT),ptP p]/\k (.bl ((M.map (mvQ p)).all λz=>decide (z∈rs))) [.dT u (dQ rs),.lst false (M.map qtT),ptP p]
section
variable{P:Rj}{w:Ro}{K:Rb}{mg:Str->Option Q_}{base:Rq}
theorem rV:FnScope ["_law_region","_law_offsets","_law_corner","_law_east","_law_north","_law_side"] ["_law_region","_law_offsets","_law_corner"] (av qz):=⟨rfl,rfl,rfl,by rfl',rfl,by rfl',by rfl'⟩
theorem Am(F:Fun K "_law_stands" "_law_stands" qz f fd)(TX:Txt mg)  :FnOk P w K mg base CX0 1 f fd ["_law_region","_law_offsets","_law_corner"] (aG K 3 uN):=by
 refine cv F rV [true,true,true] rfl (λcdv A outer s H E hr=>?_);have sc:=@rV;refine⟨_,(ag (cm Rv (by rfl) (aZ (bx 1)) (iu (n:=3) (by rfl) (aC (aq (i:=3) sc.nd (by rfl) (f_ rfl) (by rfl)) (aC (aq (i:=4) sc.nd (by rfl) (f_ rfl) (by rfl)) (aC (aq (i:=5) sc.nd (by rfl) (f_ rfl) (by rfl)) fI)))) (aj (ig (kC (fC (oz hr) (ax (aa (ah au (aw hr (ae 2) ge_int) (ae 3)) (aa (ah au (aw hr (ae 2) ge_int) (ae 4)) (aa (ae 5) af)))) (ae 0) (by with_unfolding_all rfl))) (aj (aJ iL)) d8))) (aj (aJ iL))),λts kk hl hp=>?_⟩;clear hl;obtain⟨u,o,M,rs,p,rfl,q⟩:=hp;nofun;refine aV (λi env=>∃z5 z6 z7,(((M.drop i).map (mvQ p)).all λz=>decide (z∈rs))=((M.map (mvQ p)).all λz=>decide (z∈rs))/\env=[.dT u (dQ rs),.lst false (M.map qtT),ptP p,z5,z6,z7]) ⟨_,_,_,rfl,rfl⟩ ?_ ?_
 ·rintro i t _ ⟨z5,z6,z7,ew,rfl⟩ ei;obtain⟨m,em,rfl⟩:=aS ei;rw[yk em,d_,Of]at ew;nofun;rw[show(jL (dQ rs) [Tf (p.1+m.1),Tf (p.2+m.2.1),Tf (m.2.2:Int)]).isSome=decide (mvQ p m∈rs)from DC (q:=mvQ p m)];refine aT (λh=>?_) (λh=>?_)
  ·nofun;rw[decide_eq_true h,MJ]at ew;exact⟨_,_,_,ew,rfl⟩
  nofun;rw[decide_eq_false h,Ph]at ew;rw[<-ew]at q;exact q
 rintro _ ⟨z5,z6,z7,ew,rfl⟩;rw[a_,Qp]at ew;rw[<-ew]at q;nofun;exact q
end
def pQ:FP:=λts k=>∃(u o:Bool) (M rs:List Qt) (x y:Int),ts=[.dT u (dQ rs),.lst o (M.map qtT)]/\(∀q∈rs,okQ x y q)/\rs.length<=1600/\(0,0,0)∈M/\∀(u o:Bool) (ps:List Pt),ps.Pairwise ltP->ps.length<=1600->(∀p,p∈ps↔∀m∈M,mvQ p m∈rs)->k (.lst true (ps.map ptP)) [.dT u (dQ rs),.lst o (M.map qtT)]
section
variable{P:Rj}{w:Ro}{K:Rb}{mg:Str->Option Q_}{base:Rq}
theorem oK:FnScope ["_law_region","_law_offsets","_law_found","_law_x","_law_y"] ["_law_region","_law_offsets"] (av mB):=⟨rfl,rfl,rfl,by rfl',rfl,by rfl',by rfl'⟩
theorem uR(F:Fun K "_law_centres" "_law_centres" mB f fd)(TX:Txt mg)  (BT:Cal P w K mg base 1 "_law_stands" ["_law_region","_law_offsets","_law_corner"] (aG K 3 uN)):FnOk P w K mg base CX0 2 f fd ["_law_region","_law_offsets"] (aG K 2 pQ):=by
 refine cv F oK [true,true] rfl (λcdv A outer s H E hr=>?_);have sc:=@oK;have nd1:(["_law_quarter"]:List Str).Nodup:=by rfl'
 have nd2:(["_law_quarter"]:List Str).Nodup:=by rfl'
 refine⟨_,(ag (aA (i:=2) sc.nd (by rfl) (f_ rfl) (by rfl) (aB (cn af))) (ag (cm Rv (by rfl) (aZ (aB (lR (by rfl) (by rfl) TX.sorted (by rfl) TX.set (d9 sc ["_law_quarter"] [none] nd1 (by rfl') (t9 (ae 0)) (λ_ _ _=>(aq (i:=0) nd1 (by rfl) (f_ rfl) (by rfl) (hf:=(m_ rfl)))) (λ_ _ _=>d5) (λ_ _ _=>(aw hr (ae 0) ge_int)))))) (aq (i:=3) sc.nd (by rfl) (f_ rfl) (by rfl)) (aj (cm Rv (by rfl) (aZ (aB (lR (by rfl) (by rfl) TX.sorted (by rfl) TX.set (d9 sc ["_law_quarter"] [none] nd2 (by rfl') (t9 (ae 0)) (λ_ _ _=>(aq (i:=0) nd2 (by rfl) (f_ rfl) (by rfl) (hf:=(m_ rfl)))) (λ_ _ _=>d5) (λ_ _ _=>(aw hr (ae 0) ge_int)))))) (aq (i:=4) sc.nd (by rfl) (f_ rfl) (by rfl)) (aj (ig (kC (kT (ay BT hr (by rfl) (ai (ae 0) (ai (ae 1) (ai (ax (aa (ae 3) (aa (ae 4) af))) az)))))) (aj (iI (lH 2 Sn So iD (aa (aB (ax (aa (ae 3) (aa (ae 4) af)))) af)))) d8))))) (aj (aJ (kZ 2))))),λts kk hl hp=>?_⟩;clear hl;obtain⟨u,o,M,rs,x,y,rfl,ho,hl,h0,q⟩:=hp;have hz:∀p:Pt,(∀m∈M,mvQ p m∈rs)->(p.1,p.2,0)∈rs:=λp h=>by have:=h _ h0;unfold mvQ at this;rwa[MA,MA]at this
 nofun;refine aN (by rw[a_,sizeLine_eq];lia) (λi acc ie=>∃z1,acc=(rs.take i).map (λq=>T.int q.1)/\ie=[z1]) ⟨_,rfl,rfl⟩ ?_ ?_
 ·rintro i t _ _ ⟨z1,rfl,rfl⟩ ei;obtain⟨l,el,rfl⟩:=aS ei;nofun;exact⟨_,by rw[map_take el],rfl⟩
 rintro _ _ ⟨z1,rfl,rfl⟩;rw[a_,v_];nofun;refine⟨⟨by lia,few x λz m=>?_⟩,λms so me=>?_⟩
 ·obtain⟨q,mq,rfl⟩:=h_.mp m;exact(ho q mq).1
 have nd:ms.Nodup:=so.imp λg=>QV g;refine aV (λi env=>∃(u o:Bool) (ps:List Pt) (z3 z4:T),ps.Pairwise ltP/\(∀p,p∈ps↔p.1∈ms.take i/\∀m∈M,mvQ p m∈rs)/\env=[.dT u (dQ rs),.lst o (M.map qtT),.lst true (ps.map ptP),z3,z4]) ⟨_,_,[],_,_,.nil,λp=>⟨λm=>(by cases m),λm=>(by cases m.1)⟩,rfl⟩ ?_ ?_
 ·rintro i t _ ⟨u,o,ps,z3,z4,n1,n2,rfl⟩ ei;obtain⟨a,ea,rfl⟩:=aS ei;nofun;refine aN (by rw[a_,sizeLine_eq];lia) (λi acc ie=>∃z1,acc=(rs.take i).map (λq=>T.int q.2.1)/\ie=[z1]) ⟨_,rfl,rfl⟩ ?_ ?_
  ·rintro i t _ _ ⟨z1,rfl,rfl⟩ ei;obtain⟨l,el,rfl⟩:=aS ei;nofun;exact⟨_,by rw[map_take el],rfl⟩
  rintro _ _ ⟨z1,rfl,rfl⟩;rw[a_,v_];nofun;refine⟨⟨by lia,few y λz m=>?_⟩,λns so2 me2=>?_⟩
  ·obtain⟨q,mq,rfl⟩:=h_.mp m;exact(ho q mq).2.1
  have nd2:ns.Nodup:=so2.imp λg=>QV g;refine aV (λj env=>∃(u o:Bool) (ps:List Pt) (z4:T),ps.Pairwise ltP/\(∀p,p∈ps↔(p.1∈ms.take i\/p.1=a/\p.2∈ns.take j)/\∀m∈M,mvQ p m∈rs)/\env=[.dT u (dQ rs),.lst o (M.map qtT),.lst true (ps.map ptP),.int a,z4]) ⟨_,_,ps,_,n1,λp=>by rw[n2,QC];simp only[Mg,and_false,or_false],rfl⟩ ?_ ?_
  ·clear n1 n2 ps;rintro j t _ ⟨u,o,ps,z4,n1,n2,rfl⟩ ej;obtain⟨b,eb,rfl⟩:=aS ej;have hmem:∀p:Pt,p.2∈ns.take (j+1)↔p.2∈ns.take j\/p.2=b:=λp=>by rw[Md,eb,C'];exact or_congr_right x_
   nofun;refine⟨_,_,M,rs,(a,b),rfl,?_⟩;nofun;refine oj (λh=>?_) (λh=>?_)
   ·nofun;have h:=Mk.mp h;have hs:∀m∈M,mvQ (a,b) m∈rs:=λm mm=>of_decide_eq_true (h _ (y_ mm));refine⟨by have:=CK (pU n1) λp m=>hz p ((n2 p).mp m).2;lia,_,_,ps++[(a,b)],_,?_,λp=>?_,by rw[z_];rfl⟩
    ·refine Nl.mpr ⟨n1,Nv _ _,λp mp q mq=>?_⟩;rw[x_]at mq;subst mq;rcases((n2 _).mp mp).1 with g|g
     ·exact .inl (y9 so ea g)
     exact .inr ⟨g.1,y9 so2 eb g.2⟩
    rw[C',x_,n2,hmem];constructor
    ·rintro(⟨g|g,g2⟩|rfl)
     ·exact⟨.inl g,g2⟩
     ·exact⟨.inr ⟨g.1,.inl g.2⟩,g2⟩
     exact⟨.inr ⟨rfl,.inr rfl⟩,hs⟩
    rintro⟨g|⟨g,g1|g1⟩,g2⟩
    ·exact .inl ⟨.inl g,g2⟩
    ·exact .inl ⟨.inr ⟨g,g1⟩,g2⟩
    exact .inr (ME g g1)
   nofun;refine⟨_,_,ps,_,n1,λp=>?_,rfl⟩;rw[n2,hmem];constructor
   ·rintro⟨g|g,g2⟩
    ·exact⟨.inl g,g2⟩
    exact⟨.inr ⟨g.1,.inl g.2⟩,g2⟩
   rintro⟨g|⟨g,g1|g1⟩,g2⟩
   ·exact⟨.inl g,g2⟩
   ·exact⟨.inr ⟨g,g1⟩,g2⟩
   exfalso;rw[show p=(a,b)from ME g g1]at g2;have:((M.map (mvQ (a,b))).all λz=>decide (z∈rs))=true:=Mk.mpr λz mz=>by obtain⟨m,mm,rfl⟩:=h_.mp mz;exact decide_eq_true (g2 m mm)
   rw[this]at h;cases h
  clear n1 n2 ps;rintro _ ⟨u,o,ps,z4,n1,n2,rfl⟩;rw[a_,v_]at n2;refine⟨_,_,ps,_,_,n1,λp=>?_,rfl⟩;rw[n2,Md,ea,C'];refine and_congr_left λg=>or_congr_right ⟨λh=>h.1 ▸ .head _,λh=>⟨x_.mp h,(me2 _).mpr (h_.mpr ⟨_,hz p g,rfl⟩)⟩⟩
 rintro _ ⟨u,o,ps,z3,z4,n1,n2,rfl⟩;rw[a_,v_]at n2;nofun;exact q u o ps n1 (by have:=CK (pU n1) λp m=>hz p ((n2 p).mp m).2;lia) λp=>by rw[n2];exact and_iff_right_of_imp λh=>(me _).mpr (h_.mpr ⟨_,hz p h,rfl⟩)
end
def oQ:FP:=λts k=>∃(p:Pt) (o:Bool) (M:List Pt),ts=[ptP p,.dT o (dP M)]/\k (.bl (wal M p)) ts
section
variable{P:Rj}{w:Ro}{K:Rb}{mg:Str->Option Q_}{base:Rq}
theorem ng:FnScope ["point","there","step"] ["point","there"] (av kH):=⟨rfl,rfl,rfl,by rfl',rfl,by rfl',by rfl'⟩
theorem sH(F:Fun K "is_walled" "is_walled" kH f fd)(TX:Txt mg)(C_STEPS:Glb K mg "STEPS" yW) :FnOk P w K mg base CX0 1 f fd ["point","there"] (aG K 2 oQ):=by
 refine cv F ng [true,true] rfl (λcdv A outer s H E hr=>?_);have sc:=@ng;refine⟨_,(ag (cm Rv (by rfl) (aZ (Kd C_STEPS (by rfl))) (aq (i:=2) sc.nd (by rfl) (f_ rfl) (by rfl)) (aj (ig (kC (fC (oz hr) (ax (aa (ah au (aw hr (ae 0) ge_int) (aw hr (ae 2) ge_int)) (aa (ah au (aw hr (ae 0) ge_int) (aw hr (ae 2) ge_int)) af))) (ae 1) (by with_unfolding_all rfl))) (aj (aJ iL)) d8))) (aj (aJ iL))),λts kk hl hp=>?_⟩;clear hl;obtain⟨p,o,M,rfl,q⟩:=hp;nofun;rw[Dn];refine aV (λi env=>((nE.take i).all λs=>decide (nx p s∈M))=true/\∃z,env=[ptP p,.dT o (dP M),z]) ⟨rfl,_,rfl⟩ ?_ ?_
 ·rintro i t _ ⟨h,z,rfl⟩ ei;obtain⟨s,es,rfl⟩:=aS ei;nofun;rw[show(jL (dP M) [Tf (p.1+s.1),Tf (p.2+s.2)]).isSome=decide (nx p s∈M)from HR (p:=nx p s)];refine aT (λg=>?_) (λg=>?_)
  ·nofun;refine⟨?_,_,rfl⟩;rw[Md,es,Qv,h,MJ];show(decide _&&true)=true;rw[PC,decide_eq_true_iff];exact g
  nofun;have:wal M p=false:=by unfold wal;rw[List.all_eq_false];exact⟨s,F_ es,by rw[decide_eq_true_iff];exact g⟩
  rw[this]at q;exact q
 rintro _ ⟨h,z,rfl⟩;rw[a_,v_]at h;nofun;rw[show wal M p=true from h]at q;exact q
end
def mI:FP:=λts k=>∃(o:Bool) (ps:List Pt),ts=[.lst o (ps.map ptP)]/\ps.length<10000/\ps.Nodup/\k (.lst true ((ps.filter (wal ps)).map ptP)) ts
section
variable{P:Rj}{w:Ro}{K:Rb}{mg:Str->Option Q_}{base:Rq}
theorem lM:FnScope ["points","there"] ["points"] (av jZ):=⟨rfl,rfl,rfl,by rfl',rfl,by rfl',by rfl'⟩
theorem qW(F:Fun K "within_rim" "within_rim" jZ f fd)(TX:Txt mg)  (ut:Cal P w K mg base 1 "is_walled" ["point","there"] (aG K 2 oQ)):FnOk P w K mg base CX0 2 f fd ["points"] (aG K 1 mI):=by
 refine cv F lM [true] rfl (λcdv A outer s H E hr=>?_);have sc:=@lM;have nd1:(["point"]:List Str).Nodup:=by rfl'
 have nd2:(["point","there"]:List Str).Nodup:=by rfl'
 refine⟨_,(ag (aA (i:=1) sc.nd (by rfl) (m_ rfl) (by rfl) (aB (fT (xH rfl (JQ hr)) (by rfl) TX.dict (by rfl') (aa (d9 sc ["point"] [none] nd1 (by rfl') (aZ (ae 0)) (λ_ _ _=>(aq (i:=0) nd1 (by rfl) (f_ rfl) (by rfl) (hf:=(m_ rfl)))) (λ_ _ _=>d5) (λ_ _ _=>(ax (aa (ae 0) (aa iL af))))) af)))) (aj (aJ (aB (d9 sc ["point","there"] [none,some 1] nd2 (by rfl') (aZ (ae 0)) (λ_ _ _=>(aq (i:=0) nd2 (by rfl) (f_ rfl) (by rfl) (hf:=(m_ rfl)))) (λ_ _ _=>(lC (kT (ay ut hr (by rfl) (ai (ae 0) (ai (ae 1) az)))))) (λ_ _ _=>(ae 0))))))),λts kk hl hp=>?_⟩;clear hl;obtain⟨o,ps,rfl,hl,nd,q⟩:=hp;nofun;refine aN (by rw[a_,sizeLine_eq];lia) (λi acc ie=>∃z,acc=(ps.take i).map (λp=>T.tup [ptP p,.bl true])/\ie=[z]) ⟨_,rfl,rfl⟩ ?_ ?_
 ·rintro i t _ _ ⟨z,rfl,rfl⟩ ei;obtain⟨p,ep,rfl⟩:=aS ei;nofun;exact⟨_,by rw[map_take ep],rfl⟩
 rintro _ _ ⟨z',rfl,rfl⟩;rw[a_,v_];nofun;refine Gu nd ?_;nofun;refine aN (by rw[a_,sizeLine_eq];lia) (λi acc ie=>∃z,acc=((ps.take i).filter (wal ps)).map ptP/\ie=[z,.dT false (dP ps)]) ⟨_,rfl,rfl⟩ ?_ ?_
 ·rintro i t _ _ ⟨z,rfl,rfl⟩ ei;obtain⟨p,ep,rfl⟩:=aS ei;rw[sk ep];nofun;refine⟨p,false,ps,rfl,?_⟩;nofun;refine oj (λh=>?_) (λh=>?_)
  ·nofun;exact⟨_,by rw[if_pos h,z_];rfl,rfl⟩
  nofun;exact⟨_,by rw[if_neg (by rw[h];decide),L'],rfl⟩
 rintro _ _ ⟨z,rfl,rfl⟩;rw[a_,v_];nofun;exact q
end
def lA:FP:=λts k=>∃(o:Bool) (ps:List Pt) (v:Pt->Int),ts=[.lst o (ps.map ptP)]/\ps.length<10000/\ps.Pairwise ltP/\Dp ps v/\∀z,k (.lst true (ps.map (prV v))) [z]
section
variable{P:Rj}{w:Ro}{K:Rb}{mg:Str->Option Q_}{base:Rq}
theorem mO:FnScope ["points","depths","depth","point","inner"] ["points"] (av lr):=⟨rfl,rfl,rfl,by rfl',rfl,by rfl',by rfl'⟩
theorem uu(F:Fun K "depths_in" "depths_in" lr f fd)(TX:Txt mg)  (Db:Cal P w K mg base 2 "within_rim" ["points"] (aG K 1 mI)):FnOk P w K mg base CX0 3 f fd ["points"] (aG K 1 lA):=by
 refine cv F mO [true] rfl (λcdv A outer s H E hr=>?_);have sc:=@mO;have nd1:(["point"]:List Str).Nodup:=by rfl'
 have nd2:(["point","depths"]:List Str).Nodup:=by rfl'
 refine⟨_,(ag (aA (i:=1) sc.nd (by rfl) (m_ rfl) (by rfl) (aB qL)) (ag (aA (i:=2) sc.nd (by rfl) (f_ rfl) (by rfl) ge_int) (ag (jP sc (i:=4) ["point"] [none] nd1 (by rfl') (by rfl) (f_ rfl) (by rfl) (aZ (ae 0)) (λ_ _ _=>(aq (i:=0) nd1 (by rfl) (f_ rfl) (by rfl) (hf:=(m_ rfl)))) (λ_ _ _=>d5) (λ_ _ _=>(fT jz (by rfl) TX.tuple (by rfl') (aa (ae 0) af))) (by rfl)) (ag (uT Rv (kC (kT (ae 4))) (ag (cm Rv (by rfl) (aZ (bx 4)) (aq (i:=3) sc.nd (by rfl) (f_ rfl) (by rfl)) (aj (nS (bx 2) (qv (i:=1) hr (bx 3))))) (ag (aA (i:=4) sc.nd (by rfl) (f_ rfl) (by rfl) (aB (ay Db hr (by rfl) (ai (ae 4) az)))) (aj (IP (i:=2) sc.nd (by rfl) (f_ rfl) (by rfl) ge_int Fd))))) (aj (aJ (aB (d9 sc ["point","depths"] [none,some 1] nd2 (by rfl') (aZ (aE (iH (by rfl)) (by rfl) TX.sorted (by rfl') (aa (ae 1) af))) (λ_ _ _=>(aq (i:=0) nd2 (by rfl) (f_ rfl) (by rfl) (hf:=(m_ rfl)))) (λ_ _ _=>d5) (λ_ _ _=>(ax (aa (ae 0) (aa (aw hr (ae 1) (ae 0)) af)))))))))))),λts kk hl hp=>?_⟩;clear hl;obtain⟨o,ps,v,rfl,hl,up,hv,q⟩:=hp;have nd:=pU up;nofun;refine⟨rfl,aN (by rw[a_,sizeLine_eq];lia) (λi acc ie=>∃z,acc=(ps.take i).map ptP/\ie=[z]) ⟨_,rfl,rfl⟩ ?_ ?_⟩
 ·rintro i t _ _ ⟨z,rfl,rfl⟩ ei;obtain⟨p,ep,rfl⟩:=aS ei;nofun;exact⟨_,by rw[map_take ep];rfl,rfl⟩
 rintro _ _ ⟨z,rfl,rfl⟩;rw[a_,v_];nofun;refine rO (λm env=>∃(d:Nat) (z3:T),d<=21/\m=21-d/\env=[.lst o (ps.map ptP),.dT true (vt (if d=0 then []else ps) λq=>min (v q) ((d:Int)-1)),.int (d:Int),z3,.lst true ((ilw ps v d).map ptP)]) 21 ⟨0,.any,by decide,rfl,?_⟩ ?_
 ·rw[if_pos rfl,show((0:Nat):Int)=0 from rfl,DQ hv]
  rfl
 rintro m _ ⟨d,z3,hd21,rfl,rfl⟩;nofun;refine oj (λhe=>?_) (λhe=>?_)
 ·have hnil:ilw ps v d=[]:=by have:=List.isEmpty_iff.mp he;exact NO.mp this
  have hlt:∀q∈ps,v q<d:=λq m=>by
   have:q ∉ ilw ps v d:=by rw[hnil];exact Mg
   rw[ny]at this;exact Q6.mp λz=>this ⟨m,z⟩
  have ev:(vt (if d=0 then []else ps) λq=>min (v q) ((d:Int)-1))=vt ps v:=by
   by_cases z:d=0
   ·rw[if_pos z];have:ps=[]:=by rw[z]at hnil;rw[<-DQ hv];exact hnil
    rw[this]
    rfl
   rw[if_neg z];exact pR λq m=>by have:=hlt q m;lia
  rw[ev];nofun;refine tO G2 (zE ps) (HE up) ?_;rw[JJ up,Ct];nofun;refine aN (by rw[a_,sizeLine_eq];lia) (λi acc ie=>∃z,acc=(ps.take i).map (prV v)/\ie=[z,.dT false (vt ps v)]) ⟨_,rfl,rfl⟩ ?_ ?_
  ·rintro i t _ _ ⟨z,rfl,rfl⟩ ei;obtain⟨p,ep,rfl⟩:=aS ei;nofun;refine dc (Iq (F_ ep)) ?_;nofun;exact⟨_,by rw[map_take ep];rfl,rfl⟩
  rintro _ _ ⟨z,rfl,rfl⟩;rw[a_,v_];nofun
  first|exact q _|exact⟨Mk.mpr λ_ _=>rfl,q _⟩
 have ld:ilw ps v d≠[]:=λz=>by rw[z]at he;cases he
 obtain⟨q0,m0⟩:=List.exists_mem_of_ne_nil _ ld;have hd:d<=20:=by obtain⟨m1,m2⟩:=ny.mp m0;have:=(hv q0 m1).2.1;lia
 nofun;have ll:(ilw ps v d).length<=ps.length:=Mz ..;have nn:(ilw ps v d).Nodup:=nd.filter _;have ine:∀q,q∈ps->(q∈ilw ps v d↔(d:Int)<=v q):=λq m=>ny.trans (and_iff_right m);have isub:∀q∈ilw ps v d,q∈ps:=λq m=>(ny.mp m).1;have i0:d=0->ilw ps v d=ps:=λz=>by rw[z];exact DQ hv
 have inx:=DJ (d:=(d:Int)) hv (by lia);generalize ilw ps v d=il' at *;refine aV (λj env=>∃z3,env=[.lst o (ps.map ptP),.dT true (vt (if d=0 then ps.take j else ps) λq=>if q∈il'.take j then(d:Int)else min (v q) ((d:Int)-1)),.int (d:Int),z3,.lst false (il'.map ptP)]) ⟨z3,?_⟩ ?_ ?_
 ·simp only[QC,Mg,if_false]
 ·rintro j t _ ⟨z3,rfl⟩ ej;obtain⟨p,ep,rfl⟩:=aS ej;nofun;have hj:j<il'.length:=(e_.mp ep).1;have hp:p ∉ il'.take j:=vP nn ep;have et:il'.take (j+1)=il'.take j++[p]:=by rw[Md,ep];rfl
  refine⟨?_,ptP p,?_⟩
  ·split
   ·rw[BK,L_,sizeLine_eq];lia
   rw[BK,sizeLine_eq];lia
  have ev:iw (vt (if d=0 then ps.take j else ps) λq=>if q∈il'.take j then(d:Int)else min (v q) ((d:Int)-1)) (kP p) (.int d)=vt (if d=0 then ps.take (j+1)else ps) λq=>if q∈il'.take (j+1)then(d:Int)else min (v q) ((d:Int)-1):=by
   by_cases hz:d=0
   ·rw[if_pos hz,if_pos hz];have hi:=i0 hz;rw[hi]at ep hp et ⊢;have e1:vt (ps.take j) (λq=>if q∈ps.take j then(d:Int)else min (v q) ((d:Int)-1))=vt (ps.take j) (λq=>if q∈ps.take (j+1)then(d:Int)else min (v q) ((d:Int)-1)):=pR λq m=>by rw[if_pos m,if_pos (by rw[et];exact K' _ m)]
    have e2:=Jz (ks:=ps.take j) (f:=λq=>if q∈ps.take (j+1)then(d:Int)else min (v q) ((d:Int)-1)) hp;rw[if_pos (by rw[et];exact u_ _ (.head _))]at e2;rw[e1,e2,<-et]
   rw[if_neg hz,if_neg hz];have e2:=IU (ks:=ps) (f:=λq=>if q∈il'.take j then(d:Int)else min (v q) ((d:Int)-1)) (g:=λq=>if q∈il'.take (j+1)then(d:Int)else min (v q) ((d:Int)-1)) (p:=p) (isub p (F_ ep)) (λq n=>by
    have:q∈il'.take (j+1)↔q∈il'.take j:=by rw[et,C',x_];exact⟨λz=>z.resolve_right n,.inl⟩
    by_cases z:q∈il'.take j
    ·rw[if_pos z,if_pos (this.mpr z)]
    rw[if_neg z,if_neg (λy=>z (this.mp y))])
   rw[if_pos (by rw[et];exact u_ _ (.head _))]at e2;exact e2
  exact congrArg (λd'=>[T.lst o (ps.map ptP),.dT true d',.int (d:Int),ptP p,.lst false (il'.map ptP)]) ev
 rintro _ ⟨z3,rfl⟩;nofun;refine⟨false,il',rfl,by lia,nn,?_⟩;rw[inx];nofun;refine⟨_,?_,d+1,z3,by lia,rfl,?_⟩
 ·lia
 have ev:(vt (if d=0 then ps.take il'.length else ps) λq=>if q∈il'.take il'.length then(d:Int)else min (v q) ((d:Int)-1))=vt (if d+1=0 then []else ps) λq=>min (v q) (((d+1:Nat):Int)-1):=by
  rw[if_neg (Nat.succ_ne_zero d),v_];have e1:(if d=0 then ps.take il'.length else ps)=ps:=by
   split
   ·rename_i z;rw[i0 z,v_]
   rfl
  rw[e1];refine pR λq m=>?_;have:=ine q m;by_cases z:q∈il'
  ·rw[if_pos z];have:=this.mp z;lia
  rw[if_neg z];have h9:=Q6.mp λy=>z (this.mpr y);lia
 rw[ev,show((d+1:Nat):Int)=(d:Int)+1 by lia]
end
def yS:FP:=λts k=>∃(o:Bool) (ps:List Pt) (v:Pt->Int) (f w:Nat),ts=[.lst o (ps.map ptP),.int (f:Int),.int (w:Int)]/\ps.length<10000/\ps.Pairwise ltP/\Dp ps v/\0<w/\∀(m:Nat) (z:T),(∀q∈ps,v q<f+m*w)->(∀i,i<m->∃q∈ps,(f+i*w:Int)<=v q)->k (.lst true ((p_ m).map λ(i:Nat)=>T.lst false ((lay v ps (f+i*w)).map ptP))) [z,.int (f:Int),.int (w:Int)]
section
variable{P:Rj}{w:Ro}{K:Rb}{mg:Str->Option Q_}{base:Rq}
theorem uQ:FnScope ["points","first","width","layers","point","depth"] ["points","first","width"] (av tq):=⟨rfl,rfl,rfl,by rfl',rfl,by rfl',by rfl'⟩
theorem B8(F:Fun K "rings" "rings" tq f fd)(TX:Txt mg)  (rc:Cal P w K mg base 3 "depths_in" ["points"] (aG K 1 lA)):FnOk P w K mg base CX0 4 f fd ["points","first","width"] (aG K 3 yS):=by
 refine cv F uQ [true,true,true] rfl (λcdv A outer s H E hr=>?_);have sc:=@uQ;refine⟨_,(ag (aA (i:=3) sc.nd (by rfl) (f_ rfl) (by rfl) (aB (cn af))) (ag (cm Rv (by rfl) (aZ (aB (ay rc hr (by rfl) (ai (ae 0) az)))) (iu (n:=2) (by rfl) (aC (aq (i:=4) sc.nd (by rfl) (f_ rfl) (by rfl)) (aC (aq (i:=5) sc.nd (by rfl) (f_ rfl) (by rfl)) fI))) (ag (uT Rv (kC (fC xU (aE jO (by rfl) TX.len (by rfl') (aa (ae 3) af)) (ae 5) (cp _))) (aj (iI (lH 3 Sn So iD (aa (aB (cn af)) af))))) (aj (iI (AR 3 5 Sn So iD (aa (bx 4) af)))))) (aj (aJ (Aj (bx 3) (bx 1) (bx 2)))))),λts kk hl hp=>?_⟩;clear hl;obtain⟨o,ps,v,f,w',rfl,hl,up,hv,hw,q⟩:=hp;nofun;refine⟨false,ps,v,rfl,hl,up,hv,λz=>?_⟩;nofun;refine aV (λi env=>∃(n:Nat) (z0 z4 z5:T),n<=21/\(∀q∈ps.take i,v q<n)/\(n=0\/∃q∈ps.take i,v q=(n:Int)-1)/\env=[z0,.int (f:Int),.int (w':Int),.lst true ((lyr v (ps.take i) n).map lyI),z4,z5]) ⟨0,_,_,_,by decide,(λ_ m=>nomatch m),.inl rfl,rfl⟩ ?_ ?_
 ·rintro i t _ ⟨n,z0,z4,z5,k0,k1,k2,rfl⟩ ei;obtain⟨p,ep,rfl⟩:=aS ei;have hp:=hv p (F_ ep);obtain⟨d,ed⟩:=MD hp.1;have hd20:=hp.2.1;have hi:i<ps.length:=(e_.mp ep).1;have li:(ps.take i).length<=ps.length:=by rw[L_];lia
  have et:ps.take (i+1)=ps.take i++[p]:=by rw[Md,ep];rfl
  rw[et];generalize ps.take i=l at *;nofun;rw[ed];refine rO (λm env=>∃(n':Nat),n<=n'/\(n'=n\/n'<=d+1)/\m=d+1-n'/\env=[z0,.int (f:Int),.int (w':Int),.lst true ((lyr v l n').map lyI),ptP p,.int (d:Int)]) (d+1-n) ⟨n,c_ _,.inl rfl,rfl,rfl⟩ ?_;rintro m _ ⟨n',n1,n2,rfl,rfl⟩;nofun;rw[tN];refine aT (λhc=>?_) (λhc=>?_)
  ·nofun;rw[tN];refine⟨by lia,_,?_,n'+1,by lia,.inr (by lia),rfl,?_⟩
   ·lia
   rw[DY (λq m=>by have:=k1 q m;lia),z_]
   rfl
  nofun;have hd:d<n':=by lia
  have eq2:ixN ((lyr v l n').map lyI).length (d:Int)=some d:=by
   unfold ixN;rw[a_,tN,if_pos (by lia),if_pos (by lia)]
   rfl
  refine⟨_,_,d,lyI (lay v l d),rfl,rfl,by decide,eq2,by rw[o_,J5 hd];rfl,rfl,?_⟩;unfold lyI;nofun;have fl:(lay v l d).length<=l.length:=Mz ..;refine⟨by lia,n',z0,ptP p,.int (d:Int),by omega,λq m=>?_,.inr ?_,?_⟩
  ·rcases C'.mp m with m|m
   ·have:=k1 q m;lia
   rw[x_.mp m];lia
  ·rcases n2 with n2|n2
   ·rcases k2 with k2|⟨q,m,e⟩
    ·lia
    exact⟨q,K' _ m,by lia⟩
   exact⟨p,u_ _ (.head _),by lia⟩
  rw[FX ed hd,QQ,z_]
  rfl
 rintro _ ⟨n,z0,z4,z5,k0,k1,k2,rfl⟩;rw[a_,v_]at *;nofun;have hn:aY ((lyr v ps n).map λl=>T.lst false (l.map ptP))=true:=by rw[aR];refine Mk.mpr λl _=>?_;rw[aK,aR];exact fD _
 obtain⟨m,h1,h2⟩:=FO hw n f;have e:ij ((lyr v ps n).map λl=>T.lst false (l.map ptP)) (f:Int) (w':Int)=(p_ m).map λ(i:Nat)=>T.lst false ((lay v ps (f+i*w')).map ptP):=by unfold lyr;rw[F'];refine(FZ hw h1 h2).trans (MM λi _=>?_);show T.lst false ((lay v ps ((f+i*w':Nat):Int)).map ptP)=_;rw[Qx,NT]
 have qk:=q m z0 (λp mp=>by
  have:=k1 p mp;rw[<-NT];lia) λi hi=>by
  have:=h1 i hi;rcases k2 with rfl|⟨q,mq,eq⟩
  ·exact absurd this (Na _)
  refine⟨q,mq,?_⟩;rw[<-NT];lia
 rw[<-e]at qk;exact PL.Il (P4 _) (by lia) hn qk
end
def yj:FP:=λts k=>∃p q:Pt,ts=[ptP p,ptP q]/\k (.int (apA p q)) ts
section
variable{P:Rj}{w:Ro}{K:Rb}{mg:Str->Option Q_}{base:Rq}
theorem vy:FnScope ["_law_one","_law_other"] ["_law_one","_law_other"] (av sL):=⟨rfl,rfl,rfl,by rfl',rfl,by rfl',by rfl'⟩
theorem Dj(F:Fun K "_law_apart" "_law_apart" sL f fd)(TX:Txt mg)  :FnOk P w K mg base CX0 1 f fd ["_law_one","_law_other"] (aG K 2 yj):=by refine cv F vy [true,true] rfl (λcdv A outer s H E hr=>?_);have sc:=@vy;refine⟨_,(aj (aJ (aB (aE (iC rfl) (by rfl) TX.max (by rfl') (aa (aE jT (by rfl) TX.abs (by rfl') (aa (ah aO (aw hr (ae 0) ge_int) (aw hr (ae 1) ge_int)) af)) (aa (aE jT (by rfl) TX.abs (by rfl') (aa (ah aO (aw hr (ae 0) ge_int) (aw hr (ae 1) ge_int)) af)) af)))))),λts kk hl hp=>?_⟩;clear hl;obtain⟨p,q',rfl,q⟩:=hp;nofun;exact q
end
def lW:FP:=λts k=>∃(o:Bool) (Ls:List (List Pt)) (w:Int),ts=[.lst o (Ls.map λl=>T.lst false (l.map ptP)),.int w]/\Ls.length<10000/\(∀l∈Ls,l.length<10000)/\(∀i l l',Ls[i]?=some l->Ls[i+1]?=some l'->∀p∈l',(∀q∈l,w<=apA p q)/\∃q∈l,apA p q=w)/\∀z1,k (.bl true) [z1,.int w]
section
variable{P:Rj}{w:Ro}{K:Rb}{mg:Str->Option Q_}{base:Rq}
theorem kJ:FnScope ["_law_told","_law_width","_law_k","_law_point"] ["_law_told","_law_width"] (av jG):=⟨rfl,rfl,rfl,by rfl',rfl,by rfl',by rfl'⟩
theorem qp(F:Fun K "_law_steps_right" "_law_steps_right" jG f fd)(TX:Txt mg)  (o0:Cal P w K mg base 1 "_law_apart" ["_law_one","_law_other"] (aG K 2 yj)):FnOk P w K mg base CX0 2 f fd ["_law_told","_law_width"] (aG K 2 lW):=by
 refine cv F kJ [true,true] rfl (λcdv A outer s H E hr=>?_);have sc:=@kJ;have nd1:(["_law_other","_law_point"]:List Str).Nodup:=by rfl'
 refine⟨_,(ag (cm Rv (by rfl) (iB (by rfl) TX.range (aa ge_int (aa (aB (aE jO (by rfl) TX.len (by rfl') (aa (ae 0) af))) af))) (aq (i:=2) sc.nd (by rfl) (f_ rfl) (by rfl)) (aj (cm Rv (by rfl) (aZ (aw hr (bx 0) (bx 2))) (aq (i:=3) sc.nd (by rfl) (m_ rfl) (by rfl)) (aj (ig (kC (fC (u6 hr) (aE (i9 rfl) (by rfl) TX.min (by rfl') (aa (d9 sc ["_law_other","_law_point"] [none,some 3] nd1 (by rfl') (aZ (aw hr (ae 0) (ah aO (ae 2) ge_int))) (λ_ _ _=>(aq (i:=0) nd1 (by rfl) (f_ rfl) (by rfl) (hf:=(m_ rfl)))) (λ_ _ _=>d5) (λ_ _ _=>(ay o0 hr (by rfl) (ai (ae 1) (ai (ae 0) az))))) af)) (ae 1) (cp _))) (aj (aJ iL)) d8))))) (aj (aJ iL))),λts kk hl hp=>?_⟩;clear hl;obtain⟨o,Ls,w',rfl,hl,hll,h,q⟩:=hp;nofun;refine⟨by lia,aV (λi env=>∃o z2 z3,env=[.lst o (Ls.map λl=>T.lst false (l.map ptP)),.int w',z2,z3]) ⟨_,_,_,rfl⟩ ?_ ?_⟩
 ·rintro i t _ ⟨o,z2,z3,rfl⟩ ei;have hi:=i7 ei;have et:=jA ei;subst et;obtain⟨l',el'⟩:∃l',Ls[i+1]?=some l':=⟨_,b_ (by omega)⟩;obtain⟨l,el⟩:∃l,Ls[i]?=some l:=⟨_,b_ (by omega)⟩;nofun;refine dc (Cp el' (by lia)) ?_;nofun;refine aV (λj env=>∃z3,env=[.lst false (Ls.map λl=>T.lst false (l.map ptP)),.int w',.int (1+i),z3]) ⟨_,rfl⟩ ?_ ?_
  ·rintro j t _ ⟨z3,rfl⟩ ej;obtain⟨p,ep,rfl⟩:=aS ej;obtain⟨hlo,q0,mq0,eq0⟩:=h i l l' el el' p (F_ ep);nofun;refine dc (Cp el (by lia)) ?_;nofun;refine aN (by rw[a_,sizeLine_eq];have:=hll l (F_ el);lia) (λj acc ie=>∃z,acc=(l.take j).map (λq=>T.int (apA p q))/\ie=[z,ptP p]) ⟨_,rfl,rfl⟩ ?_ ?_
   ·rintro j u _ _ ⟨z,rfl,rfl⟩ ej;obtain⟨q',eq',rfl⟩:=aS ej;nofun;refine⟨p,q',rfl,?_⟩;nofun;exact⟨_,by rw[map_take eq'],rfl⟩
   rintro _ _ ⟨z,rfl,rfl⟩;rw[a_,v_];nofun;refine⟨λz=>?_,λr hr=>?_⟩
   ·rw[NO.mp z]at mq0;cases mq0
   obtain⟨q1,mq1,eq1⟩:=h_.mp hr.1;have hr2:=hr.2 _ (y_ (f:=apA p) mq0);have hr3:=hlo q1 mq1;have er:r=w':=by lia
   refine Gs (decide_eq_true er) ?_;nofun;exact⟨_,rfl⟩
  rintro _ ⟨z3,rfl⟩;exact⟨_,_,_,rfl⟩
 rintro _ ⟨o,z2,z3,rfl⟩;nofun;exact q _
end
def yK:FP:=λts k=>∃(c:Cells) (n:Nat) (most:Int),ts=[stT c n,.int most]/\n<2 ^ 36/\1<=most/\most<=10/\∀(c':Cells) (n':Nat) (pl:List Pt),n'<=n+10->pl.length<=5->(∀p∈pl,(0<=p.1/\p.1<=most)/\1<=p.2/\p.2<=most)->k (.lst true (pl.map ptP)) [stT c' n',.int most]
section
variable{P:Rj}{w:Ro}{K:Rb}{mg:Str->Option Q_}{base:Rq}
theorem wb:FnScope ["_law_state","_law_most","_law_plans_here","_law_turn"] ["_law_state","_law_most"] (av um):=⟨rfl,rfl,rfl,by rfl',rfl,by rfl',by rfl'⟩
theorem BA(F:Fun K "_law_plans" "_law_plans" um f fd)(TX:Txt mg)  (Cl:Cal P w K mg base 1 "_law_take" ["_law_state","_law_many"] (aG K 2 mh)):FnOk P w K mg base CX0 2 f fd ["_law_state","_law_most"] (aG K 2 yK):=by
 refine cv F wb [true,true] rfl (λcdv A outer s H E hr=>?_);have sc:=@wb;refine⟨_,(ag (aA (i:=2) sc.nd (by rfl) (f_ rfl) (by rfl) (aB (cn (aa (ax (aa ge_int (aa ge_int af))) (aa (ax (aa (ae 1) (aa (ae 1) af))) (aa (ax (aa ge_int (aa (ae 1) af))) af)))))) (ag (cm Rv (by rfl) (iz (by rfl) TX.range (aa ge_int af)) (aq (i:=3) sc.nd (by rfl) (f_ rfl) (by rfl)) (aj (iI (lH 2 Sn So iD (aa (ax (aa (ay Cl hr (by rfl) (bf 0 (ai (aB (ah au (ae 1) ge_int)) az))) (aa (ah au ge_int (ay Cl hr (by rfl) (bf 0 (ai (bx 1) az)))) af))) af))))) (aj (aJ (kZ 2))))),λts kk hl hp=>?_⟩;clear hl;obtain⟨c,n,most,rfl,hn,h1,h2,q⟩:=hp;nofun;refine⟨by decide,aV (λi env=>∃(c':Cells) (n':Nat) (pl:List Pt) (z3:T),n'<=n+2*i/\pl.length=3+i/\(∀p∈pl,(0<=p.1/\p.1<=most)/\1<=p.2/\p.2<=most)/\env=[stT c' n',.int most,.lst true (pl.map ptP),z3]) ⟨c,n,[(0,1),(most,most),(1,most)],_,c_ _,rfl,λp m=>?_,rfl⟩ ?_ ?_⟩
 ·simp only[i_,Mg,or_false]at m;rcases m with rfl|rfl|rfl <;> dsimp only <;> lia
 ·rintro i t _ ⟨c',n',pl,z3,l1,l2,hp,rfl⟩ ei;have hi:i<2:=i7 ei;nofun;walk_at "take";intro r1 c1 a1 b1;nofun;walk_at "take";intro r2 c2 a2 b2;nofun;refine⟨by lia,c2,n'+1+1,pl++[(r1,1+r2)],_,by lia,by rw[n_,l2];rfl,λp m=>?_,by rw[z_];rfl⟩;rcases C'.mp m with m|m
  ·exact hp p m
  rw[x_.mp m];dsimp only;lia
 rintro _ ⟨c',n',pl,z3,l1,l2,hp,rfl⟩;have l1:n'<=n+2*2:=l1;have l2:pl.length=3+2:=l2;nofun;exact q c' n' pl (by lia) (by lia) hp
theorem D6:FnScope ["_law_script","_law_state","_law_wide","_law_high","_law_region","_law_tool_here","_law_spots","_law_quarters","_law_outer","_law_first","_law_width","_law_told","_law_inner","_law_ring"] ["_law_script"] (av kR):=⟨rfl,rfl,rfl,by rfl',rfl,by rfl',by rfl'⟩
theorem Iz(F:Fun K "law" "law" kR f fd)(TX:Txt mg)  (rc:Cal P w K mg base 3 "depths_in" ["points"] (aG K 1 lA))(AT:Cal P w K mg base 4 "rings" ["points","first","width"] (aG K 3 yS))(u8:Cal P w K mg base 7 "is_covering" ["region","tool","points"] (aG K 3 lV))(on:Cal P w K mg base 1 "_law_begin" ["_law_script"] (aG K 1 (tS K)))(Cl:Cal P w K mg base 1 "_law_take" ["_law_state","_law_many"] (aG K 2 mh))(Da:Cal P w K mg base 2 "_law_tool" ["_law_state","_law_most"] (aG K 2 BW))(wf:Cal P w K mg base 2 "_law_mark" ["_law_tool_here","_law_corner"] (aG K 2 CF))(zn:Cal P w K mg base 3 "_law_pocket" ["_law_state","_law_x","_law_y","_law_wide","_law_high"] (aG K 5 vA))(v6:Cal P w K mg base 2 "_law_centres" ["_law_region","_law_offsets"] (aG K 2 pQ))(Ch:Cal P w K mg base 2 "_law_steps_right" ["_law_told","_law_width"] (aG K 2 lW))(xL:Cal P w K mg base 2 "_law_plans" ["_law_state","_law_most"] (aG K 2 yK)):FnOk P w K mg base CX0 8 f fd ["_law_script"] (aG K 1 (E1 K)):=by
 refine cv F D6 [true] rfl (λcdv A outer s H E hr=>?_);have sc:=@D6;have nd1:(["_law_quarter"]:List Str).Nodup:=by rfl'
 have nd2:(["_law_point","_law_depth"]:List Str).Nodup:=by rfl'
 refine⟨_,(iq (aA (i:=1) sc.nd (by rfl) (f_ rfl) (by rfl) (aB (ay on hr (by rfl) (ai (ae 0) az)))) (ag (nM (i:=2) (j:=3) (by rfl) sc.nd (by rfl) (by rfl) (by decide) (by rfl) (by rfl) (by rfl) (by rfl) (aa (ah au ge_int (ay Cl hr (by rfl) (bf 1 (ai ge_int az)))) (aa (ah au ge_int (ay Cl hr (by rfl) (bf 1 (ai ge_int az)))) af)) (by rfl)) (iq (ig (fC (fH hr) (ay Cl hr (by rfl) (bf 1 (ai ge_int az))) ge_int (cp _)) (aj (nM (i:=2) (j:=3) (by rfl) sc.nd (by rfl) (by rfl) (by decide) (by rfl) (by rfl) (by rfl) (by rfl) (aa (ah au ge_int (ay Cl hr (by rfl) (bf 1 (ai ge_int az)))) (aa ge_int af)) (by rfl))) d8) (ag (aA (i:=4) sc.nd (by rfl) (f_ rfl) (by rfl) (ay zn hr (by rfl) (bf 1 (ai (ah aO (ay Cl hr (by rfl) (bf 1 (ai ge_int az))) ge_int) (ai (ah aO (ay Cl hr (by rfl) (bf 1 (ai ge_int az))) ge_int) (ai (bx 2) (ai (bx 3) az))))))) (ag (aA (i:=5) sc.nd (by rfl) (f_ rfl) (by rfl) (ay Da hr (by rfl) (bf 1 (ai (aw hr (aB (cn (aa ge_int (aa ge_int (aa ge_int (aa ge_int (aa ge_int af))))))) (ay Cl hr (by rfl) (bf 1 (ai ge_int az)))) az)))) (ag (aA (i:=6) sc.nd (by rfl) (f_ rfl) (by rfl) (aB (ay v6 hr (by rfl) (ai (ae 4) (ai (fT (vd rfl) (by rfl) TX.list (by rfl') (aa (ay wf hr (by rfl) (ai (ae 5) (ai (ax (aa ge_int (aa ge_int af))) az))) af)) az))))) (ag (aA (i:=7) sc.nd (by rfl) (f_ rfl) (by rfl) (aB (aE (iH (by rfl)) (by rfl) TX.sorted (by rfl') (aa (ae 4) af)))) (iq (ig (fC (fH hr) (ay Cl hr (by rfl) (bf 1 (ai ge_int az))) ge_int (cp _)) (aj (jP sc (i:=7) ["_law_quarter"] [none] nd1 (by rfl') (by rfl) (f_ rfl) (by rfl) (aZ (ae 7)) (λ_ _ _=>(aq (i:=0) nd1 (by rfl) (f_ rfl) (by rfl) (hf:=(m_ rfl)))) (λ_ _ _=>d5) (λ_ _ _=>(fT xc (by rfl) TX.list (by rfl') (aa (ae 0) af))) (by rfl))) d8) (ag (jP sc (i:=8) ["_law_point","_law_depth"] [none,none] nd2 (by rfl') (by rfl) (f_ rfl) (by rfl) (aZ (ay rc hr (by rfl) (ai (ae 6) az))) (λ_ _ _=>(iu (n:=2) (by rfl) (aC (aq (i:=0) nd2 (by rfl) (f_ rfl) (by rfl) (hf:=(m_ rfl))) (aC (aq (i:=1) nd2 (by rfl) (f_ rfl) (by rfl) (hf:=(m_ rfl))) fI)))) (λ_ _ _=>(lC (fC (fH hr) (ae 1) ge_int (cp _)))) (λ_ _ _=>(ae 0)) (by rfl)) (ag (cm Rv (by rfl) (aZ (ay xL hr (by rfl) (bf 1 (ai (aB (ah jX (ah au (aw hr (ae 5) ge_int) (aw hr (ae 5) ge_int)) ge_int)) az)))) (iu (n:=2) (by rfl) (aC (aq (i:=9) sc.nd (by rfl) (f_ rfl) (by rfl)) (aC (aq (i:=10) sc.nd (by rfl) (f_ rfl) (by rfl)) fI))) (ag (aA (i:=11) sc.nd (by rfl) (f_ rfl) (by rfl) (ay AT hr (by rfl) (ai (bx 6) (ai (bx 9) (ai (bx 10) az))))) (ag (aA (i:=12) sc.nd (by rfl) (f_ rfl) (by rfl) (aB (cn af))) (ag (cm Rv (by rfl) (aZ (bx 11)) (aq (i:=13) sc.nd (by rfl) (f_ rfl) (by rfl)) (aj (aA (i:=12) sc.nd (by rfl) (f_ rfl) (by rfl) (aB (ah au (ae 12) (ae 13)))))) (ag (ig (kC (LG (L7 (fC Ea (ay u8 hr (by rfl) (ai (ae 7) (ai (ae 5) (ai (ah au (ae 8) (ae 12)) az)))) iL (cp _)) (HW (IC (kT (ay Ch hr (by rfl) (ai (ae 11) (ai (ae 10) az))))))))) (aj (aJ iL)) d8) (aj (ig (kC (fC (u6 hr) (B0 hr (by rfl) (by rfl) TX.len (by rfl) TX.set (ae 12)) (aE jO (by rfl) TX.len (by rfl') (aa (ae 12) af)) (cp _))) (aj (aJ iL)) d8))))))) (aj (aJ iL)))))))))))),λts kk hl hp=>?_⟩;clear hl;obtain⟨t,ns,rfl,hs,hn,q⟩:=hp;refine jo (λenv=>∃z c,env=[z,stT c 0,.any,.any,.any,.any,.any,.any,.any,.any,.any,.any,.any,.any]) ?_ ?_
 ·nofun;obtain⟨e,i⟩:=IX hs;rw[e];exact⟨i,t,ns,rfl,hs,hn,λc=>⟨Bm,_,c,rfl⟩⟩
 rintro _ ⟨z,c,rfl⟩;nofun;walk_at "take";intro r3 c2 a2 b2;nofun;walk_at "take";intro r4 c3 a3 b3;nofun;refine jo (λenv=>∃(c:Cells) (n':Nat) (wd hg:Int),n'<=4/\(7<=wd/\wd<=20/\7<=hg/\hg<=20)/\env=[z,stT c n',.int wd,.int hg,.any,.any,.any,.any,.any,.any,.any,.any,.any,.any]) ?_ ?_
 ·nofun;walk_at "take";intro r5 c4 a4 b4;nofun;refine aT (λg=>?_) (λg=>?_)
  ·nofun;walk_at "take";intro r6 c5 a5 b5;nofun;exact⟨c5,4,_,_,by lia,⟨by lia,by lia,by lia,by lia⟩,rfl⟩
  nofun;exact⟨c4,3,_,_,by lia,⟨by lia,by lia,by lia,by lia⟩,rfl⟩
 rintro _ ⟨c4,n4,wd,hg,l4,hb,rfl⟩;nofun;walk_at "take";intro x c5 a5 b5;nofun;walk_at "take";intro y c6 a6 b6;nofun;refine⟨c6,n4+1+1,x-15,y-15,wd,hg,rfl,by lia,JI a5 b5,JI a6 b6,hb,λc7 n7 qs y1 y2 y3 y4 l7 u1 u2 u3=>?_⟩;nofun;walk_at "take";intro r7 c8 a8 b8;nofun;obtain⟨m,em,m0⟩:=og (λv=>2<=v/\v<=4) (ns:=[2,2,3,3,4]) (i:=r7) a8 (by show r7<5;omega) (by intro v hv;simp only[i_,Mg,or_false]at hv;lia)
 refine dc em ?_;nofun;refine⟨c8,n7+1,m,rfl,by lia,m0.1,m0.2,λc9 tl ht=>?_⟩;nofun;refine⟨false,false,tl,rfl,ht,?_⟩;nofun;refine EK ?_;refine⟨_,_,nrQ tl,qs,x-15,y-15,rfl,u2,u3,Jh ht,λu o ps p1 p2 p3=>?_⟩;nofun;have pb:∀p∈ps,bR (x-15) p.1/\bR (y-15) p.2:=λp mp=>by obtain⟨g1,g2,_⟩:=u2 _ ((p3 p).mp mp (0,0,0) (Jh ht));unfold mvQ at g1 g2;dsimp only at g1 g2;rw[MA]at g1 g2;exact⟨g1,g2⟩
 have p4:=Iw (pU p1) pb;obtain⟨v,hv⟩:=KD λp mp=>(pb p mp).1;refine tO (pD qs) (p8 qs) (tU u1) ?_;rw[CO u1,pd];nofun;refine jo (λenv=>∃(c:Cells) (n':Nat) (u b o:Bool),n'<=1100/\env=[z,stT c n',.int wd,.int hg,.dT u (dQ qs),tlT false false tl,.lst o (ps.map ptP),rgT false true b true qs,.any,.any,.any,.any,.any,.any]) ?_ ?_
 ·nofun;walk_at "take";intro r9 c13 a13 b13;nofun;refine aT (λg=>?_) (λg=>?_)
  ·nofun;refine aN (by rw[a_,sizeLine_eq];lia) (λi acc ie=>∃z,acc=(qs.take i).map (qbT true true)/\ie=[z]) ⟨_,rfl,rfl⟩ ?_ ?_
   ·rintro i u _ _ ⟨z,rfl,rfl⟩ ei;obtain⟨q,eq,rfl⟩:=aS ei;nofun;exact⟨_,by rw[map_take eq];rfl,rfl⟩
   rintro _ _ ⟨_,rfl,rfl⟩;rw[a_,v_];nofun;exact⟨Mk.mpr λ_ _=>rfl,c13,n7+1+5+1,_,true,_,by lia,rfl⟩
  nofun;exact⟨c13,n7+1+5+1,_,false,_,by lia,rfl⟩
 rintro _ ⟨c13,n13,u,b,o,l13,rfl⟩;nofun;refine⟨false,ps,v,rfl,by lia,p1,hv,λy1=>?_⟩;nofun;refine aN (by rw[a_,sizeLine_eq];lia) (λi acc ie=>∃z1 z2,acc=(lay v (ps.take i) 0).map ptP/\ie=[z1,z2]) ⟨_,_,rfl,rfl⟩ ?_ ?_
 ·rintro i t _ _ ⟨z1,z2,rfl,rfl⟩ ei;obtain⟨p,ep,rfl⟩:=aS ei;nofun;unfold lay;rw[sk ep];refine aT (λh=>?_) (λh=>?_)
  ·nofun;exact⟨_,_,by rw[if_pos h,z_];rfl,rfl⟩
  nofun;exact⟨_,_,by rw[if_neg h,L'],rfl⟩
 rintro _ _ ⟨z1,z2,rfl,rfl⟩;rw[a_,v_];nofun;obtain⟨t1,t2,t3,t4⟩:=id ht;refine⟨⟨by decide,by decide⟩,c13,n13,(tl.1+tl.2.1)/2,rfl,by lia,by lia,by lia,λc14 n14 pl l14 hpl hp5=>?_⟩;nofun;refine aV (λi env=>∃(u b0 o:Bool) (z9 z10 z11 z12 z13:T),env=[z,stT c14 n14,.int wd,.int hg,.dT u (dQ qs),tlT false false tl,.lst o (ps.map ptP),rgT false b0 b b0 qs,.lst true ((lay v ps 0).map ptP),z9,z10,z11,z12,z13]) ⟨_,_,_,_,_,_,_,_,rfl⟩ ?_ ?_
 ·rintro i t _ ⟨u,b0,o,z9,z10,z11,z12,z13,rfl⟩ ei;obtain⟨pr,epr,rfl⟩:=aS ei;nofun;obtain⟨⟨f0,f1⟩,w0,w1⟩:=hp5 pr (F_ epr);generalize pr.1=pf at *;generalize pr.2=pw at *;obtain⟨f,rfl⟩:=MD f0;obtain⟨w',rfl⟩:=MD (show 0<=pw by lia);refine⟨false,ps,v,f,w',rfl,by lia,p1,hv,by lia,λm y1 hm1 hm2=>?_⟩;nofun;refine aV (λj env=>∃(xs:List Pt) (z13:T),xs.Nodup/\(∀q,q∈xs↔q∈ps/\∃j':Nat,j'<j/\v q=f+j'*w')/\env=[z,stT c14 n14,.int wd,.int hg,.dT u (dQ qs),tlT false false tl,.lst false (ps.map ptP),rgT false b0 b b0 qs,.lst true ((lay v ps 0).map ptP),.int (f:Int),.int (w':Int),.lst false ((p_ m).map λ(i:Nat)=>T.lst false ((lay v ps (f+i*w')).map ptP)),.lst true (xs.map ptP),z13]) ⟨[],_,.nil,λq=>⟨λh=>(by cases h),λ⟨_,_,h,_⟩=>absurd h (Na _)⟩,rfl⟩ ?_ ?_
  ·rintro j t _ ⟨xs,z13,x1,x2,rfl⟩ ej;obtain⟨j',ej',rfl⟩:=aS ej;obtain⟨hj,ej'⟩:=e_.mp ej';rw[P6]at ej';subst ej';nofun;obtain⟨y1,y2⟩:=Ee (pU p1) (by lia) x1 x2;have y3:=m7 y1 λq m=>((y2 q).mp m).1;rw[n_]at y3;exact⟨by lia,_,_,y1,y2,by rw[z_]⟩
  rintro _ ⟨xs,z13,x1,x2,rfl⟩;rw[a_,B_]at x2;have y3:=m7 x1 λq m=>((x2 q).mp m).1;have y4:(lay v ps 0).length<=ps.length:=Mz ..;nofun;refine⟨by lia,false,false,b,false,false,false,true,false,false,qs,tl,lay v ps 0++xs,by rw[z_];rfl,Hj u1,tU u1,by lia,ht,by rw[n_];lia,λcs hc y5 y6 y7=>?_⟩;rw[vc hv ht f1 (by lia) w1 (by lia) hm1 x2 λp=>(hc p).trans ((Ht (λ_=>.rfl) (Jh ht) p).trans (p3 p).symm)];nofun;refine Gi rfl ?_;nofun;refine⟨false,(p_ m).map λ(i:Nat)=>lay v ps (f+i*w'),w',by rw[F'];rfl,?_,?_,B6 hv,λy8=>?_⟩
  ·rw[a_,B_];exact Dk hv (by lia) hm2
  ·intro l ml;obtain⟨i,_,rfl⟩:=h_.mp ml;exact MC (Mz ..) (by lia)
  nofun;refine dc (CV xs) ?_;refine⟨Gm x1,by rw[a_];lia,?_⟩;rw[a_];nofun;exact⟨_,_,_,_,_,_,_,_,rfl⟩
 rintro _ ⟨u,b0,o,z9,z10,z11,z12,z13,rfl⟩;nofun;exact q _
end
variable {α:Type}
theorem ar0{P:List α->Prop}(h:P []):∀us:List α,us.length=0->P us:=λus e=>by
 cases us with
 |nil=>exact h
 |cons a r=>cases e
theorem ar1{P:List α->Prop}(h:∀a0,P [a0]):∀us:List α,us.length=1->P us:=λus e=>by
 cases us with
 |nil=>cases e
 |cons a0 r=>exact ar0 (P:=λr=>P (a0::r)) (h a0) r (Nr e)
theorem ar2{P:List α->Prop}(h:∀a0 a1,P [a0,a1]):∀us:List α,us.length=2->P us:=λus e=>by
 cases us with
 |nil=>cases e
 |cons a0 r=>exact ar1 (P:=λr=>P (a0::r)) (h a0) r (Nr e)
theorem ar3{P:List α->Prop}(h:∀a0 a1 a2,P [a0,a1,a2]):∀us:List α,us.length=3->P us:=λus e=>by
 cases us with
 |nil=>cases e
 |cons a0 r=>exact ar2 (P:=λr=>P (a0::r)) (h a0) r (Nr e)
theorem ar4{P:List α->Prop}(h:∀a0 a1 a2 a3,P [a0,a1,a2,a3]):∀us:List α,us.length=4->P us:=λus e=>by
 cases us with
 |nil=>cases e
 |cons a0 r=>exact ar3 (P:=λr=>P (a0::r)) (h a0) r (Nr e)
theorem ar5{P:List α->Prop}(h:∀a0 a1 a2 a3 a4,P [a0,a1,a2,a3,a4]):∀us:List α,us.length=5->P us:=λus e=>by
 cases us with
 |nil=>cases e
 |cons a0 r=>exact ar4 (P:=λr=>P (a0::r)) (h a0) r (Nr e)
theorem walk{l:VR}{q:Rj}{loose:List Str}{XP:(Str->Option Q_)->Rq->Prop}{YP:Ro->Rq->Prop}{d:DefRec}{K:VD->Rb}(hn:l.most=some 63)(hdf:d.params.defaults=[])
  (hY:∀(w:Ro) (h:Rq),YP w h->(K w.params).In h)
  (F:∀(w:Ro) (mg:Str->Option Q_) (fa:Ra) (h:Rq),(K w.params).In h->h.Ns R6 mg->mg d.name=some (.ref fa)->
   ∃fd:Rx,(∀(s:Rf) (u:Q_),V_ s fd ⟨[u],[]⟩ [("_law_script",u)])/\∀base:Rq,(K w.params).In base->base.Ns R6 mg->FnOk l.prog w (K w.params) mg base CX0 8 fa fd ["_law_script"] (ym (K w.params))) :
  Yy q loose XP YP l.row.toRowW d [] (λf vs=>XY f vs):=
 L2.Fi (n:=63) (k:=8) (x:="_law_script") (CX:=λ_=>CX0) (sp:=λw=>ym (K w.params)) hn (by decide) hdf ⟨rfl,by decide,by decide,rfl⟩ hY F (λ_ _ a ns hl _ hS=>⟨a,ns,rfl,hS,hl,λ_=>rfl⟩) λ_ _ _ _ _ z=>z
noncomputable def kd(P:VD) (x:Str) (t:Tok) (v:Q_):Td:=⟨PyData.keyHash P x,.str x t,v⟩
def kf(n:Str) (s:RG) (m:Q_) (c:Ra):Obj:=⟨.type "function",none,.func (Tb n n (jx s) (iG s) (av s) .none .none .none m none (.ref c) .none),#[]⟩
def KK(P:VD):Rb:=[(3,⟨.type "dict",none,.dict #[kd P "__name__" 165 (.str "law_millpath_k27_rings_cover" 397),kd P "__doc__" 166 (.none),kd P "__package__" 167 (.none),kd P "__loader__" 168 (.builtin "__main__.__loader__#opaque"),kd P "__spec__" 169 (.none),kd P "__annotations__" 170 (.ref 6),kd P "__builtins__" 171 (.ref 4),kd P "__file__" 173 (.str "/claim/cut.py" 172),kd P "__cached__" 174 (.none),kd P "STEPS" 211 (.ref 23),kd P "INNER" 220 (.ref 28),kd P "inner_point" 228 (.ref 35),kd P "octo_of" 236 (.ref 40),kd P "added" 242 (.ref 45),kd P "moved" 250 (.ref 52),kd P "quarters_in" 256 (.ref 57),kd P "is_flat" 263 (.ref 64),kd P "holds" 274 (.ref 71),kd P "mark_of" 286 (.ref 78),kd P "near_quarters" 295 (.ref 85),kd P "laid" 301 (.ref 90),kd P "fits" 315 (.ref 97),kd P "marked" 327 (.ref 104),kd P "noted" 336 (.ref 111),kd P "centres" 344 (.ref 116),kd P "reached_in" 352 (.ref 123),kd P "depths_in" 360 (.ref 128),kd P "within_rim" 366 (.ref 133),kd P "is_walled" 375 (.ref 140),kd P "rings" 387 (.ref 147),kd P "is_covering" 396 (.ref 154),kd P "_law_begin" 406 (.ref 161),kd P "_law_take" 419 (.ref 168),kd P "_law_box" 425 (.ref 173),kd P "_law_angled" 431 (.ref 178),kd P "_law_outline" 437 (.ref 183),kd P "_law_tool" 447 (.ref 190),kd P "_law_mark" 459 (.ref 197),kd P "_law_in_mark" 465 (.ref 202),kd P "_law_inside" 471 (.ref 207),kd P "_law_crossed" 487 (.ref 214),kd P "_law_pocket" 504 (.ref 221),kd P "_law_centres" 510 (.ref 226),kd P "_law_stands" 522 (.ref 233),kd P "_law_apart" 530 (.ref 240),kd P "_law_steps_right" 536 (.ref 245),kd P "_law_plans" 546 (.ref 252),kd P "law" 552 (.ref 257)] 48,#[]⟩),(35,kf "inner_point" jF (.str "millpath.corners" 187) 34),(34,⟨.type "code",none,.fields #[.str "inner_point" 221,.str "inner_point" 222,.str "/claim/cut.py" 223,.int (4) 0,.int (1) 0,.int (0) 0,.int (0) 0,.int (3) 0,.ref 29,.bool true,.int (181) 0,.ref 30,.none,.ref 31,.ref 32,.ref 33,.int (226) 0,.int (4) 0,.str "/claim/cut.py" 227],#[]⟩),(40,kf "octo_of" oq (.str "millpath.octos" 229) 39),(39,⟨.type "code",none,.fields #[.str "octo_of" 231,.str "octo_of" 232,.str "/claim/cut.py" 233,.int (8) 0,.int (1) 0,.int (0) 0,.int (0) 0,.int (3) 0,.ref 36,.bool true,.int (181) 0,.ref 37,.none,.none,.none,.ref 38,.int (234) 0,.int (8) 0,.str "/claim/cut.py" 235],#[]⟩),(45,kf "added" ur (.str "millpath.octos" 229) 44),(44,⟨.type "code",none,.fields #[.str "added" 237,.str "added" 238,.str "/claim/cut.py" 239,.int (14) 0,.int (2) 0,.int (0) 0,.int (0) 0,.int (3) 0,.ref 41,.bool true,.int (181) 0,.ref 42,.none,.none,.none,.ref 43,.int (240) 0,.int (14) 0,.str "/claim/cut.py" 241],#[]⟩),(52,kf "moved" tH (.str "millpath.octos" 229) 51),(51,⟨.type "code",none,.fields #[.str "moved" 243,.str "moved" 244,.str "/claim/cut.py" 245,.int (16) 0,.int (2) 0,.int (0) 0,.int (0) 0,.int (3) 0,.ref 46,.bool true,.int (181) 0,.ref 47,.none,.ref 48,.ref 49,.ref 50,.int (248) 0,.int (16) 0,.str "/claim/cut.py" 249],#[]⟩),(57,kf "quarters_in" jE (.str "millpath.octos" 229) 56),(56,⟨.type "code",none,.fields #[.str "quarters_in" 251,.str "quarters_in" 252,.str "/claim/cut.py" 253,.int (18) 0,.int (1) 0,.int (0) 0,.int (0) 0,.int (3) 0,.ref 53,.bool true,.int (181) 0,.ref 54,.none,.none,.none,.ref 55,.int (254) 0,.int (18) 0,.str "/claim/cut.py" 255],#[]⟩),(64,kf "is_flat" oE (.str "millpath.octos" 229) 63),(63,⟨.type "code",none,.fields #[.str "is_flat" 257,.str "is_flat" 258,.str "/claim/cut.py" 259,.int (28) 0,.int (1) 0,.int (0) 0,.int (0) 0,.int (3) 0,.ref 58,.bool true,.int (181) 0,.ref 59,.none,.ref 60,.ref 61,.ref 62,.int (261) 0,.int (28) 0,.str "/claim/cut.py" 262],#[]⟩),(71,kf "holds" tf (.str "millpath.octos" 229) 70),(70,⟨.type "code",none,.fields #[.str "holds" 264,.str "holds" 265,.str "/claim/cut.py" 266,.int (30) 0,.int (2) 0,.int (0) 0,.int (0) 0,.int (3) 0,.ref 65,.bool true,.int (181) 0,.ref 66,.none,.ref 67,.ref 68,.ref 69,.int (272) 0,.int (30) 0,.str "/claim/cut.py" 273],#[]⟩),(78,kf "mark_of" oB (.str "millpath.tools" 275) 77),(77,⟨.type "code",none,.fields #[.str "mark_of" 277,.str "mark_of" 278,.str "/claim/cut.py" 279,.int (36) 0,.int (2) 0,.int (0) 0,.int (0) 0,.int (3) 0,.ref 72,.bool true,.int (181) 0,.ref 73,.none,.ref 74,.ref 75,.ref 76,.int (284) 0,.int (36) 0,.str "/claim/cut.py" 285],#[]⟩),(85,kf "near_quarters" iM (.str "millpath.marks" 287) 84),(84,⟨.type "code",none,.fields #[.str "near_quarters" 289,.str "near_quarters" 290,.str "/claim/cut.py" 291,.int (41) 0,.int (1) 0,.int (0) 0,.int (0) 0,.int (3) 0,.ref 79,.bool true,.int (181) 0,.ref 80,.none,.ref 81,.ref 82,.ref 83,.int (293) 0,.int (41) 0,.str "/claim/cut.py" 294],#[]⟩),(90,kf "laid" xr (.str "millpath.marks" 287) 89),(89,⟨.type "code",none,.fields #[.str "laid" 296,.str "laid" 297,.str "/claim/cut.py" 298,.int (43) 0,.int (2) 0,.int (0) 0,.int (0) 0,.int (3) 0,.ref 86,.bool true,.int (181) 0,.ref 87,.none,.none,.none,.ref 88,.int (299) 0,.int (43) 0,.str "/claim/cut.py" 300],#[]⟩),(97,kf "fits" xx (.str "millpath.marks" 287) 96),(96,⟨.type "code",none,.fields #[.str "fits" 302,.str "fits" 303,.str "/claim/cut.py" 304,.int (47) 0,.int (3) 0,.int (0) 0,.int (0) 0,.int (3) 0,.ref 91,.bool true,.int (181) 0,.ref 92,.none,.ref 93,.ref 94,.ref 95,.int (313) 0,.int (47) 0,.str "/claim/cut.py" 314],#[]⟩),(104,kf "marked" qr (.str "millpath.marks" 287) 103),(103,⟨.type "code",none,.fields #[.str "marked" 316,.str "marked" 317,.str "/claim/cut.py" 318,.int (54) 0,.int (2) 0,.int (0) 0,.int (0) 0,.int (3) 0,.ref 98,.bool true,.int (181) 0,.ref 99,.none,.ref 100,.ref 101,.ref 102,.int (325) 0,.int (54) 0,.str "/claim/cut.py" 326],#[]⟩),(111,kf "noted" tL (.str "millpath.marks" 287) 110),(110,⟨.type "code",none,.fields #[.str "noted" 328,.str "noted" 329,.str "/claim/cut.py" 330,.int (61) 0,.int (1) 0,.int (0) 0,.int (0) 0,.int (3) 0,.ref 105,.bool true,.int (181) 0,.ref 106,.none,.ref 107,.ref 108,.ref 109,.int (334) 0,.int (61) 0,.str "/claim/cut.py" 335],#[]⟩),(116,kf "centres" nO (.str "millpath.reach" 337) 115),(115,⟨.type "code",none,.fields #[.str "centres" 339,.str "centres" 340,.str "/claim/cut.py" 341,.int (67) 0,.int (2) 0,.int (0) 0,.int (0) 0,.int (3) 0,.ref 112,.bool true,.int (181) 0,.ref 113,.none,.none,.none,.ref 114,.int (342) 0,.int (67) 0,.str "/claim/cut.py" 343],#[]⟩),(123,kf "reached_in" jY (.str "millpath.reach" 337) 122),(122,⟨.type "code",none,.fields #[.str "reached_in" 345,.str "reached_in" 346,.str "/claim/cut.py" 347,.int (72) 0,.int (2) 0,.int (0) 0,.int (0) 0,.int (3) 0,.ref 117,.bool true,.int (181) 0,.ref 118,.none,.ref 119,.ref 120,.ref 121,.int (350) 0,.int (72) 0,.str "/claim/cut.py" 351],#[]⟩),(128,kf "depths_in" lr (.str "millpath.rings" 353) 127),(127,⟨.type "code",none,.fields #[.str "depths_in" 355,.str "depths_in" 356,.str "/claim/cut.py" 357,.int (75) 0,.int (1) 0,.int (0) 0,.int (0) 0,.int (3) 0,.ref 124,.bool true,.int (181) 0,.ref 125,.none,.none,.none,.ref 126,.int (358) 0,.int (75) 0,.str "/claim/cut.py" 359],#[]⟩),(133,kf "within_rim" jZ (.str "millpath.rings" 353) 132),(132,⟨.type "code",none,.fields #[.str "within_rim" 361,.str "within_rim" 362,.str "/claim/cut.py" 363,.int (85) 0,.int (1) 0,.int (0) 0,.int (0) 0,.int (3) 0,.ref 129,.bool true,.int (181) 0,.ref 130,.none,.none,.none,.ref 131,.int (364) 0,.int (85) 0,.str "/claim/cut.py" 365],#[]⟩),(140,kf "is_walled" kH (.str "millpath.rings" 353) 139),(139,⟨.type "code",none,.fields #[.str "is_walled" 367,.str "is_walled" 368,.str "/claim/cut.py" 369,.int (88) 0,.int (2) 0,.int (0) 0,.int (0) 0,.int (3) 0,.ref 134,.bool true,.int (181) 0,.ref 135,.none,.ref 136,.ref 137,.ref 138,.int (373) 0,.int (88) 0,.str "/claim/cut.py" 374],#[]⟩),(147,kf "rings" tq (.str "millpath.rings" 353) 146),(146,⟨.type "code",none,.fields #[.str "rings" 376,.str "rings" 377,.str "/claim/cut.py" 378,.int (93) 0,.int (3) 0,.int (0) 0,.int (0) 0,.int (3) 0,.ref 141,.bool true,.int (181) 0,.ref 142,.none,.ref 143,.ref 144,.ref 145,.int (385) 0,.int (93) 0,.str "/claim/cut.py" 386],#[]⟩),(154,kf "is_covering" jC (.str "millpath.rings" 353) 153),(153,⟨.type "code",none,.fields #[.str "is_covering" 388,.str "is_covering" 389,.str "/claim/cut.py" 390,.int (100) 0,.int (3) 0,.int (0) 0,.int (0) 0,.int (3) 0,.ref 148,.bool true,.int (181) 0,.ref 149,.none,.ref 150,.ref 151,.ref 152,.int (394) 0,.int (100) 0,.str "/claim/cut.py" 395],#[]⟩),(161,kf "_law_begin" pE (.str "law_millpath_k27_rings_cover" 397) 160),(160,⟨.type "code",none,.fields #[.str "_law_begin" 399,.str "_law_begin" 400,.str "/claim/cut.py" 401,.int (103) 0,.int (1) 0,.int (0) 0,.int (0) 0,.int (3) 0,.ref 155,.bool true,.int (181) 0,.ref 156,.none,.ref 157,.ref 158,.ref 159,.int (404) 0,.int (103) 0,.str "/claim/cut.py" 405],#[]⟩),(168,kf "_law_take" tR (.str "law_millpath_k27_rings_cover" 397) 167),(167,⟨.type "code",none,.fields #[.str "_law_take" 407,.str "_law_take" 408,.str "/claim/cut.py" 409,.int (108) 0,.int (2) 0,.int (0) 0,.int (0) 0,.int (3) 0,.ref 162,.bool true,.int (181) 0,.ref 163,.none,.ref 164,.ref 165,.ref 166,.int (417) 0,.int (108) 0,.str "/claim/cut.py" 418],#[]⟩),(173,kf "_law_box" Du (.str "law_millpath_k27_rings_cover" 397) 172),(172,⟨.type "code",none,.fields #[.str "_law_box" 420,.str "_law_box" 421,.str "/claim/cut.py" 422,.int (119) 0,.int (5) 0,.int (0) 0,.int (0) 0,.int (3) 0,.ref 169,.bool true,.int (181) 0,.ref 170,.none,.none,.none,.ref 171,.int (423) 0,.int (119) 0,.str "/claim/cut.py" 424],#[]⟩),(178,kf "_law_angled" pH (.str "law_millpath_k27_rings_cover" 397) 177),(177,⟨.type "code",none,.fields #[.str "_law_angled" 426,.str "_law_angled" 427,.str "/claim/cut.py" 428,.int (124) 0,.int (5) 0,.int (0) 0,.int (0) 0,.int (3) 0,.ref 174,.bool true,.int (181) 0,.ref 175,.none,.none,.none,.ref 176,.int (429) 0,.int (124) 0,.str "/claim/cut.py" 430],#[]⟩),(183,kf "_law_outline" oH (.str "law_millpath_k27_rings_cover" 397) 182),(182,⟨.type "code",none,.fields #[.str "_law_outline" 432,.str "_law_outline" 433,.str "/claim/cut.py" 434,.int (135) 0,.int (5) 0,.int (0) 0,.int (0) 0,.int (3) 0,.ref 179,.bool true,.int (181) 0,.ref 180,.none,.none,.none,.ref 181,.int (435) 0,.int (135) 0,.str "/claim/cut.py" 436],#[]⟩),(190,kf "_law_tool" x9 (.str "law_millpath_k27_rings_cover" 397) 189),(189,⟨.type "code",none,.fields #[.str "_law_tool" 438,.str "_law_tool" 439,.str "/claim/cut.py" 440,.int (150) 0,.int (2) 0,.int (0) 0,.int (0) 0,.int (3) 0,.ref 184,.bool true,.int (181) 0,.ref 185,.none,.ref 186,.ref 187,.ref 188,.int (445) 0,.int (150) 0,.str "/claim/cut.py" 446],#[]⟩),(197,kf "_law_mark" xG (.str "law_millpath_k27_rings_cover" 397) 196),(196,⟨.type "code",none,.fields #[.str "_law_mark" 448,.str "_law_mark" 449,.str "/claim/cut.py" 450,.int (154) 0,.int (2) 0,.int (0) 0,.int (0) 0,.int (3) 0,.ref 191,.bool true,.int (181) 0,.ref 192,.none,.ref 193,.ref 194,.ref 195,.int (457) 0,.int (154) 0,.str "/claim/cut.py" 458],#[]⟩),(202,kf "_law_in_mark" nT (.str "law_millpath_k27_rings_cover" 397) 201),(201,⟨.type "code",none,.fields #[.str "_law_in_mark" 460,.str "_law_in_mark" 461,.str "/claim/cut.py" 462,.int (162) 0,.int (4) 0,.int (0) 0,.int (0) 0,.int (3) 0,.ref 198,.bool true,.int (181) 0,.ref 199,.none,.none,.none,.ref 200,.int (463) 0,.int (162) 0,.str "/claim/cut.py" 464],#[]⟩),(207,kf "_law_inside" pI (.str "law_millpath_k27_rings_cover" 397) 206),(206,⟨.type "code",none,.fields #[.str "_law_inside" 466,.str "_law_inside" 467,.str "/claim/cut.py" 468,.int (166) 0,.int (1) 0,.int (0) 0,.int (0) 0,.int (3) 0,.ref 203,.bool true,.int (181) 0,.ref 204,.none,.none,.none,.ref 205,.int (469) 0,.int (166) 0,.str "/claim/cut.py" 470],#[]⟩),(214,kf "_law_crossed" o9 (.str "law_millpath_k27_rings_cover" 397) 213),(213,⟨.type "code",none,.fields #[.str "_law_crossed" 472,.str "_law_crossed" 473,.str "/claim/cut.py" 474,.int (177) 0,.int (2) 0,.int (0) 0,.int (0) 0,.int (3) 0,.ref 208,.bool true,.int (181) 0,.ref 209,.none,.ref 210,.ref 211,.ref 212,.int (485) 0,.int (177) 0,.str "/claim/cut.py" 486],#[]⟩),(221,kf "_law_pocket" pN (.str "law_millpath_k27_rings_cover" 397) 220),(220,⟨.type "code",none,.fields #[.str "_law_pocket" 488,.str "_law_pocket" 489,.str "/claim/cut.py" 490,.int (189) 0,.int (5) 0,.int (0) 0,.int (0) 0,.int (3) 0,.ref 215,.bool true,.int (181) 0,.ref 216,.none,.ref 217,.ref 218,.ref 219,.int (502) 0,.int (189) 0,.str "/claim/cut.py" 503],#[]⟩),(226,kf "_law_centres" mB (.str "law_millpath_k27_rings_cover" 397) 225),(225,⟨.type "code",none,.fields #[.str "_law_centres" 505,.str "_law_centres" 506,.str "/claim/cut.py" 507,.int (200) 0,.int (2) 0,.int (0) 0,.int (0) 0,.int (3) 0,.ref 222,.bool true,.int (181) 0,.ref 223,.none,.none,.none,.ref 224,.int (508) 0,.int (200) 0,.str "/claim/cut.py" 509],#[]⟩),(233,kf "_law_stands" qz (.str "law_millpath_k27_rings_cover" 397) 232),(232,⟨.type "code",none,.fields #[.str "_law_stands" 511,.str "_law_stands" 512,.str "/claim/cut.py" 513,.int (207) 0,.int (3) 0,.int (0) 0,.int (0) 0,.int (3) 0,.ref 227,.bool true,.int (181) 0,.ref 228,.none,.ref 229,.ref 230,.ref 231,.int (520) 0,.int (207) 0,.str "/claim/cut.py" 521],#[]⟩),(240,kf "_law_apart" sL (.str "law_millpath_k27_rings_cover" 397) 239),(239,⟨.type "code",none,.fields #[.str "_law_apart" 523,.str "_law_apart" 524,.str "/claim/cut.py" 525,.int (212) 0,.int (2) 0,.int (0) 0,.int (0) 0,.int (3) 0,.ref 234,.bool true,.int (181) 0,.ref 235,.none,.ref 236,.ref 237,.ref 238,.int (528) 0,.int (212) 0,.str "/claim/cut.py" 529],#[]⟩),(245,kf "_law_steps_right" jG (.str "law_millpath_k27_rings_cover" 397) 244),(244,⟨.type "code",none,.fields #[.str "_law_steps_right" 531,.str "_law_steps_right" 532,.str "/claim/cut.py" 533,.int (214) 0,.int (2) 0,.int (0) 0,.int (0) 0,.int (3) 0,.ref 241,.bool true,.int (181) 0,.ref 242,.none,.none,.none,.ref 243,.int (534) 0,.int (214) 0,.str "/claim/cut.py" 535],#[]⟩),(252,kf "_law_plans" um (.str "law_millpath_k27_rings_cover" 397) 251),(251,⟨.type "code",none,.fields #[.str "_law_plans" 537,.str "_law_plans" 538,.str "/claim/cut.py" 539,.int (220) 0,.int (2) 0,.int (0) 0,.int (0) 0,.int (3) 0,.ref 246,.bool true,.int (181) 0,.ref 247,.none,.ref 248,.ref 249,.ref 250,.int (544) 0,.int (220) 0,.str "/claim/cut.py" 545],#[]⟩),(257,kf "law" kR (.str "law_millpath_k27_rings_cover" 397) 256),(256,⟨.type "code",none,.fields #[.str "law" 547,.str "law" 548,.str "/claim/cut.py" 549,.int (225) 0,.int (1) 0,.int (0) 0,.int (0) 0,.int (3) 0,.ref 253,.bool true,.int (181) 0,.ref 254,.none,.none,.none,.ref 255,.int (550) 0,.int (225) 0,.str "/claim/cut.py" 551],#[]⟩),(28,⟨.type "tuple",none,.seq #[.ref 24,.ref 25,.ref 26,.ref 27] 0,#[]⟩),(24,⟨.type "tuple",none,.seq #[.int (3) 212,.int (2) 213] 0,#[]⟩),(25,⟨.type "tuple",none,.seq #[.int (2) 214,.int (3) 215] 0,#[]⟩),(26,⟨.type "tuple",none,.seq #[.int (1) 216,.int (2) 217] 0,#[]⟩),(27,⟨.type "tuple",none,.seq #[.int (2) 218,.int (1) 219] 0,#[]⟩),(23,⟨.type "tuple",none,.seq #[.ref 15,.ref 16,.ref 17,.ref 18,.ref 19,.ref 20,.ref 21,.ref 22] 0,#[]⟩),(15,⟨.type "tuple",none,.seq #[.int (1) 189,.int (0) 190] 0,#[]⟩),(16,⟨.type "tuple",none,.seq #[.int (1) 191,.int (1) 192] 0,#[]⟩),(17,⟨.type "tuple",none,.seq #[.int (0) 193,.int (1) 194] 0,#[]⟩),(18,⟨.type "tuple",none,.seq #[.int (-1) 196,.int (1) 197] 0,#[]⟩),(19,⟨.type "tuple",none,.seq #[.int (-1) 199,.int (0) 200] 0,#[]⟩),(20,⟨.type "tuple",none,.seq #[.int (-1) 202,.int (-1) 204] 0,#[]⟩),(21,⟨.type "tuple",none,.seq #[.int (0) 205,.int (-1) 207] 0,#[]⟩),(22,⟨.type "tuple",none,.seq #[.int (1) 208,.int (-1) 210] 0,#[]⟩)]
noncomputable def kas:List Ra:=[3,35,34,40,39,45,44,52,51,57,56,64,63,71,70,78,77,85,84,90,89,97,96,104,103,111,110,116,115,123,122,128,127,133,132,140,139,147,146,154,153,161,160,168,167,173,172,178,177,183,182,190,189,197,196,202,201,207,206,214,213,221,220,226,225,233,232,240,239,245,244,252,251,257,256,28,24,25,26,27,23,15,16,17,18,19,20,21,22]
theorem xo(P:VD):kas=(KK P).map (·.1):=by kernel_rfl
noncomputable def VW:Rj:=PySem.W.view PySem.Challenge.pw_millpath_k27_rings_cover [1,2,3,5,6,7,8,9,10,12,14,15,16,17,18,20,21,23,24,25,26,27,29,30,31,32,33,34,35,36,37,38,39,40,41,42,43,44,45]
noncomputable def HD(s:RG):Pos:=match s with
 | .FunctionDef _ _ _ _ _ _ _ _ _ p=>p
 | _=>⟨0,0,0,0⟩
variable {mg:Str->Option Q_}
theorem dfn{h:Rq}{P:VD}{x:Str}{st:RG}{ps:List Str}(X:(KK P).In h)(G:h.Ns R6 mg)(f c:Ra)(m:Q_)(l:(KK P).lookup f=some (kf x st m c):=by kernel_rfl)(a:UR (KK P) R6 x=some (some (.ref f)):=by kernel_rfl)(cd:UW (KK P) (.ref c) x=true:=by kernel_rfl)(kp:Uj (KK P) (.ref f)=true:=by kernel_rfl)
  (hb:∀(kV doc pm:Q_) (an:Option Ra) (cdv ct:Q_) (us:List Q_),us.length=ps.length->YL (Tb x x (jx st) (iG st) (av st) .none kV doc pm an cdv ct) ⟨us,[]⟩=pure (ps.zip us):=by intro _ _ _ _ _ _ us;revert us;first|(apply ar1;intros;rfl)|(apply ar2;intros;rfl)|(apply ar3;intros;rfl)|(apply ar4;intros;rfl)|(apply ar5;intros;rfl)):Dfn (KK P) mg x st ps:=⟨f,_,xk (st:=st) l cd kp,Vk X G a,(xk (st:=st) l cd kp).binds hb⟩
noncomputable def mo0:Q_:=.str "millpath.corners" 187
noncomputable def mo1:Q_:=.str "millpath.octos" 229
noncomputable def mo2:Q_:=.str "millpath.tools" 275
noncomputable def mo3:Q_:=.str "millpath.marks" 287
noncomputable def mo4:Q_:=.str "millpath.reach" 337
noncomputable def mo5:Q_:=.str "millpath.rings" 353
noncomputable def mo6:Q_:=.str "law_millpath_k27_rings_cover" 397
set_option maxHeartbeats 0 in
theorem all_mk{l:VR}{w:Ro}{h:Rq}{fa:Ra}(X:(KK w.params).In h)(G:h.Ns R6 mg)(hfa:mg "law"=some (.ref fa)):∃fd:Rx,(∀(s:Rf) (v:Q_),V_ s fd ⟨[v],[]⟩ [("_law_script",v)])/\∀base:Rq,(KK w.params).In base->base.Ns R6 mg->FnOk l.prog w (KK w.params) mg base CX0 8 fa fd ["_law_script"] (ym (KK w.params)):=by
 have e:=hfa.symm.trans (Vk X G (show UR (KK w.params) R6 "law"=some (some (.ref 257)) by kernel_rfl));cases e;have z:∀{x:Str},UR (KK w.params) R6 x=some none->mg x=none:=λh=>PySem.W.mg_none_of X G h;have T:Txt mg:=⟨z (by kernel_rfl),z (by kernel_rfl),z (by kernel_rfl),z (by kernel_rfl),z (by kernel_rfl),z (by kernel_rfl),z (by kernel_rfl),z (by kernel_rfl),z (by kernel_rfl),z (by kernel_rfl),z (by kernel_rfl),z (by kernel_rfl),z (by kernel_rfl),z (by kernel_rfl),z (by kernel_rfl),z (by kernel_rfl),z (by kernel_rfl),z (by kernel_rfl),z (by kernel_rfl),z (by kernel_rfl),z (by kernel_rfl)⟩;have F:=xk (st:=kR) (K:=KK w.params) (x:="law") (qual:="law") (f:=257) (oc:=.type "function") (od:=none) (an:=none) (osl:=#[]) (kV:=.none) (doc:=.none) (pm:=mo6) (cdv:=.ref 256) (ct:=.none) (by kernel_rfl) (by kernel_rfl) (by kernel_rfl);refine⟨Tb "law" "law" (jx kR) (iG kR) (av kR) .none .none .none mo6 none (.ref 256) .none,λs v=>.of_eq rfl,λbase _ _=>?_⟩;have cl1:(KK w.params).lookup 28=some ⟨.type "tuple",none,.seq #[.ref 24,.ref 25,.ref 26,.ref 27] 0,#[]⟩:=by kernel_rfl
 have cl2:(KK w.params).lookup 24=some ⟨.type "tuple",none,.seq #[.int (3) 212,.int (2) 213] 0,#[]⟩:=by kernel_rfl
 have cl3:(KK w.params).lookup 25=some ⟨.type "tuple",none,.seq #[.int (2) 214,.int (3) 215] 0,#[]⟩:=by kernel_rfl
 have cl4:(KK w.params).lookup 26=some ⟨.type "tuple",none,.seq #[.int (1) 216,.int (2) 217] 0,#[]⟩:=by kernel_rfl
 have cl5:(KK w.params).lookup 27=some ⟨.type "tuple",none,.seq #[.int (2) 218,.int (1) 219] 0,#[]⟩:=by kernel_rfl
 have cl6:(KK w.params).lookup 23=some ⟨.type "tuple",none,.seq #[.ref 15,.ref 16,.ref 17,.ref 18,.ref 19,.ref 20,.ref 21,.ref 22] 0,#[]⟩:=by kernel_rfl
 have cl7:(KK w.params).lookup 15=some ⟨.type "tuple",none,.seq #[.int (1) 189,.int (0) 190] 0,#[]⟩:=by kernel_rfl
 have cl8:(KK w.params).lookup 16=some ⟨.type "tuple",none,.seq #[.int (1) 191,.int (1) 192] 0,#[]⟩:=by kernel_rfl
 have cl9:(KK w.params).lookup 17=some ⟨.type "tuple",none,.seq #[.int (0) 193,.int (1) 194] 0,#[]⟩:=by kernel_rfl
 have cl10:(KK w.params).lookup 18=some ⟨.type "tuple",none,.seq #[.int (-1) 196,.int (1) 197] 0,#[]⟩:=by kernel_rfl
 have cl11:(KK w.params).lookup 19=some ⟨.type "tuple",none,.seq #[.int (-1) 199,.int (0) 200] 0,#[]⟩:=by kernel_rfl
 have cl12:(KK w.params).lookup 20=some ⟨.type "tuple",none,.seq #[.int (-1) 202,.int (-1) 204] 0,#[]⟩:=by kernel_rfl
 have cl13:(KK w.params).lookup 21=some ⟨.type "tuple",none,.seq #[.int (0) 205,.int (-1) 207] 0,#[]⟩:=by kernel_rfl
 have cl14:(KK w.params).lookup 22=some ⟨.type "tuple",none,.seq #[.int (1) 208,.int (-1) 210] 0,#[]⟩:=by kernel_rfl
 have gt_INNER:UR (KK w.params) R6 "INNER"=some (some (.ref 28)):=by kernel_rfl
 have gt_STEPS:UR (KK w.params) R6 "STEPS"=some (some (.ref 23)):=by kernel_rfl
 have C_INNER:Glb (KK w.params) mg "INNER" zA:=⟨.ref 28,_,Vk X G gt_INNER,rfl,λ_ _=>(.cst (.inr ⟨_,_,0,cl1,rfl,rfl,(by show 4<=sizeLine;decide),(.cons (show RelV (.ref 24) (.ref 24)from rfl) (.cons (show RelV (.ref 25) (.ref 25)from rfl) (.cons (show RelV (.ref 26) (.ref 26)from rfl) (.cons (show RelV (.ref 27) (.ref 27)from rfl) .nil))))⟩) (.cons rfl (.cst (.inr ⟨_,_,0,cl2,rfl,rfl,(by show 2<=sizeLine;decide),(.cons (show RelV (.int (3)) (.int (3) 212)from⟨_,rfl⟩) (.cons (show RelV (.int (2)) (.int (2) 213)from⟨_,rfl⟩) .nil))⟩) (.cons rfl .int (.cons rfl .int .nil))) (.cons rfl (.cst (.inr ⟨_,_,0,cl3,rfl,rfl,(by show 2<=sizeLine;decide),(.cons (show RelV (.int (2)) (.int (2) 214)from⟨_,rfl⟩) (.cons (show RelV (.int (3)) (.int (3) 215)from⟨_,rfl⟩) .nil))⟩) (.cons rfl .int (.cons rfl .int .nil))) (.cons rfl (.cst (.inr ⟨_,_,0,cl4,rfl,rfl,(by show 2<=sizeLine;decide),(.cons (show RelV (.int (1)) (.int (1) 216)from⟨_,rfl⟩) (.cons (show RelV (.int (2)) (.int (2) 217)from⟨_,rfl⟩) .nil))⟩) (.cons rfl .int (.cons rfl .int .nil))) (.cons rfl (.cst (.inr ⟨_,_,0,cl5,rfl,rfl,(by show 2<=sizeLine;decide),(.cons (show RelV (.int (2)) (.int (2) 218)from⟨_,rfl⟩) (.cons (show RelV (.int (1)) (.int (1) 219)from⟨_,rfl⟩) .nil))⟩) (.cons rfl .int (.cons rfl .int .nil))) .nil)))))⟩;have C_STEPS:Glb (KK w.params) mg "STEPS" yW:=⟨.ref 23,_,Vk X G gt_STEPS,rfl,λ_ _=>(.cst (.inr ⟨_,_,0,cl6,rfl,rfl,(by show 8<=sizeLine;decide),(.cons (show RelV (.ref 15) (.ref 15)from rfl) (.cons (show RelV (.ref 16) (.ref 16)from rfl) (.cons (show RelV (.ref 17) (.ref 17)from rfl) (.cons (show RelV (.ref 18) (.ref 18)from rfl) (.cons (show RelV (.ref 19) (.ref 19)from rfl) (.cons (show RelV (.ref 20) (.ref 20)from rfl) (.cons (show RelV (.ref 21) (.ref 21)from rfl) (.cons (show RelV (.ref 22) (.ref 22)from rfl) .nil))))))))⟩) (.cons rfl (.cst (.inr ⟨_,_,0,cl7,rfl,rfl,(by show 2<=sizeLine;decide),(.cons (show RelV (.int (1)) (.int (1) 189)from⟨_,rfl⟩) (.cons (show RelV (.int (0)) (.int (0) 190)from⟨_,rfl⟩) .nil))⟩) (.cons rfl .int (.cons rfl .int .nil))) (.cons rfl (.cst (.inr ⟨_,_,0,cl8,rfl,rfl,(by show 2<=sizeLine;decide),(.cons (show RelV (.int (1)) (.int (1) 191)from⟨_,rfl⟩) (.cons (show RelV (.int (1)) (.int (1) 192)from⟨_,rfl⟩) .nil))⟩) (.cons rfl .int (.cons rfl .int .nil))) (.cons rfl (.cst (.inr ⟨_,_,0,cl9,rfl,rfl,(by show 2<=sizeLine;decide),(.cons (show RelV (.int (0)) (.int (0) 193)from⟨_,rfl⟩) (.cons (show RelV (.int (1)) (.int (1) 194)from⟨_,rfl⟩) .nil))⟩) (.cons rfl .int (.cons rfl .int .nil))) (.cons rfl (.cst (.inr ⟨_,_,0,cl10,rfl,rfl,(by show 2<=sizeLine;decide),(.cons (show RelV (.int (-1)) (.int (-1) 196)from⟨_,rfl⟩) (.cons (show RelV (.int (1)) (.int (1) 197)from⟨_,rfl⟩) .nil))⟩) (.cons rfl .int (.cons rfl .int .nil))) (.cons rfl (.cst (.inr ⟨_,_,0,cl11,rfl,rfl,(by show 2<=sizeLine;decide),(.cons (show RelV (.int (-1)) (.int (-1) 199)from⟨_,rfl⟩) (.cons (show RelV (.int (0)) (.int (0) 200)from⟨_,rfl⟩) .nil))⟩) (.cons rfl .int (.cons rfl .int .nil))) (.cons rfl (.cst (.inr ⟨_,_,0,cl12,rfl,rfl,(by show 2<=sizeLine;decide),(.cons (show RelV (.int (-1)) (.int (-1) 202)from⟨_,rfl⟩) (.cons (show RelV (.int (-1)) (.int (-1) 204)from⟨_,rfl⟩) .nil))⟩) (.cons rfl .int (.cons rfl .int .nil))) (.cons rfl (.cst (.inr ⟨_,_,0,cl13,rfl,rfl,(by show 2<=sizeLine;decide),(.cons (show RelV (.int (0)) (.int (0) 205)from⟨_,rfl⟩) (.cons (show RelV (.int (-1)) (.int (-1) 207)from⟨_,rfl⟩) .nil))⟩) (.cons rfl .int (.cons rfl .int .nil))) (.cons rfl (.cst (.inr ⟨_,_,0,cl14,rfl,rfl,(by show 2<=sizeLine;decide),(.cons (show RelV (.int (1)) (.int (1) 208)from⟨_,rfl⟩) (.cons (show RelV (.int (-1)) (.int (-1) 210)from⟨_,rfl⟩) .nil))⟩) (.cons rfl .int (.cons rfl .int .nil))) .nil)))))))))⟩;have Cl:Cal l.prog w (KK w.params) mg base 1 "_law_take" ["_law_state","_law_many"] (aG (KK w.params) 2 mh):=Ds (dfn X G 168 167 mo6) T;have on:Cal l.prog w (KK w.params) mg base 1 "_law_begin" ["_law_script"] (aG (KK w.params) 1 (tS (KK w.params))):=AQ (dfn X G 161 160 mo6) T;have sB:=(dfn X G 35 34 mo0).cal (base:=base) (P:=l.prog) (w:=w) λ_ _ F=>qi F T C_INNER;have wT:=(dfn X G 40 39 mo1).cal (base:=base) (P:=l.prog) (w:=w) λ_ _ F=>xm F T;have np:=(dfn X G 45 44 mo1).cal (base:=base) (P:=l.prog) (w:=w) λ_ _ F=>BQ F T;have wv:=(dfn X G 52 51 mo1).cal (base:=base) (P:=l.prog) (w:=w) λ_ _ F=>E8 F T wT np;have ul:=(dfn X G 64 63 mo1).cal (base:=base) (P:=l.prog) (w:=w) λ_ _ F=>wQ F T;have sn:=(dfn X G 71 70 mo1).cal (base:=base) (P:=l.prog) (w:=w) λ_ _ F=>BR F T sB;have At:=(dfn X G 57 56 mo1).cal (base:=base) (P:=l.prog) (w:=w) λ_ _ F=>qq F T ul sn;have wl:=(dfn X G 78 77 mo2).cal (base:=base) (P:=l.prog) (w:=w) λ_ _ F=>xB F T wv;have ww:=(dfn X G 85 84 mo3).cal (base:=base) (P:=l.prog) (w:=w) λ_ _ F=>nR F T At wl;have wP:=(dfn X G 111 110 mo3).cal (base:=base) (P:=l.prog) (w:=w) λ_ _ F=>Dy F T;have pp:=(dfn X G 214 213 mo6).cal (base:=base) (P:=l.prog) (w:=w) λ_ _ F=>xl F T;have sK:=(dfn X G 207 206 mo6).cal (base:=base) (P:=l.prog) (w:=w) λ_ _ F=>Aq F T pp;have pc:=(dfn X G 173 172 mo6).cal (base:=base) (P:=l.prog) (w:=w) λ_ _ F=>IY F T;have nw:=(dfn X G 178 177 mo6).cal (base:=base) (P:=l.prog) (w:=w) λ_ _ F=>A0 F T;have xz:=(dfn X G 183 182 mo6).cal (base:=base) (P:=l.prog) (w:=w) λ_ _ F=>xE F T Cl pc nw;have sw:=(dfn X G 202 201 mo6).cal (base:=base) (P:=l.prog) (w:=w) λ_ _ F=>wK F T;have wf:=(dfn X G 197 196 mo6).cal (base:=base) (P:=l.prog) (w:=w) λ_ _ F=>EZ F T sw;have Da:=(dfn X G 190 189 mo6).cal (base:=base) (P:=l.prog) (w:=w) λ_ _ F=>Ej F T Cl;have v4:=(dfn X G 90 89 mo3).cal (base:=base) (P:=l.prog) (w:=w) λ_ _ F=>EX F T;have re:=(dfn X G 97 96 mo3).cal (base:=base) (P:=l.prog) (w:=w) λ_ _ F=>Eu F T;have wn:=(dfn X G 104 103 mo3).cal (base:=base) (P:=l.prog) (w:=w) λ_ _ F=>Av F T ww v4;have po:=(dfn X G 116 115 mo4).cal (base:=base) (P:=l.prog) (w:=w) λ_ _ F=>wF F T ww re wP;have AC:=(dfn X G 123 122 mo4).cal (base:=base) (P:=l.prog) (w:=w) λ_ _ F=>rg F T wn po;have u8:=(dfn X G 154 153 mo5).cal (base:=base) (P:=l.prog) (w:=w) λ_ _ F=>qA F T wn AC;have zn:=(dfn X G 221 220 mo6).cal (base:=base) (P:=l.prog) (w:=w) λ_ _ F=>A4 F T Cl pc xz sK;have BT:=(dfn X G 233 232 mo6).cal (base:=base) (P:=l.prog) (w:=w) λ_ _ F=>Am F T;have v6:=(dfn X G 226 225 mo6).cal (base:=base) (P:=l.prog) (w:=w) λ_ _ F=>uR F T BT;have ut:=(dfn X G 140 139 mo5).cal (base:=base) (P:=l.prog) (w:=w) λ_ _ F=>sH F T C_STEPS;have Db:=(dfn X G 133 132 mo5).cal (base:=base) (P:=l.prog) (w:=w) λ_ _ F=>qW F T ut;have rc:=(dfn X G 128 127 mo5).cal (base:=base) (P:=l.prog) (w:=w) λ_ _ F=>uu F T Db;have AT:=(dfn X G 147 146 mo5).cal (base:=base) (P:=l.prog) (w:=w) λ_ _ F=>B8 F T rc;have o0:=(dfn X G 240 239 mo6).cal (base:=base) (P:=l.prog) (w:=w) λ_ _ F=>Dj F T;have Ch:=(dfn X G 245 244 mo6).cal (base:=base) (P:=l.prog) (w:=w) λ_ _ F=>qp F T o0;have xL:=(dfn X G 252 251 mo6).cal (base:=base) (P:=l.prog) (w:=w) λ_ _ F=>BA F T Cl;exact ID (Iz F T rc AT u8 on Cl Da wf zn v6 Ch xL)
end Mp
open PySem PySem.W PyProof.Rows
set_option maxRecDepth 100000 in
set_option maxHeartbeats 0 in
theorem Mp.HQ:PySem.Challenge.rw_millpath_k27_rings_cover.wellSaid=true:=by kernel_rfl
set_option maxRecDepth 100000 in
theorem Mp.left:PySem.W.LeftO PySem.Challenge.rw_millpath_k27_rings_cover.row.prog Mp.VW [] (λs=>PySem.W.xlAt Mp.VW [] s&&PySem.W.recOk (PySem.Challenge.rw_millpath_k27_rings_cover.row.toRowW.records) s) (ZY (WM Mp.KK Mp.kas Mp.xo)) (ZZ (WM Mp.KK Mp.kas Mp.xo)) 6000:=λw=>by kernel_rfl
set_option maxRecDepth 100000 in
set_option maxHeartbeats 0 in
theorem PySem.Challenge.cw_millpath_k27_rings_cover_holds : PySem.Challenge.rw_millpath_k27_rings_cover.Holds := by
 refine PySem.W.holds_law Mp.HQ λHQ=>?_;refine PySem.W.holds_open (r:=PySem.Challenge.rw_millpath_k27_rings_cover.row) (XP:=PySem.W.XL Mp.VW []) (YP:=ZP (WM Mp.KK Mp.kas Mp.xo)) (d:=⟨"law",L2.jx Mp.kR,L2.iG Mp.kR,L2.av Mp.kR,Mp.HD Mp.kR⟩) (kwd:=[]) Mp.left (Z9 _) (ZL _) (λs e=>PySem.W.xl_of s (Py.mp e).1) Z0 (by kernel_rfl) (by kernel_rfl) (by kernel_rfl) (λs e=>PySem.W.recFacts_of (Py.mp e).2) (by kernel_rfl) HQ (by kernel_rfl) ⟨rfl,rfl,rfl,rfl,rfl,by rfl'⟩ ?hw ?hc
 case hw=>w_witness2
 case hc=>
  refine Mp.walk (l:=PySem.Challenge.rw_millpath_k27_rings_cover) rfl (by kernel_rfl) (λw h Y=>PySem.W.kIn_of Y) ?F
  case F=>
  intro w mg fa h KX G hmg;exact Mp.all_mk KX G hmg
