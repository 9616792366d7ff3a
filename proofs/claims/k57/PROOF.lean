import PyProof.Rows.All
import Wide.All
import OpenK.AllK
import Wide.FinOn
import Lean
import PyProof.EqAt
import PyProof.EqKinds
import PyProof.TupleCall
import PyProof.ZipIter
import PyProof.NeKinds
import PyProof.SeqI3
import PyProof.MaxThree
import PyProof.CompUse
import PyProof.DictFindH
import PyProof.DictRoadsH
import PyProof.TupleKey
import PyProof.DictWalks
import PyProof.AttrMissHeap
import KE.KDictOf
import KE.KDictList
import KE.KItemsList
import PyProof.Rows.SortRuns
import KE.KSortTup
import PyProof.ListRange
import KE.KUnpack
import PyProof.Rows.SetFrom
import PyProof.Rows.SortRev
import PySem.Challenge.RW_millpath_k57_areas_put_together
set_option maxHeartbeats 4000000
set_option Elab.async false
set_option linter.all false
set_option maxRecDepth 100000
set_option genSizeOf false
set_option bootstrap.genMatcherCode false
local macro_rules | `(tactic| rfl')=>`(tactic| decide +kernel)
noncomputable section
open List renaming length_map->a_,getElem?_eq_some_iff->c_,getElem?_eq_getElem->d_,length_append->e_,length_cons->h_,perm_middle->i_,map_cons->k_,append_assoc->l_,mem_cons_of_mem->n_,size_toArray->o_,mem_cons->p_,map_append->q_,mem_append_right->r_,mem_map->t_,mem_cons_self->u_,take_length->w_,mem_append->x_,mem_append_left->y_,map_map->z_,mem_singleton->A_,getElem?_map->B_,range->B',perm_append_comm_assoc->C_,length_take->C',pairwise_append->D_,Perm.trans->D',nodup_cons->F_,mem_of_getElem?->F',take_append_drop->G_,append_nil->I_,getD_eq_getElem?_getD->J_,length_drop->K_,map->LO,mem_range->LP,take_add_one->LU,pairwise_map->LV,length_set->LX,mem_filter->LZ,length_nil->L_,length_reverse->Ma,getElem?_append_right->Mb,eq_nil_of_length_eq_zero->Mf,mem_iff_getElem->Mg,not_mem_nil->Mi,Pairwise.sublist->Mj,Perm.append_left->Mk,cons_append->Mm,mem_map_of_mem->Mn,length_range->Mo,pairwise_cons->Mt,mem_of_mem_take->Mu,take_of_length_le->Mx,nodup_append->Mz,find?_cons->MA,perm_append_comm->MB,length_filter_le->MC,Pairwise.imp_of_mem->MD,nodup_nil->MG,getElem?_cons_succ->MJ,cons.injEq->MK,map_congr_left->ML,drop_of_length_le->MM,getElem_mem->MQ,getElem?_append_left->MT,sum_cons->MW,getElem?_cons_zero->MX,replicate->M0,Perm.swap->M3,getElem?_drop->M6,concat_eq_append->M8,cons.inj->M',length_dropLast->Na,extract_eq_drop_take->Nb,pairwise_iff_getElem->Nd,map_nil->Nf,mem_reverse->Ng,all_eq_true->Nh,any_eq_true->Nj,map_eq_nil_iff->Nm,getElem?_take->Nr,take_sublist->Ny,drop_sublist->Nz,reverse_cons->NA,mem_iff_getElem?->NC,drop_zero->ND,getElem?_eq_none->NF,lookup_cons->NH,mem_of_mem_drop->NI,length_take_le'->NL,cons_ne_nil->NM,range'->NN,reverse_append->NO,flatMap_append->NP,foldl_cons->NR,drop_eq_getElem_cons->NS,range_succ->NU,all_map->NV,set_eq_of_length_le->NX,drop_drop->N3,pairwise_singleton->N4,Pairwise.nil->N5,getElem?_set_self->N9,length->N_,append_eq_nil_iff->Ob,pairwise_lt_range->Oe,countP_cons->Of,singleton_append->Oj,getElem?_set_ne->Ol,nil_append->Ot,dropLast_concat->Ou,drop_append_of_le_length->Ox,filterMap_cons->Oy,getElem?_range->OA,Perm.cons->OB,map_id->OC,set_cons_succ->OD,any_cons->OG,take_add->OH,length_eraseIdx_of_lt->OJ,getElem?_zip_eq_some->OM,getLast?_eq_getElem?->ON,getLast?_eq_some_iff->OO,getElem?_take_of_lt->OQ,zipIdx_cons->OR,set_set->OY,any_map->OZ,filter_cons->O1,of_mem_zip->O5,forIn_cons->O6,length_zip->O_,sum_append->Pb,Perm.append_right->Pc,drop_eq_nil_of_le->Pe,flatMap_singleton->Pf,length_singleton->Pg,forIn_nil->Ph,set_append_right->Pl,reverse_reverse->Po,getElem_toArray->Pu,all_cons->Pz,map_drop->PD,length_pos_iff->PH,replicate_succ->PJ,mem_filterMap->PK,set_cons_zero->PQ,zip_cons_cons->PU,length_range'->PV,filter_append->PX,length_concat->PZ,ext_getElem?->P4,mapM_toArray->P5,Pairwise.imp->P6,reverse_perm->P7,filter->P9,ext_getElem->Qb,getElem_map->Qd,mem_flatMap->Qe,flatMap_def->Qf,isEmpty_iff->Qi,zipIdx_nil->Qj,zip_append->Qm,Perm->Qs,zip_map'->Qw,map_id'->QA,zip_map->QE
open Nat renaming le_refl->b_,le_trans->m_,ne_of_lt->s_,lt_of_lt_of_le->A',zero_le->E_,le_of_lt->LQ,le_of_not_lt->Md,pos_of_ne_zero->Ml,sub_le->Mv,lt_succ_of_lt->My,succ.inj->MN,lt_irrefl->MP,lt_of_le_of_lt->MR,ne_of_gt->MU,add_sub_cancel_left->MY,add_le_add_left->MZ,le_add_right->M1,mul_le_mul->M5,sub_self->Ni,lt_succ_self->Nk,add_sub_cancel'->Nl,add_assoc->Np,lt_of_le_of_ne->Nt,one_pos->Nu,le_succ->Nw,le_of_eq->NB,sub_lt_left_of_lt_add->NT,zero_add->NW,le_of_lt_succ->N7,le_succ_of_le->N8,not_lt_of_le->Oh,lt_trans->Om,le_sub_one_of_lt->Oo,add_zero->Oq,add_lt_add_left->Oz,sub_lt->OL,min_eq_right->OU,lt_of_not_le->OV,max_eq_right->OW,lt_succ_iff_lt_or_eq->O0,min_eq_left->O7,le_add_left->O9,le_of_ble_eq_true->Pn,sub_le_sub_right->Pp,not_lt->Pq,add_sub_assoc->P0,succ_le_succ->Qc,not_lt_zero->Qk,le_antisymm->Ql,add_le_add->Qr,min_self->Qy,succ_pos->Qz,succ_mul->QG,mul_comm->QH,mul_add->QM,mod_lt->QO
open Int renaming toNat_natCast->LR,le_trans->Me,min_le_left->Mq,le_max_left->Mr,le_refl->Ms,min_le_right->ME,le_max_right->MF,le_total->MO,add_le_add->M4,mul_comm->NG,add_le_add_left->NQ,emod_lt_of_pos->NY,add_zero->NZ,zero_add->N0,natCast_nonneg->N1,sub_add_cancel->N2,max_eq_right->Oi,emod_nonneg->Ov,max_eq_left->Ow,fdiv_eq_ediv_of_nonneg->OE,fmod_eq_emod_of_nonneg->OF,max_le->OP,min_eq_right->O2,min_self->O3,max_self->O4,min_eq_left->O',natCast_one->Pa,add_comm->PY,mul_one->P8,one_mul->P_,natCast_zero->Qg,le_of_not_gt->Qh,natCast_add->Qn,le_antisymm->Qo,le_min->Qp,ofNat_le->QB,zero_mul->QC,le_of_lt->QF,mul_add->QK,mul_sub->QL,lt_min->QP
open Option renaming some.inj->H_,bind_eq_some_iff->Nn,map->NK,some.injEq->N6,map_eq_some_iff->Oa,isSome_some->PN,getD_none->Qa,some->QI,any->QN
open Bool renaming false_eq_true->G',false_ne_true->LY,and_eq_true->Mc,true_and->Nq,eq_false_iff->OK,not_false->Pj,beq_eq_decide_eq->Pm,and_eq_true_iff->Pw,not_true->Py,and_true->PC,bne_false->Qq,or_false->Qu,bne_true->Qv
open Array renaming getElem?_toList->gV,length_toList->g_,getElem?_eq_getElem->j_,toList_append->LW,getElem?_eq_none->Mh,perm_iff_toList_perm->Mw,toList_reverse->MI,toList_push->MV,getD_eq_getD_getElem?->M7,getElem?_eq_some_iff->M_,getElem?_extract->Nv,toList_extract->NJ,toList_map->Og,toList_setIfInBounds->OI,size_setIfInBounds->OX,Perm.refl->O8,size_extract->PR,toList->Qx
open Or renaming inl->f_,inr->v_
open Prod renaming ext->M9,ext_iff->QD,mk.inj->QJ
open False renaming elim->Rb
open ForInStep renaming done->Q6,yield->Rg
open Function renaming comp->Y7
open Ne renaming symm->SK
open PyProof renaming noPylong_small->Vz
open PyProof.Rows renaming Keyed->QY,arrOf->QZ,wpS_bind->Q2,SortSt->Q4,wpS_pure->Q7,pendingOf->Rc,seqObj->Ro,failedOf->RJ,wpS_forRange->RM,elem'->RN,SortKind->R3,wpS_mono->R_,IntsAre->So,callWith_type1->SU,slot_tuple_getitem->Ti,reverseSlice'->TH,wpS_get->TM,subscriptTail->Ur,AllBare->Uu,envOfC->UC,wpS_modify->UI,get?_update_seq->UJ,keyKind'->UR,listUpdate_at->U1,gallopOf->Vf,wpS_lift->Vg,entry_list_sort->Vw,subscriptTail_builtinR->VB,seqEpoch_at->VD,slot_list_sort->VJ,mergeAt'->VZ,getElem?_mirror_all->V8,plain_sorted->Wk,entry_sorted->Wl,minRun'->Wo,kind_sorted->Wy,oneType'->WM,boot_range->WO,callWith_builtin1->WQ,Subscript_->WS,bubble->WY,getElem?_bubble->WZ,ltAt'->W0,slicePart_none->Xd,tuples'->Xk,args_list_sort->Xl,countRun'->Xu,Constant_bool->Xw,IsTup->XJ,listItems_at->XZ,args_sorted1->X0,collect_list->X1,binarySort'->Yn,boot_sorted->Yo
open PyProof.Rows.F renaming plain_set_update_loop->Ub,entry_set_update_loop->Vn
open PyProof.Rows.IsTup renaming new->Xt
open PyProof.Rows.SortSt renaming mk'->Su
open PySem renaming wpAny_bind->QQ,Value->QR,Addr->QS,wpAny_pure->QU,Shared->QV,wpAny->QX,model->Q3,Program->Q5,World->Q8,Expr->Q9,Heap->Q_,starEach->Ra,Around->Rh,wpAny_newObj_type->Ri,FuncData->Rj,wpAny_holding->Rm,eval->Rw,wpAny_callSpecial?_slot->Ry,wpAny_call_entry->Rz,wpAny_mono->RA,Stmt->RC,rawInt->RH,wpAny_field->RI,wpAny_setField_rec->RK,intItems->RL,compareOp->RO,SetTable->RQ,sysModules->RS,mainGlobals->RU,Builtin->RW,DictEntry->RX,wpAny_Call_Name_kw->RY,wpAny_attempt->RZ,wpAny_setField->R0,foldedSetIterable->R1,Scope->R6,pyNext->R7,codeAny_builtin->R8,firstArgMember->Sd,binaryOp->Si,wpAny_pyIter_list->Sj,tupleKind->Sl,mem_of_lookup->Sn,IsPair->Sr,wpAny_seqItems->Sv,wpAny_pyIter_tuple->Sx,wpAny_rule->Sy,wpAny_ite_split->Sz,wpAny_typeNameOfWhole_itemiter->SD,wpAny_truthy_bool->SE,wpAny_dictEntries->SF,plainId_quiet->SH,wpAny_typeNameOfWhole_keyiter->SJ,codeAny->SM,assignEach->SN,bootBuiltins->SR,wpAny_passesOwn->SY,wpAny_setState_of->S5,Paired->S8,codeAny_mono->S9,NameKind->S_,wpAny_isInstance->Tb,numAt->Tg,intKind->Tj,wpAny_newList->Tn,wpAny_dictEpoch->To,wpAny_updateSeq->Tp,wpAny_of_eq->Tr,Model->Ts,fits_of_scanBound->Tu,backTo->Tv,wpAny_fieldsOf->Tx,IsZip->Tz,behindInMarks->TB,attributeBase->TC,holding->TJ,sliceBounds->TL,wpAny_typeOf->TV,storedH->T7,isSubtype_stop->T8,wpAny_pyIter_slot->Uc,assign->Ug,pyIter->Uh,wpAny_letGo->Uk,intItems_at->Um,wpAny_isOneOf_itemiter->Uo,wpAny_standAt->Uq,wpAny_handled->Us,comprehension->Ut,swapsWith->Uv,wpAny_notOrdered_dict->Uw,builtinLookup_eq_fast->Ux,wpAny_execs_nil->UA,letOwnedTupleGo->UB,newExc->UD,wpAny_updateSeq_pair->UE,wpAny_setEntries_of->UM,getItem->UO,wpAny_newTuple->UQ,subscripted->US,wpAny_throw->UT,wpAny_onRaise->UZ,Comprehension->U0,wpAny_setEpoch_of->U5,entryOfKey->U6,call_meets->U7,valueAt->U',callerA->Va,Operator->Vb,noFill_tuple_add->Vc,IsPart->Vd,Params->Ve,relayAll->Vh,wpAny_askSetting->Vi,wpAny_Call_method0_late->Vk,atKey->Vq,wpAny_specialOf->Vr,seqItems?->Vt,typeLookup_type->Vu,updateSeq->Vx,wpAny_pyNext_list_item->Vy,codeAny_compStart_list->VC,wpAny_pyNext_list_end->VF,BindsTo->VG,getitemInPython_of_ne->VH,wpAny_isOneOf_keyiter->VI,isSubtype_type->VM,builtinsNs->VN,wpAny_loadName_local->VO,wpAny_load->VP,bindL->VQ,bindC->VR,wpAny_letTemporaryGo->VS,field->VT,newTuple->VU,raiseNew->VX,wpAny_newFunctionEnv->VY,wpAny_pyIter_keyiter->V0,intKind_is->V1,seq_tuple_add->V2,Builtin->V3,wpAny_loadName_cell->V6,evalArgs_none->V7,isTrue->Wa,PassesOwn->Wb,wpAny_List_spliced->Wd,Result->We,concat_meets->Wf,seqIndex_neg->Wg,tupleKind_room_in1->Wh,getattributeRaised->Wj,CmpOp->Wn,wpAny_assign_Name->Wq,wpAny_storeSet_of->Wu,seqIndex_of->Ww,wpAny_eqBool_int->Wz,GenState->WA,wpAny_execs_cons->WB,wpAny_comp_letGo->WG,wpAny_pyIter_zip->WH,setField->WJ,entryFor->WK,entryFor_of_tree->WL,wpAny_Name->WN,typeLookup->WR,call_tuple_same->WT,typeOf->WU,wpAny_operating->WV,call->WW,checkCount->W5,codeAny_of_tree->W8,setItem->Xa,standAt->Xb,Slot->Xe,Keyword->Xf,letTemporaryGo->Xg,argBest->Xi,callType_codes->Xj,ItemsOf->Xm,entryFor_alias->Xn,setNext->Xo,wpAny_runValue->Xp,storeName->Xr,cellsFrom->Xs,swapsWithSole->Xx,swappedStores->Xy,intBits_le_64->Xz,evalPart_none->XB,call_list_seq->XC,wpAny_standIf->XF,signature?_of->XH,Drawn->XM,call_range_2->XT,bindArgs->XU,call_meetsIn->X2,setAddHashed->X5,argsOk->X6,wpAny_mkInt->Yc,interactive->Yd,IsRangeIter->Ye,keywordEach->Yh,operate->Yp,table->Yr,Walks->Yt,Fin->YG
open PySem.Around renaming under_plainId->RT
open PySem.AutoSeq1 renaming list_extend_list_list_0->WC,list_clear_list_0->XD
open PySem.Builtin.Dict renaming showsAll->Tw,updateFrom->Vl,dictSlotNone->XO,pendingCount->XQ,addKeywords->XX,selfAndRest->XY,pairItems->Yl,noArgs->YA
open PySem.Builtin.Dict_items renaming ownsTuple->Sh,pairFromOwner->Tf,ownedTupleFields->T9,ownedTupleIsFree->T_,newIterator->W_,dictOf->XS
open PySem.Builtin.Frozenset renaming updateFrom->Xq,newClass->XI,sizeOf->X8,slot0->X'
open PySem.Builtin.List renaming listExtendWith->SX,listSameRef->Td,listTooLong->TY,listLengthHint->UW,listUpdate->Vm
open PySem.Builtin.Range renaming rangeSize->X9
open PySem.Builtin.Slice renaming slicePlaces->S6,sliceAdjust->TQ,sliceApplied->UY,slicePartIndex->Xc,sliceFields->XN
open PySem.Builtin.SmallTypes renaming nextOf->RE,ownedTupleIsFree->Se,ownedTupleHandOut->TZ
open PySem.Builtin.Tuple renaming tupleExact->Ta,tupleItemsOf->XA
open PySem.Calls renaming spliced_cons->SV,call_function_entry->TR,callWith_builtin->Uj,Name_function_global->UX,spliced_nil->U4
open PySem.Data renaming cell->Wc,seq->XW,fields->Yf
open PySem.Env renaming kindOf->WX
open PySem.F renaming slot_list_append->Rt,type_list_append->Ru,slot_dict_itemiterator_next->R9,slot_dict_keyiterator_next->Sf,slot_tuple_iterator_next->S0,called_set->Te,plain_extend_loop->TN,args_tuple_add_2->TU,slot_list_getattribute->T1,slot_list_extend->T3,type_list_extend->T4,entry_tuple_add->T',plainAttrs_list->Ua,slot_tuple_add->Ui,args_dict_itemiterator_next_1->Uz,slot_zip_next->UG,args_dict_keyiterator_next_1->UH,entry_dict_itemiterator_next->UK,entry_dict_keyiterator_next->UL,args_tuple_iterator_next_1->UP,entry_tuple_iterator_next->UU,slot_dict_getitem->U8,plain_extend_loop->U9,slot_dict_items->Vp,slot_dict_items_iter->VE,slot_dict_len->VL,entry_extend_loop->V9,args_zip_next_1->Wr,plain_list_iadd->Wv,entry_zip_next->WD,slot_dict_iter->WI,slot_set_iter->W7,plain_set_new->W9
open PySem.Heap renaming get?_push_of_some->QW,get?_push_size->Q0,lt_size->Q1,SameBut->Rq,get?_update_self->Rr,size_push->RG,get?_update_other->RV,get?_update_ne->R4,size_update->Tc,ExtBut->Tq,get?_push_ne->Ud,push->Uy,IsTuple->Wi,IsList->Wx
open PySem.Heap.DictOf renaming new->YZ
open PySem.Heap.DictOfH renaming new->YS
open PySem.Heap.IsList renaming push->WE,extBut->YF
open PySem.Heap.IsListIter renaming extBut->Yk
open PySem.Heap.IsSliceOf renaming new->YE
open PySem.Heap.IsTuple renaming push->Ws,extBut->Yy
open PySem.Heap.IsTupleIter renaming extBut->X_
open PySem.Heap.SameBut renaming update->RF,refl->YN
open PySem.IsL renaming update->YR
open PySem.IsRange renaming new->Yg
open PySem.Manifest renaming sig_set_iterator->XR,owners->Y1
open PySem.MeetsSeq renaming list_pop_last->Yi
open PySem.NameKind renaming free->Ss,cell->Y4
open PySem.Obj renaming mapSeq->Rf,data_mapFields->RD,isFreed_of_fields->Sw,cls_mapFields->Tt,mapFields->TF,putSet->W6
open PySem.Paired renaming length->R',snoc->Yj
open PySem.PassesOwn renaming never->Rk
open PySem.SeqAt.EqAt renaming int_none->Yu,str_none->Yv,none_int->Yw,none_str->Yx,int_str->YC,str_int->YD,same->YY
open PySem.SeqAt.RcAt renaming tuples->YO,lists->YU
open PySem.SeqAt.RcNeAt renaming tuples->YB,lists->YI
open PySem.SetTable renaming below->RB,grown->S7,sizeAbove->Wm,slot->XG,toList_insertAt->X3,has->X4,orStandIn->YH,insertAt->YK,freeSlot->YL,layClean->YM,advance->YT,relaid->Y0,Probe->Y3,laid->Y5,fits->Y6
open PySem.SetTable.below renaming go->Ue
open PySem.SetTable.probe renaming go->Wt
open PySem.Shared renaming heap->Ul,TypeIs->U2
open PySem.Str renaming ofString->RP
open PySem.Value renaming none->Rn,ref->Rx,type->R5,int->SQ,bool->T5,str->V_,isStrOf->Xv,isInt->Ya
open PySem.W renaming Frag->QT,fnOf->SW,keepIn->T6,codeIn->UN,methodObj->U3,nsIn->Vj,OpenLaw->Vs,kat_nil->Vv,cellsFrom_some->VA,mg_of->V4,kHook->V5,kitAny->Xh,WalkO->XE
open PySem.W.Hook renaming keeps->YJ,says->YQ,obs->YV,val->YW,of->Y2
open PySem.W.KatTups renaming cons->Ys,nil->Yz
open PySem.W.XL renaming keeps->YX
open PySem.Walks renaming tuple->Ym,list->Yq
open PySem.pickOrder renaming go->X7
open StateT renaming run_pure->W4
open Sum renaming inr->Rv,inl->U_
open Sum.inl renaming inj->Yb
open True renaming intro->SO
namespace L2
open PySem PySem.Spec PyProof.Rows
abbrev Key:=Sum Int (Option Str)
noncomputable def rE:Key->QR->Bool
 | .inl k,v=>Ya k v
 | .inr (some x),v=>Xv x v
 | .inr none,.none=>true
 | .inr none,_=>false
noncomputable def L8(w:Q8):Key->Int
 | .inl k=>hashInt k
 | .inr (some x)=>hashStr w x
 | .inr none=>4238894112
theorem bZ:∀{k:Key}{v:QR},rE k v=true->(∃i t,k=U_ i/\v=SQ i t)\/(∃x t,k=Rv (some x)/\v=V_ x t)\/(k=Rv none/\v=Rn)
 | .inl i,v,h=>by obtain⟨t,e⟩:=Value.isInt_shape (k:=i) (v:=v) h;exact .inl ⟨i,t,rfl,e⟩
 | .inr (some x),v,h=>by obtain⟨t,e⟩:=Value.isStrOf_shape (x:=x) (v:=v) h;exact .inr (.inl ⟨x,t,rfl,e⟩)
 | .inr none,v,h=>by cases v <;> first|exact .inr (.inr ⟨rfl,rfl⟩)|cases h
theorem A3(i:Int)(t:Tok):rE (.inl i) (.int i t)=true:=by simp[rE,Ya]
theorem AB(x:Str)(t:Tok):rE (.inr x) (.str x t)=true:=by simp[rE,Xv]
theorem Hk(a b:Int):decide ((U_ a:Key)=U_ b)=(a == b):=by
 by_cases e:a=b
 ·subst e;simp
 have h:¬(U_ a:Key)=U_ b:=fun q=>e (Yb q);rw[decide_eq_false h];exact(beq_eq_false_iff_ne.mpr e).symm
theorem HM(a b:Str):decide ((Rv (some a):Key)=Rv (some b))=decide (a=b):=by
 by_cases e:a=b
 ·subst e;simp
 have h:¬(Rv (some a):Key)=Rv (some b):=fun q=>e (H_ (Sum.inr.inj q));rw[decide_eq_false h,decide_eq_false e]
variable {A:Rh}{E:QR->QV->Prop}{s:QV}{w:Q8}
theorem Dh{prog:Q5}{Q:Int->QV->Prop}(h:Q 4238894112 {s with toks:=s.toks+1}):QX (Q3 prog w) A (PySem.pyHash .none) Q E s:=
 PySem.W.pyHash_slot (T:="NoneType") rfl F.slot_NoneType_hash F.entry_NoneType_hash (F.args_NoneType_hash_1 _) (beq_builtin_none _) (.inl rfl) (QQ (QU (QQ (Yc (QU ⟨_,_,rfl,h⟩)))))
def b8(prog:Q5)(w:Q8):PySem.KeyKind prog w Key where
 is:=rE
 hash:=L8 w
 inj:=fun v a b ha hb=>by rcases bZ ha with⟨i,t,rfl,rfl⟩|⟨x,t,rfl,rfl⟩|⟨rfl,rfl⟩ <;> rcases bZ hb with⟨j,u,rfl,e⟩|⟨y,u,rfl,e⟩|⟨rfl,e⟩ <;> cases e <;> rfl
 byValue:=fun k v h=>by rcases bZ h with⟨i,t,rfl,rfl⟩|⟨x,t,rfl,rfl⟩|⟨rfl,rfl⟩ <;> rfl
 pyHash:=fun hv h=>by
  rcases bZ hv with⟨i,t,rfl,rfl⟩|⟨x,t,rfl,rfl⟩|⟨rfl,rfl⟩
  ·exact wpAny_pyHash_int h
  ·exact wpAny_pyHash_str h
  exact Dh h
 eqBool:=fun hu hv h=>by
  rcases bZ hu with⟨i,t,rfl,rfl⟩|⟨x,t,rfl,rfl⟩|⟨rfl,rfl⟩ <;> rcases bZ hv with⟨j,u,rfl,rfl⟩|⟨y,u,rfl,rfl⟩|⟨rfl,rfl⟩
  ·rw[Hk]at h;exact Wz h
  ·exact YC i t y u _ _ _ _ h
  ·exact Yu i t _ _ _ _ h
  ·exact YD x t j u _ _ _ _ h
  ·rw[HM]at h;exact wpAny_eqBool_str h
  ·exact Yv x t _ _ _ _ h
  ·exact Yw j u _ _ _ _ h
  ·exact Yx y u _ _ _ _ h
  exact YY _ _ _ _ _ h
 «strs»:=fun k x t v h=>by
  rcases bZ h with⟨i,u,rfl,e⟩|⟨y,u,rfl,e⟩|⟨rfl,e⟩
  ·exact nomatch e
  ·injection e with e1 _
   subst e1;cases v <;> rfl
  exact nomatch e
theorem vF(prog:Q5)(w:Q8)(i:Int)(t:Tok):(b8 prog w).is (.inl i) (.int i t)=true:=A3 i t
theorem vh(prog:Q5)(w:Q8)(x:Str)(t:Tok):(b8 prog w).is (.inr x) (.str x t)=true:=AB x t
inductive V where
 |non|bl (b:Bool)|int (i:Int)|str (x:Str)|byt (b:Array UInt8)|flt (b:UInt64)|ref (a:QS)|ty (n:String)
 deriving DecidableEq
set_option genInjectivity false
noncomputable def RelV:V->QR->Prop
 | .non,u=>u=Rn
 | .bl b,u=>u=T5 b
 | .int i,u=>∃t,u=SQ i t
 | .str x,u=>∃t,u=V_ x t
 | .byt b,u=>∃t,u=Value.bytes b t
 | .flt b,u=>∃t,u=Value.float b t
 | .ref a,u=>u=Rx a
 | .ty n,u=>u=R5 n
abbrev Vals:List V->List QR->Prop:=S8 RelV
variable {us:List QR}{xs:List V}
theorem Vals.length (r:Vals xs us):xs.length=us.length:=R' r
theorem Vals.get:∀{xs:List V}{us:List QR}{i:Nat}{x:V},Vals xs us->xs[i]?=some x->∃u,us[i]?=some u/\RelV x u
 | _,_,_,_,.nil,e=>by simp at e
 | _,_,0,_,.cons r _,e=>by simp at e;subst e;exact⟨_,rfl,r⟩
 | _,_,i+1,x,.cons _ t,e=>by obtain⟨u,h1,h2⟩:=Vals.get (i:=i) (x:=x) t (by simpa using e);exact⟨u,by simpa using h1,h2⟩
variable {u:QR}
theorem Vals.set {x:V}(r:RelV x u):∀{xs:List V}{us:List QR} (i:Nat),Vals xs us->Vals (xs.set i x) (us.set i u)
 | _,_,_,.nil=>.nil
 | _,_,0,.cons _ t=>.cons r t
 | _,_,i+1,.cons q t=>.cons q (Vals.set r i t)
theorem Vals.append:∀{xs ys:List V}{us ws:List QR},Vals xs us->Vals ys ws->Vals (xs++ys) (us++ws):=by
 intro xs ys us ws x s;induction x with
 |nil=>exact s
 |cons r t ih=>exact .cons r ih
theorem Vals.take:∀{xs:List V}{us:List QR} (n:Nat),Vals xs us->Vals (xs.take n) (us.take n)
 | _,_,0,_=>.nil
 | _,_,_+1,.nil=>.nil
 | _,_,n+1,.cons r t=>.cons r (Vals.take n t)
theorem Vals.drop:∀{xs:List V}{us:List QR} (n:Nat),Vals xs us->Vals (xs.drop n) (us.drop n)
 | _,_,0,r=>r
 | _,_,_+1,.nil=>.nil
 | _,_,n+1,.cons _ t=>Vals.drop n t
def ra:Option V->Option QR->Prop
 |some v,some u=>RelV v u
 |none,none=>True
 | _,_=>False
def KV{κ:Type}:List (κ×V)->List (κ×QR)->Prop:=S8 fun(p:κ×V) (q:κ×QR)=>p.1=q.1/\RelV p.2 q.2
noncomputable def kV:Key->V
 | .inl i=>.int i
 | .inr (some x)=>.str x
 | .inr none=>.non
inductive HO where
 |lst (xs:List V)
 |tup (xs:List V)
 |dK (kvs:List (Key×V))|dT (kvs:List (List Key×V))
 |set (S:Int->Bool) (n:Nat)
 |ins (C dx:QS) (fs:List (Str×V))
 |own (x:QS)
 |xd (fs:List (Str×V))
 |met (f x:QS)
 |rng (lo hi:Int)
 |frz (o:Obj) (u:HO)
 |tbl (ps:Array QR)
 |ext (φ:Q_->Prop)
abbrev Hp:=QS->Option HO
noncomputable def upd(H:Hp)(a:QS)(o:HO):Hp:=fun b=>if b=a then some o else H b
variable {H:Hp}{a:QS}{o:HO}
theorem aO:upd H a o a=some o:=by unfold upd;rw[if_pos rfl]
variable {b:QS}
theorem aN(h:b≠a):upd H a o b=H b:=by unfold upd;rw[if_neg h]
theorem Fq{u:HO}:upd (upd H a o) a u=upd H a u:=by funext b;unfold upd;split <;> rfl
theorem Dp{u:HO}(h:H a=some o)(h':H b=some u)(d:o≠u):a≠b:=by intro e;subst e;rw[h]at h';exact d (H_ h')
theorem bG(h:H a=some o)(h':H b=none):a≠b:=by intro e;subst e;rw[h]at h';cases h'
section
variable(P:Q5)(w:Q8)
def b6(H:Hp)(h:Q_)(a:QS):HO->Prop
 | .lst xs=>xs.length<=sizeLine/\∃(its:List QR) (n:Nat),Vals xs its/\h.get? a=some { cls:=.type "list",data:=.seq its.toArray n}
 | .tup xs=>xs.length<=sizeLine/\∃its:List QR,Vals xs its/\XJ h a its.toArray
 | .dK kvs=>kvs.length<=sizeLine/\(a == RS)=false/\∃vs,KV kvs vs/\h.DictOf (b8 P w) a vs
 | .dT kvs=>kvs.length<=sizeLine/\(a == RS)=false/\∃xs:List (List Key×QS×QR),
   S8 (fun(p:List Key×V) (q:List Key×QS×QR)=>p.1=q.1/\H q.2.1=some (.tup (p.1.map kV))/\RelV p.2 q.2.2) kvs xs/\
   ∃o es ep,h.get? a=some o/\o.ExactDict/\o.data=.dict es ep/\es.toList=xs.map (U6 (Sl (b8 P w)))/\(xs.map (·.1)).Nodup
 | .set S n=>h.SetOf (Tj P w) a S n
 | .ins C dx fs=>H dx=some (.own a)/\fs.length<=1000/\dx≠a/\h.get? a=some (PySem.W.instObj C dx)/\
   ∃mA,h.Ns1 dx mA/\(∀f,ra (fs.lookup f) (mA f))/\PySem.Within mA (fs.map (·.1))
 | .own _=>∃o,h.get? a=some o
 | .xd fs=>∃mA,h.Ns1 a mA/\∀f,ra (fs.lookup f) (mA f)
 | .rng lo hi=>∃t u v,h.get? a=some { cls:=.type "range",data:=.fields #[.int lo t,.int hi u,.int 1 v] }
 | .frz o u=>h.get? a=some o/\b6 H h a u
 | .tbl ps=>h.get? a=some { cls:=.none,data:=.fields ps}
 | .met f x=>h.get? a=some (U3 (.ref f) (.ref x))
 | .ext φ=>φ h/\(∃o,h.get? a=some o)/\∀h1 h2:Q_,φ h1->(∀o,h1.get? a=some o->h2.get? a=some o)->φ h2
def HOk(H:Hp)(h:Q_):Prop:=∀a o,H a=some o->b6 P w H h a o
end
section
variable{P:Q5}{w:Q8}{H H':Hp}{h h':Q_}{a:QS}{o:HO}
theorem b6.lt (x:b6 P w H h a o):a<h.objs.size:=by
 cases o with
 |lst xs=>obtain⟨_,_,_,_,e⟩:=x;exact Q1 e
 |tup xs=>obtain⟨_,_,_,p⟩:=x;exact p.lt
 |dK kvs=>obtain⟨_,_,_,_,o,_,_,e,_⟩:=x;exact Q1 e
 |dT kvs=>obtain⟨_,_,_,_,o,_,_,e,_⟩:=x;exact Q1 e
 |set S n=>obtain⟨o,_,_,_,e,_⟩:=x;exact Q1 e
 |ins C dx fs=>obtain⟨_,_,_,e,_⟩:=x;exact Q1 e
 |own y=>obtain⟨_,e⟩:=x;exact Q1 e
 |xd fs=>obtain⟨_,⟨_,_,_,e,_⟩,_⟩:=x;exact Q1 e
 |rng lo hi=>obtain⟨_,_,_,e⟩:=x;exact Q1 e
 |frz ob u=>obtain⟨e,_⟩:=x;exact Q1 e
 |tbl ps=>exact Q1 (show h.get? a=some _ from x)
 |met f y=>exact Q1 (show h.get? a=some _ from x)
 |ext φ=>obtain⟨_,⟨_,e⟩,_⟩:=x;exact Q1 e
theorem Paired.Kx {α β:Type}{F G:α->β->Prop}:∀{l₁:List α}{l₂:List β},S8 F l₁ l₂->(∀a b,F a b->G a b)->S8 G l₁ l₂:=by
 intro l₁ l₂ x f;induction x with
 |nil=>exact .nil
 |cons r t ih=>exact .cons (f _ _ r) ih
theorem b6.o8 (x:b6 P w H h a o)(k:∀b u,(b=a\/H b=some (.own a))->h.get? b=some u->h'.get? b=some u)
  (ho:∀b,H b=some (.own a)->H' b=some (.own a)) (ht:∀b xs,H b=some (.tup xs)->H' b=some (.tup xs)):b6 P w H' h' a o:=by
 induction o with
 |lst xs=>obtain⟨z,its,n,r,e⟩:=x;exact⟨z,its,n,r,k _ _ (.inl rfl) e⟩
 |tup xs=>obtain⟨z,its,r,ob,e,c⟩:=x;exact⟨z,its,r,ob,k _ _ (.inl rfl) e,c⟩
 |dK kvs=>obtain⟨z,y,vs,r,ob,es,ep,e,c⟩:=x;exact⟨z,y,vs,r,ob,es,ep,k _ _ (.inl rfl) e,c⟩
 |dT kvs=>
  obtain⟨z,y,xs,r,ob,es,ep,e,c⟩:=x;exact⟨z,y,xs,Paired.Kx r fun p q z=>⟨z.1,ht _ _ z.2.1,z.2.2⟩,ob,es,ep,k _ _ (.inl rfl) e,c⟩
 |set S n=>obtain⟨ob,es,ep,t,e,c⟩:=x;exact⟨ob,es,ep,t,k _ _ (.inl rfl) e,c⟩
 |ins C dx fs=>
  obtain⟨d,z,ne,e,mA,⟨od,es,ep,e2,c⟩,r⟩:=x;exact⟨ho _ d,z,ne,k _ _ (.inl rfl) e,mA,⟨od,es,ep,k _ _ (.inr d) e2,c⟩,r⟩
 |own y=>obtain⟨ob,e⟩:=x;exact⟨ob,k _ _ (.inl rfl) e⟩
 |xd fs=>obtain⟨mA,⟨od,es,ep,e,c⟩,r⟩:=x;exact⟨mA,⟨od,es,ep,k _ _ (.inl rfl) e,c⟩,r⟩
 |rng lo hi=>obtain⟨t,u,v,e⟩:=x;exact⟨t,u,v,k _ _ (.inl rfl) e⟩
 |frz ob u ih=>obtain⟨e,q⟩:=x;exact⟨k _ _ (.inl rfl) e,ih q⟩
 |tbl ps=>
  have e:h.get? a=some { cls:=.none,data:=.fields ps}:=x;show h'.get? a=some { cls:=.none,data:=.fields ps};exact k a _ (.inl rfl) e
 |met f y=>
  have e:h.get? a=some (U3 (.ref f) (.ref y)):=x;show h'.get? a=some (U3 (.ref f) (.ref y));exact k a _ (.inl rfl) e
 |ext φ=>obtain⟨p,⟨o,e⟩,st⟩:=x;exact⟨st _ _ p fun o q=>k _ _ (.inl rfl) q,⟨o,k _ _ (.inl rfl) e⟩,st⟩
theorem HOk.lt (x:HOk P w H h)(e:H a=some o):a<h.objs.size:=(x a o e).lt
theorem HOk.fresh (x:HOk P w H h)(e:h.objs.size<=a):H a=none:=by
 cases q:H a with
 |none=>rfl
 |some u=>exact absurd (A' (x.lt q) e) (MP _)
theorem HOk.kept (x:HOk P w H h)(k:∀b u,h.get? b=some u->h'.get? b=some u):HOk P w H h':=fun a o e=>
 (x a o e).o8 (fun b u _ q=>k b u q) (fun _ q=>q) fun _ _ q=>q
theorem HOk.laid (x:HOk P w H h)(k:∀b u,h.get? b=some u->h'.get? b=some u)(hp:h.objs.size<=a)(new:b6 P w (upd H a o) h' a o):HOk P w (upd H a o) h':=fun b u e=>by
 have hn:=x.fresh hp;by_cases hb:b=a
 ·subst hb;rw[aO]at e;cases e;exact new
 rw[aN hb]at e;exact(x b u e).o8 (fun c v _ q=>k c v q) (fun c q=>by rw[aN (bG q hn)];exact q) fun c xs q=>by rw[aN (bG q hn)];exact q
end
noncomputable def Rd(H:Hp)(a:QS)(u:HO):Prop:=H a=some u\/∃o,H a=some (.frz o u)
variable {P:Q5}{h:Q_}
theorem Rd.ok {u:HO}(r:Rd H a u)(x:HOk P w H h):b6 P w H h a u:=by
 rcases r with r|⟨o,r⟩
 ·exact x a u r
 obtain⟨_,q⟩:=x a _ r;exact q
noncomputable def Mut:Option HO->Prop
 |some (.lst _)=>True
 |some (.dK _)=>True
 |some (.dT _)=>True
 |some (.set _ _)=>True
 |some (.ins _ _ _)=>True
 |some (.ext _)=>True
 | _=>False
section
variable{P:Q5}{w:Q8}{H:Hp}{h h':Q_}{x e:QS}{o':HO}
theorem HOk.write (ok:HOk P w H h)(mu:Mut (H x))(he:e=x\/H e=some (.own x))(k:∀b u,b≠e->h.get? b=some u->h'.get? b=some u)(heo:∃u,h'.get? e=some u)
  (new:b6 P w (upd H x o') h' x o'):HOk P w (upd H x o') h':=fun b u q=>by
 have nown:∀c y,H c=some (.own y)->c≠x:=fun c y r z=>by subst z;rw[r]at mu;exact mu
 have ntup:∀c xs,H c=some (.tup xs)->c≠x:=fun c xs r z=>by subst z;rw[r]at mu;exact mu
 by_cases hb:b=x
 ·subst hb;rw[aO]at q;cases q;exact new
 rw[aN hb]at q;by_cases hbe:b=e
 ·have q':H b=some (.own x):=by
   rcases he with z|z
   ·exact absurd (hbe.trans z) hb
   rw[hbe];exact z
  rw[q]at q';cases q';obtain⟨v,hv⟩:=heo;exact⟨v,by rw[hbe];exact hv⟩
 refine(ok b u q).o8 (fun c v hc r=>k c v ?_ r) (fun c r=>by rw[aN (nown c b r)];exact r) fun c xs r=>by rw[aN (ntup c xs r)];exact r
 rcases hc with rfl|hc
 ·exact hbe
 rintro rfl;rcases he with z|z
 ·exact nown c b hc z
 rw[hc]at z;cases z;exact hb rfl
end
structure Un (fs ex:List QS) (H H':Hp) (h h':Q_):Prop where
 keep:∀b o,h.get? b=some o->H b=none->b ∉ fs->b ∉ ex->h'.get? b=some o
 slot:∀b o,h.get? b=some o->H b=none->b∈fs->b ∉ ex->∃sl,h'.get? b=some {o with slots:=sl}
 free:∀b o,h.get? b=some o->H b=none->b ∉ ex->H' b=none
 there:∀b o,h.get? b=some o->b ∉ ex->∃o',h'.get? b=some o'
 tups:∀b xs,H b=some (.tup xs)->H' b=some (.tup xs)
 frzs:∀b o u,H b=some (.frz o u)->H' b=some (.frz o u)
 tbls:∀b ps,H b=some (.tbl ps)->∃more,H' b=some (.tbl (ps++more))
section
variable{fs fs' ex ex':List QS}{H H1 H2:Hp}{h h1 h2 h':Q_}{a x e:QS}{o:HO}
theorem Un.any (u:Un fs ex H H1 h h1){ob:Obj}(q:h.get? b=some ob)(n:H b=none)(hx:b ∉ ex):∃sl,h1.get? b=some {ob with slots:=sl}:=by
 by_cases hb:b∈fs
 ·exact u.slot b ob q n hb hx
 exact⟨ob.slots,u.keep b ob q n hb hx⟩
theorem Un.kept (k:∀b u,h.get? b=some u->h'.get? b=some u):Un fs ex H H h h':=
 ⟨fun b ob q _ _ _=>k b ob q,fun b ob q _ _ _=>⟨ob.slots,k b ob q⟩,fun _ _ _ n _=>n,fun b ob q _=>⟨ob,k b ob q⟩,fun _ _ q=>q,fun _ _ _ q=>q,fun _ ps q=>⟨#[],by rw[q];simp⟩⟩
theorem Un.refl:Un fs ex H H h h:=Un.kept fun _ _ q=>q
theorem Un.laid (k:∀b u,h.get? b=some u->h'.get? b=some u)(hp:h.objs.size<=a)(hn:H a=none):Un fs ex H (upd H a o) h h' where
 keep:=fun b u q _ _ _=>k b u q
 slot:=fun b u q _ _ _=>⟨u.slots,k b u q⟩
 free:=fun b u q n _=>by rw[aN (s_ (A' (Q1 q) hp))];exact n
 there:=fun b u q _=>⟨u,k b u q⟩
 tups:=fun b xs q=>by rw[aN (bG q hn)];exact q
 frzs:=fun b u xs q=>by rw[aN (bG q hn)];exact q
 tbls:=fun b ps q=>⟨#[],by rw[aN (bG q hn),q];simp⟩
theorem Un.write (mu:Mut (H x))(he:e=x\/H e=some (.own x))(k:∀b u,b≠e->h.get? b=some u->h'.get? b=some u)(heo:∃u,h'.get? e=some u):Un fs ex H (upd H x o) h h':=by
 have hx:∀b,H b=none->b≠x:=fun b n z=>by subst z;rw[n]at mu;exact mu
 have hb:∀b,H b=none->b≠e:=fun b n z=>by
  subst z;rcases he with r|r
  ·exact hx b n r
  rw[n]at r;cases r
 have hm:∀b u,H b=some u->¬Mut (some u)->b≠x:=fun b u q nm z=>by subst z;rw[q]at mu;exact nm mu
 refine⟨fun b u q n _ _=>k b u (hb b n) q,fun b u q n _ _=>⟨u.slots,k b u (hb b n) q⟩,fun b u q n _=>by rw[aN (hx b n)];exact n,fun b u q _=>?_,
  fun b xs q=>by rw[aN (hm b _ q fun z=>z)];exact q,fun b u xs q=>by rw[aN (hm b _ q fun z=>z)];exact q,fun b ps q=>⟨#[],by rw[aN (hm b _ q fun z=>z),q];simp⟩⟩
 by_cases hbe:b=e
 ·subst hbe;exact heo
 exact⟨u,k b u hbe q⟩
end
noncomputable def trk(h:Q_)(H:Hp):List QS:=(B' h.objs.size).filter fun a=>(H a).isSome
def uf(h:Q_)(H:Hp):Q_:=PySem.W.hideAll h (trk h H)
theorem Ay(h:Q_)(H:Hp):(uf h H).objs.size=h.objs.size:=PySem.W.hideAll_size _ _
theorem DE{o:Obj}(e:h.get? b=some o)(n:H b=none):(uf h H).get? b=some o:=
 PySem.W.hideAll_get _ e fun hm=>by have q:(H b).isSome=true:=(LZ.mp hm).2;rw[n]at q;simp at q
theorem EG{o:Obj}(e:(uf h H).get? b=some o):h.get? b=some o/\H b=none:=by
 have e':h.get? b=some o:=PySem.W.of_hideAll (trk h H) e;refine⟨e',?_⟩;cases q:H b with
 |none=>rfl
 |some x=>
  have hm:b∈trk h H:=LZ.mpr ⟨LP.mpr (Q1 e'),by simp[q]⟩;have z:(uf h H).get? b=none:=PySem.W.hideAll_none (trk h H) hm;rw[z]at e;cases e
noncomputable def FO(g h:Q_)(L:QS):List (QS×Obj):=(B' h.objs.size).filterMap fun a=>if a=L\/(g.get? a).isSome=true then none else(h.get? a).map fun o=>(a,o)
def rest(g h:Q_)(L d:QS):List (QS×Obj):=(FO g h L).filter fun p=>decide (p.1≠d)
structure Mod (K:QT) (mg:Str->Option QR) (base:Q_):Prop where
 kin:K.In base
 glob:base.Ns RU mg
 blt:∃mb,base.Ns VN mb/\∀x:Str,x≠"__name__"->mb x=SR x
 nolimit:base.NoLimit
structure Cx where
 prog:Q5
 w:Q8
 K:QT
 mg:Str->Option QR
 base:Q_
 A:Rh
 N:List Str
 s₀:QV
 H₀:Hp
 env:Env
 outer:List Env
 stack:List Env
 ex:List QS
 fn:Str->Bool
 calm:Bool
 pn:List (QS×Obj)
 xe:QR->QV->Prop
noncomputable def frs(l:List Env):List QS:=l.filterMap (·.frame)
abbrev Cx.fs (X:Cx):List QS:=frs X.outer
noncomputable def Vis(sc:R6)(x:Str):Prop:=sc.names.lookup x=some .local\/sc.names.lookup x=some .cell\/sc.names.lookup x=some .free
noncomputable def Loc(sc:R6)(x:Str):Prop:=sc.names.lookup x=some .local\/sc.names.lookup x=some .cell
noncomputable def Look(env:Env)(h:Q_)(m:Str->Option QR)(x:Str)(u:QR):Prop:=
 (env.kindOf x=some .local/\m x=some u)\/((env.kindOf x=some .cell\/env.kindOf x=some .free)/\∃c,env.cells.lookup x=some c/\h.IsCell c (some u))
structure Cx.Ok (X:Cx):Prop where
 mod:Mod X.K X.mg X.base
 kind:X.env.scope.kind=.function
 glob:X.env.globals=RU
 blt:X.env.builtins=VN
 above:X.s₀.heap.objs.size<=X.env.locals
 inj:∀x y c,X.env.cells.lookup x=some c->X.env.cells.lookup y=some c->x=y
 has:∀x,(X.env.kindOf x=some .cell\/X.env.kindOf x=some .free)->∃c,X.env.cells.lookup x=some c
 cab:∀x c,X.fn x=true->X.env.cells.lookup x=some c->X.s₀.heap.objs.size<=c
 hd:X.calm=true->X.A.handled=none
 frames:X.A.frames=some X.stack
 stk:X.stack=X.outer\/(X.stack=X.env::X.outer/\X.env.frame=some X.env.locals)
 exf:∀b∈X.ex,b≠X.env.locals/\∀x c,X.env.cells.lookup x=some c->c≠b
 bs:∀b o,X.base.get? b=some o->X.s₀.heap.get? b=some o/\X.H₀ b=none
 bsz:X.base.objs.size<=X.s₀.heap.objs.size
 noex:∀b o,X.base.get? b=some o->b ∉ X.ex
 exfs:∀b∈X.ex,b ∉ X.fs
 qL:X.s₀.heap.FunFrames X.base X.outer
 frf:∀b∈X.fs,X.H₀ b=none
structure Inv (X:Cx) (ac:List (QS×Obj)) (σ:List (Option V)) (H:Hp) (s:QV):Prop where
 ok:X.Ok
 os:s.os=X.s₀.os
 bare:Uu s.gens
 base:Un X.fs X.ex X.H₀ H X.s₀.heap s.heap
 loc:∃m,s.heap.Ns X.env.locals m/\∀(i:Nat) (x:Str) (v:V),X.N[i]?=some x->σ[i]?=some (some v)->Vis X.env.scope x->∃u,RelV v u/\Look X.env s.heap m x u
 cell:∀x c,X.env.cells.lookup x=some c->∃v,s.heap.IsCell c v
 free:H X.env.locals=none
 freeC:∀x c,X.env.cells.lookup x=some c->H c=none
 pin:∀p∈X.pn++ac,s.heap.get? p.1=some p.2/\H p.1=none/\p.1≠X.env.locals/\p.1 ∉ X.fs/\∀v,p.2.data≠.cell v
 hok:HOk X.prog X.w H s.heap
 len:σ.length=X.N.length
variable {M:Ts}{N:List Str}{Q:Unit->QV->Prop}{ch:List QS}{g':Array WA}{i t':Nat}{v:V}{x:Str}
section
variable{X:Cx}{ac:List (QS×Obj)}{σ:List (Option V)}{H H':Hp}{s:QV}{h':Q_}
theorem Cx.Ok.Lh (ok:X.Ok){o:Obj}(e:X.base.get? b=some o):b ∉ X.fs:=fun hb=>by have:=(ok.qL.mem hb).1;rw[e]at this;cases this
theorem Inv.bs (I:Inv X ac σ H s):∀b o,X.base.get? b=some o->s.heap.get? b=some o/\H b=none:=fun b o e=>
 ⟨I.base.keep b o (I.ok.bs b o e).1 (I.ok.bs b o e).2 (I.ok.Lh e) (I.ok.noex b o e),I.base.free b o (I.ok.bs b o e).1 (I.ok.bs b o e).2 (I.ok.noex b o e)⟩
theorem Inv.bk (I:Inv X ac σ H s):∀b o,X.base.get? b=some o->s.heap.get? b=some o:=fun b o e=>(I.bs b o e).1
theorem Inv.mod (I:Inv X ac σ H s):Mod X.K X.mg X.base:=I.ok.mod
theorem Inv.kIn (I:Inv X ac σ H s):X.K.In s.heap:=I.ok.mod.kin.keeps I.bk
theorem Inv.lt (I:Inv X ac σ H s):X.env.locals<s.heap.objs.size:=let ⟨_,hn,_⟩:=I.loc;hn.lt
theorem Inv.sz (I:Inv X ac σ H s):X.s₀.heap.objs.size<=s.heap.objs.size:=m_ I.ok.above (LQ I.lt)
theorem Inv.Le (I:Inv X ac σ H s)(h:s.heap.objs.size<=a):a ∉ X.fs:=fun hb=>by obtain⟨_,o,ho,_⟩:=I.ok.qL.mem hb;exact absurd (A' (Q1 ho) (m_ I.sz h)) (MP _)
theorem Inv.cne (I:Inv X ac σ H s):∀x c,X.env.cells.lookup x=some c->c≠X.env.locals:=fun x c e z=>by obtain⟨v,o,ho,hd⟩:=I.cell x c e;obtain⟨m,⟨o',es,ep,ho',hd',_⟩,_⟩:=I.loc;rw[z,ho']at ho;cases ho;rw[hd']at hd;cases hd
theorem Inv.qL (I:Inv X ac σ H s):s.heap.FunFrames X.base X.outer:=by
 have all:∀(l:List Env),(∀b∈frs l,b∈X.fs)->X.s₀.heap.FunFrames X.base l->s.heap.FunFrames X.base l:=by
  intro l;induction l with
  |nil=>intro _ _;trivial
  |cons env r ih=>
   intro hs hl;obtain⟨hk,⟨L,o,hf,hn,ho,hd⟩,hr⟩:=hl;have hL:L∈X.fs:=hs L (by unfold frs;rw[Oy,hf];exact u_);obtain⟨sl,e⟩:=I.base.slot L o ho (I.ok.frf L hL) hL fun z=>I.ok.exfs L z hL;exact⟨hk,⟨L,_,hf,hn,e,hd⟩,ih (fun b hb=>hs b (by unfold frs;rw[Oy,hf];exact n_ _ hb)) hr⟩
 exact all X.outer (fun _ hb=>hb) I.ok.qL
theorem Inv.stack (I:Inv X ac σ H s):s.heap.FunFrames X.base X.stack:=by
 rcases I.ok.stk with e|⟨e,hf⟩
 ·rw[e];exact I.qL
 rw[e];obtain⟨m,hn,_⟩:=I.loc;refine .cons (by rw[I.ok.kind];decide) hf hn ?_ I.qL;exact Heap.get?_none_of_le (m_ I.ok.bsz I.ok.above)
theorem Inv.xM (I:Inv X ac σ H s):∀b∈frs X.stack,b∈X.env.locals::X.fs:=fun b hb=>by
 rcases I.ok.stk with e|⟨e,hf⟩
 ·rw[e]at hb;exact n_ _ hb
 rw[e]at hb;unfold frs at hb;rw[Oy,hf]at hb;exact hb
theorem Inv.yB (I:Inv X ac σ H s):∀b∈frs X.stack,H b=none:=fun b hb=>by
 rcases p_.mp (I.xM b hb)with e|hb
 ·rw[e];exact I.free
 obtain⟨_,o,ho,_⟩:=I.ok.qL.mem hb;exact I.base.free b o ho (I.ok.frf b hb) fun z=>I.ok.exfs b z hb
theorem Inv.step {d':XM}(I:Inv X ac σ H s)
  (hch:∀b∈ch,(b∈X.ex\/X.s₀.heap.objs.size<=b)/\b≠X.env.locals/\(∀x c,X.env.cells.lookup x=some c->c≠b)/\∀p∈X.pn++ac,p.1≠b)
  (keep:∀b o,b≠X.env.locals->b ∉ X.fs->b ∉ ch->s.heap.get? b=some o->H b=none->h'.get? b=some o)
  (slot:∀b o,b≠X.env.locals->b∈X.fs->b ∉ ch->s.heap.get? b=some o->H b=none->∃sl,h'.get? b=some {o with slots:=sl}) (free:∀b o,b ∉ ch->s.heap.get? b=some o->H b=none->H' b=none)
  (there:∀b o,b ∉ ch->s.heap.get? b=some o->∃o',h'.get? b=some o')
  (tups:∀b xs,H b=some (.tup xs)->H' b=some (.tup xs)) (frzs:∀b o u,H b=some (.frz o u)->H' b=some (.frz o u)) (tbls:∀b ps,H b=some (.tbl ps)->∃more,H' b=some (.tbl (ps++more)))
  (ns:∀m,s.heap.Ns X.env.locals m->h'.Ns X.env.locals m) (hok:HOk X.prog X.w H' h') (hg:Uu g') :
  Inv X ac σ H' {s with heap:=h',gens:=g',drawn:=d',toks:=t'}:=by
 have neL:∀b o,X.s₀.heap.get? b=some o->b≠X.env.locals:=fun b o e=>s_ (A' (Q1 e) I.ok.above);have neC:∀b o,X.s₀.heap.get? b=some o->b ∉ X.ex->b ∉ ch:=fun b o e hx hb=>by
  rcases(hch b hb).1 with z|z
  ·exact hx z
  exact absurd (A' (Q1 e) z) (MP _)
 have cellK:∀x c,X.env.cells.lookup x=some c->∀v,s.heap.IsCell c v->h'.IsCell c v:=fun x c e v ⟨o,ho,hd⟩=>by
  have nch:c ∉ ch:=fun z=>(hch c z).2.2.1 x c e rfl;by_cases hc:c∈X.fs
  ·obtain⟨sl,q⟩:=slot c o (I.cne x c e) hc nch ho (I.freeC x c e);exact⟨_,q,hd⟩
  exact⟨o,keep c o (I.cne x c e) hc nch ho (I.freeC x c e),hd⟩
 refine⟨I.ok,I.os,hg,⟨fun b o e n hb hx=>?_,fun b o e n hb hx=>?_,fun b o e n hx=>?_,fun b o e hx=>?_,fun b xs e=>tups b xs (I.base.tups b xs e),fun b o xs e=>frzs b o xs (I.base.frzs b o xs e),fun b ps e=>?_⟩,?_,fun x c e=>?_,?_,fun x c e=>?_,fun p hp=>?_,hok,I.len⟩
 ·exact keep b o (neL b o e) hb (neC b o e hx) (I.base.keep b o e n hb hx) (I.base.free b o e n hx)
 ·obtain⟨sl,e1⟩:=I.base.slot b o e n hb hx;obtain⟨sl',e2⟩:=slot b _ (neL b o e) hb (neC b o e hx) e1 (I.base.free b o e n hx);exact⟨sl',e2⟩
 ·obtain⟨o',e1⟩:=I.base.there b o e hx;exact free b o' (neC b o e hx) e1 (I.base.free b o e n hx)
 ·obtain⟨o',e1⟩:=I.base.there b o e hx;exact there b o' (neC b o e hx) e1
 ·obtain⟨m1,e1⟩:=I.base.tbls b ps e;obtain⟨m2,e2⟩:=tbls b _ e1;exact⟨m1++m2,by rw[e2,Array.append_assoc]⟩
 ·obtain⟨m,hn,hl⟩:=I.loc;refine⟨m,ns m hn,fun i x v e1 e2 e3=>?_⟩;obtain⟨u,r,l⟩:=hl i x v e1 e2 e3;refine⟨u,r,?_⟩;rcases l with l|⟨k,c,e,z⟩
  ·exact .inl l
  exact .inr ⟨k,c,e,cellK x c e _ z⟩
 ·obtain⟨v,z⟩:=I.cell x c e;exact⟨v,cellK x c e v z⟩
 ·obtain⟨m,⟨o,_,_,ho,_⟩,_⟩:=I.loc;exact free _ o (fun z=>(hch _ z).2.1 rfl) ho I.free
 ·obtain⟨v,o,ho,hd⟩:=I.cell x c e;exact free c o (fun z=>(hch c z).2.2.1 x c e rfl) ho (I.freeC x c e)
 obtain⟨e,n,ne,nf,d⟩:=I.pin p hp;have nch:p.1 ∉ ch:=fun z=>(hch p.1 z).2.2.2 p hp rfl;exact⟨keep p.1 p.2 ne nf nch e n,free p.1 p.2 nch e n,ne,nf,d⟩
theorem Inv.un (I:Inv X ac σ H s)(u:Un X.fs [] H H' s.heap h')(hok:HOk X.prog X.w H' h'):Inv X ac σ H' {s with heap:=h',toks:=t'}:=by
 obtain⟨m,⟨o,es,ep,ho,r⟩,_⟩:=id I.loc;obtain⟨sl,hL⟩:=u.any ho I.free (by simp);exact I.step (g':=s.gens) (d':=s.drawn) (ch:=[]) (fun _ z=>nomatch z) (fun b o _ hb _ e n=>u.keep b o e n hb (by simp)) (fun b o _ hb _ e n=>u.slot b o e n hb (by simp)) (fun b o _ e n=>u.free b o e n (by simp)) (fun b o _ e=>u.there b o e (by simp)) u.tups u.frzs u.tbls (fun m' hm=>by obtain⟨o',es',ep',ho',r'⟩:=hm;rw[ho]at ho';cases ho';exact⟨_,es',ep',hL,r'⟩) hok I.bare
theorem Inv.call {d':XM}(I:Inv X ac σ H s)(u:Un (frs X.stack) ch H H' s.heap h')(hok:HOk X.prog X.w H' h')(hg:Uu g')
  (hch:∀b∈ch,(b∈X.ex\/X.s₀.heap.objs.size<=b)/\b≠X.env.locals/\(∀x c,X.env.cells.lookup x=some c->c≠b)/\∀p∈X.pn++ac,p.1≠b) :
  Inv X ac σ H' {s with heap:=h',gens:=g',drawn:=d',toks:=t'}:=by
 obtain⟨m,⟨o,es,ep,ho,r⟩,_⟩:=id I.loc;obtain⟨sl,hL⟩:=u.any ho I.free fun z=>(hch _ z).2.1 rfl;exact I.step (ch:=ch) hch (fun b o hL hb hc e n=>u.keep b o e n (fun z=>(p_.mp (I.xM b z)).elim hL hb) hc) (fun b o _ _ hc e n=>u.any e n hc) (fun b o hc e n=>u.free b o e n hc) (fun b o hc e=>u.there b o e hc) u.tups u.frzs u.tbls (fun m' hm=>by obtain⟨o',es',ep',ho',r'⟩:=hm;rw[ho]at ho';cases ho';exact⟨_,es',ep',hL,r'⟩) hok hg
theorem Inv.turned {it:QS}(I:Inv X ac σ H s)(k:∀b o,b≠it->s.heap.get? b=some o->h'.get? b=some o)(hn:H it=none)(hL:it≠X.env.locals)
  (h1:it∈X.ex\/X.s₀.heap.objs.size<=it) (h2:∀x c,X.env.cells.lookup x=some c->c≠it) (h3:∀p∈X.pn++ac,p.1≠it):Inv X ac σ H {s with heap:=h',toks:=t'}:=by
 have nit:∀b u,H b=some u->b≠it:=fun b u e z=>by rw[z,hn]at e;cases e
 refine I.step (g':=s.gens) (d':=s.drawn) (ch:=[it]) (fun b hb=>?_) (fun b o _ _ hc e _=>k b o (fun z=>hc (by simp[z])) e) (fun b o _ _ hc e _=>⟨o.slots,k b o (fun z=>hc (by simp[z])) e⟩) (fun _ _ _ _ n=>n)
  (fun b o hc e=>⟨o,k b o (fun z=>hc (by simp[z])) e⟩) (fun _ _ e=>e) (fun _ _ _ e=>e) (fun b ps e=>⟨#[],by rw[e];simp⟩) (fun m hm=>?_) (fun b u e=>?_) I.bare
 ·have e:b=it:=by simpa using hb
  subst e;exact⟨h1,hL,h2,h3⟩
 ·obtain⟨o,es,ep,ho,r⟩:=hm;exact⟨o,es,ep,k _ o (SK hL) ho,r⟩
 refine(I.hok b u e).o8 (fun c v hc q=>k c v ?_ q) (fun _ q=>q) fun _ _ q=>q;rcases hc with z|z
 ·rw[z];exact nit b u e
 exact nit c _ z
theorem Inv.tok (I:Inv X ac σ H s)(t:Nat):Inv X ac σ H {s with toks:=t}:=I.un (h':=s.heap) (t':=t) Un.refl I.hok
theorem Inv.kept (I:Inv X ac σ H s)(k:∀b u,s.heap.get? b=some u->h'.get? b=some u):Inv X ac σ H {s with heap:=h',toks:=t'}:=I.un (Un.kept k) (I.hok.kept k)
theorem Inv.laid (I:Inv X ac σ H s)(k:∀b u,s.heap.get? b=some u->h'.get? b=some u)(hp:s.heap.objs.size<=a)(new:b6 X.prog X.w (upd H a o) h' a o) :
  Inv X ac σ (upd H a o) {s with heap:=h',toks:=t'}:=I.un (Un.laid k hp (I.hok.fresh hp)) (I.hok.laid k hp new)
theorem Inv.write {x e:QS}(I:Inv X ac σ H s)(mu:Mut (H x))(he:e=x\/H e=some (.own x))(k:∀b u,b≠e->s.heap.get? b=some u->h'.get? b=some u)(heo:∃u,h'.get? e=some u)
  (new:b6 X.prog X.w (upd H x o) h' x o):Inv X ac σ (upd H x o) {s with heap:=h',toks:=t'}:=I.un (Un.write mu he k heo) (I.hok.write mu he k heo new)
theorem Inv.yq {pins':List (QS×Obj)}(I:Inv X ac σ H s)(h:∀p∈pins',s.heap.get? p.1=some p.2/\H p.1=none/\p.1≠X.env.locals/\p.1 ∉ X.fs/\∀v,p.2.data≠.cell v):Inv X pins' σ H s:=
 ⟨I.ok,I.os,I.bare,I.base,I.loc,I.cell,I.free,I.freeC,fun p hp=>(x_.mp hp).elim (fun z=>I.pin p (y_ _ z)) (h p),I.hok,I.len⟩
theorem vw(hN:N.Nodup){j:Nat}(a:N[i]?=some x)(b:N[j]?=some x):i=j:=by obtain⟨h1,e1⟩:=c_.mp a;obtain⟨h2,e2⟩:=c_.mp b;exact(List.getElem_inj hN).mp (e1.trans e2.symm)
theorem rP(I:Inv X ac σ H s)(hN:X.N.Nodup)(hi:X.N[i]?=some x)(hx:Loc X.env.scope x)(r:RelV v u)
  (h:∀s',Inv X ac (σ.set i (some v)) H s'->(∃a,Rq a s.heap s'.heap/\(a=X.env.locals\/X.env.cells.lookup x=some a))->Q () s') (hf:X.fn x=true\/X.env.scope.names.lookup x=some .local:=by first|exact .inl rfl|exact .inr rfl|assumption):QX M A (Xr X.env x u) Q E s:=by
 obtain⟨m,hn,hl⟩:=id I.loc;have hcls:(X.env.scope.kind == .class || (X.env.scope.kind == .module&&X.env.locals != X.env.globals))=false:=by rw[I.ok.kind];rfl
 have hiσ:i<σ.length:=by rw[I.len];exact(c_.mp hi).1
 have cne:=I.cne;have tracked:∀{a:QS}{h':Q_},(∃o,s.heap.get? a=some o/\H a=none)->Rq a s.heap h'->HOk X.prog X.w H h':=fun{a h'} ha hs b ob e=>by
  obtain⟨_,_,hfree⟩:=ha;refine(I.hok b ob e).o8 (fun c w' hc q=>(hs.2 c ?_).trans q) (fun _ q=>q) fun _ _ q=>q;rintro rfl;rcases hc with rfl|hc
  ·rw[hfree]at e;cases e
  rw[hfree]at hc;cases hc
 rcases hx with hk|hk
 ·refine wpAny_storeName_local hk hn (fun h' hn' hs=>?_) hcls;obtain⟨oL,_,_,hoL,_⟩:=id hn;refine h _ ⟨I.ok,I.os,I.bare,⟨fun b o e n hb hx=>?_,fun b o e n hb hx=>?_,I.base.free,fun b o e hx=>?_,I.base.tups,I.base.frzs,I.base.tbls⟩,⟨_,hn',fun j y v' e1 e2 e3=>?_⟩,fun y c e=>?_,I.free,I.freeC,fun p hp=>?_,tracked ⟨oL,hoL,I.free⟩ hs,by simpa using I.len⟩ ⟨_,hs,.inl rfl⟩
  ·exact(hs.2 b (s_ (A' (Q1 e) I.ok.above))).trans (I.base.keep b o e n hb hx)
  ·obtain⟨sl,e1⟩:=I.base.slot b o e n hb hx;exact⟨sl,(hs.2 b (s_ (A' (Q1 e) I.ok.above))).trans e1⟩
  ·obtain⟨o',e1⟩:=I.base.there b o e hx;exact⟨o',(hs.2 b (s_ (A' (Q1 e) I.ok.above))).trans e1⟩
  ·by_cases hj:j=i
   ·subst hj;rw[hi]at e1;cases e1;rw[N9 hiσ]at e2;cases e2;exact⟨u,r,.inl ⟨hk,by simp⟩⟩
   rw[Ol (SK hj)]at e2;obtain⟨u',r',q⟩:=hl j y v' e1 e2 e3;refine⟨u',r',?_⟩;rcases q with⟨k,e⟩|⟨k,c,e,z⟩
   ·refine .inl ⟨k,?_⟩;have:y≠x:=fun e=>hj (vw hN e1 (e▸hi));simp[this,e]
   exact .inr ⟨k,c,e,z.sameBut hs (cne y c e)⟩
  ·obtain⟨w',z⟩:=I.cell y c e;exact⟨w',z.sameBut hs (cne y c e)⟩
  obtain⟨e,n,ne,nf,d⟩:=I.pin p hp;exact⟨(hs.2 p.1 ne).trans e,n,ne,nf,d⟩
 have hfn:X.fn x=true:=by
  rcases hf with z|z
  ·exact z
  rw[z]at hk;cases hk
 obtain⟨c,hc⟩:=I.ok.has x (.inl hk);obtain⟨w',z⟩:=I.cell x c hc;refine wpAny_storeName_cell I.ok.kind hk hc z (fun h' hc' hs=>?_);obtain⟨oc,hoc,hocd⟩:=id z;refine h {s with heap:=h'} ⟨I.ok,I.os,I.bare,⟨fun b o e n hb hx=>?_,fun b o e n hb hx=>?_,I.base.free,fun b o e hx=>?_,I.base.tups,I.base.frzs,I.base.tbls⟩,⟨m,hn.sameBut hs (SK (cne x c hc)),fun j y v' e1 e2 e3=>?_⟩,fun y c' e=>?_,I.free,I.freeC,fun p hp=>?_,tracked ⟨oc,hoc,I.freeC x c hc⟩ hs,by simpa using I.len⟩ ⟨c,hs,.inr hc⟩
 ·exact(hs.2 b (s_ (A' (Q1 e) (I.ok.cab x c hfn hc)))).trans (I.base.keep b o e n hb hx)
 ·obtain⟨sl,e1⟩:=I.base.slot b o e n hb hx;exact⟨sl,(hs.2 b (s_ (A' (Q1 e) (I.ok.cab x c hfn hc)))).trans e1⟩
 ·obtain⟨o',e1⟩:=I.base.there b o e hx;exact⟨o',(hs.2 b (s_ (A' (Q1 e) (I.ok.cab x c hfn hc)))).trans e1⟩
 ·by_cases hj:j=i
  ·subst hj;rw[hi]at e1;cases e1;rw[N9 hiσ]at e2;cases e2;exact⟨u,r,.inr ⟨.inl hk,c,hc,hc'⟩⟩
  rw[Ol (SK hj)]at e2;obtain⟨u',r',q⟩:=hl j y v' e1 e2 e3;refine⟨u',r',?_⟩;rcases q with q|⟨k,c',e,z'⟩
  ·exact .inl q
  refine .inr ⟨k,c',e,z'.sameBut hs ?_⟩;rintro rfl;exact hj (vw hN e1 (I.ok.inj _ _ _ e hc▸hi))
 ·by_cases hcc:c'=c
  ·subst hcc;exact⟨_,hc'⟩
  obtain⟨w2,z2⟩:=I.cell y c' e;exact⟨w2,z2.sameBut hs hcc⟩
 obtain⟨e,n,ne,nf,d⟩:=I.pin p hp;refine⟨(hs.2 p.1 ?_).trans e,n,ne,nf,d⟩;intro q;rw[q,hoc]at e;have q':oc=p.2:=H_ e;exact d w' (by rw[<-q'];exact hocd)
theorem qj(I:Inv X ac σ H s)(hN:X.N.Nodup)(hi:X.N[i]?=some x)(hx:Loc X.env.scope x)(r:RelV v u)
  (h:∀s',Inv X ac (σ.set i (some v)) H s'->Q () s') (hf:X.fn x=true\/X.env.scope.names.lookup x=some .local:=by first|exact .inl rfl|exact .inr rfl|assumption):QX M A (Xr X.env x u) Q E s:=
 rP I hN hi hx r (fun s' I' _=>h s' I') hf
theorem Inv.G0 {s':QV}(I:Inv X ac σ H s)(ho:s'.os=s.os)(u:Un (frs X.stack) ch H H' s.heap s'.heap)(hok:HOk X.prog X.w H' s'.heap)(hg:Uu s'.gens)
  (hch:∀b∈ch,(b∈X.ex\/X.s₀.heap.objs.size<=b)/\b≠X.env.locals/\(∀x c,X.env.cells.lookup x=some c->c≠b)/\∀p∈X.pn++ac,p.1≠b):Inv X ac σ H' s':=by
 obtain⟨h',g',d',t',o'⟩:=s';have e:o'=s.os:=ho;subst e;exact I.call (g':=g') (t':=t') (d':=d') u hok hg hch
end
abbrev XK:=QR->Option QS->Hp->Prop
abbrev St:=List (Option V)
abbrev VK:=V->Hp->Prop
abbrev TE:=St->Hp->VK->Prop
abbrev TT:=St->Hp->(Bool->Hp->Prop)->Prop
abbrev TA:=St->Hp->(List V->Hp->Prop)->Prop
structure Ends where
 nx:St->Hp->Prop
 rt:VK
 bk:St->Hp->Prop:=fun _ _=>False
 ct:St->Hp->Prop:=fun _ _=>False
abbrev TS:=Ends->St->Hp->Prop
def EP(X:Cx)(ac:List (QS×Obj))(σ:St)(Q:VK)(u:QR)(s':QV):Prop:=∃v H',Inv X ac σ H' s'/\RelV v u/\Q v H'
noncomputable def TP(X:Cx)(ac:List (QS×Obj))(σ:St)(Q:Bool->Hp->Prop)(b:Bool)(s':QV):Prop:=∃H',Inv X ac σ H' s'/\Q b H'
def AP(X:Cx)(ac:List (QS×Obj))(σ:St)(Q:List V->Hp->Prop)(us:List QR)(s':QV):Prop:=∃vs H',Inv X ac σ H' s'/\Vals vs us/\Q vs H'
def SP(X:Cx)(ac:List (QS×Obj))(D:Ends)(f:Flow)(s':QV):Prop:=
 match f with
 | .next=>∃ σ' H',Inv X ac σ' H' s'/\D.nx σ' H'
 | .brk=>∃ σ' H',Inv X ac σ' H' s'/\D.bk σ' H'
 | .cont=>∃ σ' H',Inv X ac σ' H' s'/\D.ct σ' H'
 | .ret u=>∃v σ' H',Inv X ac σ' H' s'/\RelV v u/\D.rt v H'
def PE(X:Cx)(e:Q9)(t:TE):Prop:=
 ∀(ac:List (QS×Obj)) (s:QV) (σ:St) (H:Hp) (Q:VK),Inv X ac σ H s->t σ H Q->QX (Q3 X.prog X.w) X.A (Rw e X.env) (EP X ac σ Q) X.xe s
def PT(X:Cx)(e:Q9)(t:TT):Prop:=
 ∀(ac:List (QS×Obj)) (s:QV) (σ:St) (H:Hp) (Q:Bool->Hp->Prop),Inv X ac σ H s->t σ H Q->QX (Q3 X.prog X.w) X.A (Wa e X.env (Rw e X.env)) (TP X ac σ Q) X.xe s
def PW(X:Cx)(e:Q9)(t:TT):Prop:=
 ∀(whole:Sem QR) (ac:List (QS×Obj)) (s:QV) (σ:St) (H:Hp) (Q:Bool->Hp->Prop),Inv X ac σ H s->t σ H Q->QX (Q3 X.prog X.w) X.A (Wa e X.env whole) (TP X ac σ Q) X.xe s
variable {X:Cx}{e:Q9}
theorem PW.pt {t:TT}(h:PW X e t):PT X e t:=h _
def PA(X:Cx)(es:List Q9)(t:TA):Prop:=
 ∀(pos:Pos) (ac:List (QS×Obj)) (s:QV) (σ:St) (H:Hp) (Q:List V->Hp->Prop),Inv X ac σ H s->t σ H Q->QX (Q3 X.prog X.w) X.A (spliced (Tv pos (Ra es X.env))) (AP X ac σ Q) X.xe s
def PS(X:Cx)(st:RC)(t:TS):Prop:=
 ∀(ac:List (QS×Obj)) (s:QV) (σ:St) (H:Hp) (D:Ends),Inv X ac σ H s->t D σ H->QX (Q3 X.prog X.w) X.A (exec st X.env) (SP X ac D) X.xe s
def PSs(X:Cx)(st:List RC)(t:TS):Prop:=
 ∀(ac:List (QS×Obj)) (s:QV) (σ:St) (H:Hp) (D:Ends),Inv X ac σ H s->t D σ H->QX (Q3 X.prog X.w) X.A (execs st X.env) (SP X ac D) X.xe s
theorem thn{α:Type}{t:Sem α}{Q Q':α->QV->Prop}(h:QX M A t Q E s)(hQ:∀a s,Q a s->Q' a s):QX M A t Q' E s:=RA h hQ fun _ _ x=>x
variable {c:Q9}{ac:List (QS×Obj)}{pos:Pos}{σ:St}
section
variable{X:Cx}
noncomputable def IA(i:Nat):TE:=fun σ H Q=>∃v,σ[i]?=some (some v)/\Q v H
noncomputable def tC(v:V):TE:=fun _ H Q=>Q v H
theorem jt(hN:X.N[i]?=some x)(hv:Vis X.env.scope x)(hd:(x ==("__debug__":Str))=false:=by decide)(hcd:(x ==("__classdict__":Str))=false:=by decide):PE X (.Name x pos) (IA i):=by
 intro ac s σ H Q I h;obtain⟨v,e,h⟩:=h;obtain⟨m,hn,hl⟩:=I.loc;obtain⟨u,r,l⟩:=hl i x v hN e hv;have fin:EP X ac σ Q u s:=⟨v,H,I,r,h⟩;rcases l with⟨hk,hm⟩|⟨hk,c,hc,hcell⟩
 ·exact WN (VO I.ok.kind hk hn hm fin) hd
 rcases hk with hk|hk
 ·exact WN (V6 I.ok.kind hk hc hcell fin) hd
 exact WN (wpAny_loadName_free I.ok.kind hk hc hcell fin hcd) hd
theorem cc{i j pos}:PE X (.Constant (.int i) j pos) (tC (.int i)):=fun _ _ _ H _ I h=>wpAny_Constant_int ⟨.int i,H,I.tok _,⟨_,rfl⟩,h⟩
theorem Jp{b j pos}:PE X (.Constant (.bool b) j pos) (tC (.bl b)):=fun _ _ _ H _ I h=>Xw ⟨.bl b,H,I,rfl,h⟩
theorem GJ{j pos}:PE X (.Constant .none j pos) (tC .non):=fun _ _ _ H _ I h=>Constant_none ⟨.non,H,I,rfl,h⟩
theorem iZ{x j pos}:PE X (.Constant (.str x) j pos) (tC (.str x)):=fun _ _ _ H _ I h=>Calls.Constant_str ⟨.str x,H,I.tok _,⟨_,rfl⟩,h⟩
noncomputable def Gl(X:Cx)(x:Str):Prop:=X.env.kindOf x=some .globalImplicit
theorem yo{Q:QR->QV->Prop}(I:Inv X ac σ H s)(hg:Gl X x)(hm:X.mg x=some u)(h:Q u s)
  (hd:(x ==("__debug__":Str))=false:=by decide):QX (Q3 X.prog X.w) X.A (Rw (.Name x pos) X.env) Q E s:=
 UX I.ok.kind hg (Calls.loadGlobal_global (by rw[I.ok.glob];exact I.mod.glob.keeps I.bk) hm h) hd
theorem dE{Q:QR->QV->Prop}(I:Inv X ac σ H s)(hg:Gl X x)(hm:X.mg x=none)(hv:SR x=some u)(h:Q u s)
  (hn:x≠"__name__":=by decide) (hd:(x ==("__debug__":Str))=false:=by decide):QX (Q3 X.prog X.w) X.A (Rw (.Name x pos) X.env) Q E s:=by
 obtain⟨mb,h1,h2⟩:=I.mod.blt;exact UX I.ok.kind hg (Calls.loadGlobal_builtin (by rw[I.ok.glob];exact I.mod.glob.keeps I.bk) hm (by rw[I.ok.blt];exact h1.keeps I.bk) ((h2 x hn).trans hv) h) hd
theorem Em(hg:Gl X x)(hm:X.mg x=some u)(r:RelV v u)(hd:(x ==("__debug__":Str))=false:=by decide):PE X (.Name x pos) (tC v):=
 fun _ _ _ H _ I h=>yo I hg hm ⟨v,H,I,r,h⟩ hd
theorem FD(hg:Gl X x)(hm:X.mg x=none)(hv:SR x=some u)(r:RelV v u)(hn:x≠"__name__":=by decide)(hd:(x ==("__debug__":Str))=false:=by decide):PE X (.Name x pos) (tC v):=
 fun _ _ _ H _ I h=>dE I hg hm hv ⟨v,H,I,r,h⟩ hn hd
variable{a b:Q9}{ta tb:TE}{pos:Pos}
variable{tA tB':TT}{rest:List Q9}
noncomputable def Lx(t u:TT):TT:=fun σ H Q=>t σ H fun c H1=>if c=true then u σ H1 Q else Q false H1
noncomputable def tOr(t u:TT):TT:=fun σ H Q=>t σ H fun c H1=>if c=true then Q true H1 else u σ H1 Q
noncomputable def La(t:TT):TT:=fun σ H Q=>t σ H fun c H1=>Q (!c) H1
theorem E4(ha:PT X a tA):PW X (.BoolOp .And [a] pos) tA:=by
 intro wh ac s σ H Q I h;refine isTrue_and (thn (ha ac s σ H Q I h) fun c s1 e=>?_);cases c with
 |true=>exact isTrue_and_nil e
 |false=>exact e
theorem IW(ha:PT X a tA):PW X (.BoolOp .Or [a] pos) tA:=by
 intro wh ac s σ H Q I h;refine isTrue_or (thn (ha ac s σ H Q I h) fun c s1 e=>?_);cases c with
 |false=>exact isTrue_or_nil e
 |true=>exact e
theorem Hr(ha:PT X a tA)(hb:PW X (.BoolOp .And (b::rest) pos) tB'):PW X (.BoolOp .And (a::b::rest) pos) (Lx tA tB'):=by
 intro wh ac s σ H Q I h;refine isTrue_and (thn (ha ac s σ H _ I h) ?_);rintro c s1 ⟨H1,I1,q1⟩;cases c with
 |true=>exact hb wh ac s1 σ H1 Q I1 q1
 |false=>exact⟨H1,I1,q1⟩
theorem JR(ha:PT X a tA)(hb:PW X (.BoolOp .Or (b::rest) pos) tB'):PW X (.BoolOp .Or (a::b::rest) pos) (tOr tA tB'):=by
 intro wh ac s σ H Q I h;refine isTrue_or (thn (ha ac s σ H _ I h) ?_);rintro c s1 ⟨H1,I1,q1⟩;cases c with
 |true=>exact⟨H1,I1,q1⟩
 |false=>exact hb wh ac s1 σ H1 Q I1 q1
theorem ID(ha:PT X a tA):PT X (.UnaryOp .Not a pos) (La tA):=by intro ac s σ H Q I h;exact isTrue_not (ha ac s σ H (fun c H1=>Q (!c) H1) I h)
noncomputable def JW(ta tb:TE):TE:=fun σ H Q=>ta σ H fun x H1=>∃c,x=.bl c/\if c=true then tb σ H1 Q else Q (.bl false) H1
noncomputable def Ko(ta:TE):TE:=fun σ H Q=>ta σ H fun x H1=>∃c,x=.bl c/\Q (.bl (!c)) H1
theorem IV{op}{t:TE}(h:PE X a t):PE X (.BoolOp op [a] pos) t:=fun ac s σ H Q I hw=>BoolOp_one (h ac s σ H Q I hw)
theorem Hn(ha:PE X a ta)(hb:PE X (.BoolOp .And (b::rest) pos) tb):PE X (.BoolOp .And (a::b::rest) pos) (JW ta tb):=by
 intro ac s σ H Q I h;refine BoolOp_and (thn (ha ac s σ H _ I h) ?_);rintro v s1 ⟨x,H1,I1,r1,q1⟩;obtain⟨c,rfl,q1⟩:=q1;cases r1;refine SE ?_;cases c with
 |true=>exact hb ac s1 σ H1 Q I1 q1
 |false=>exact⟨.bl false,H1,I1,rfl,q1⟩
theorem IZ(ha:PE X a ta):PE X (.UnaryOp .Not a pos) (Ko ta):=by intro ac s σ H Q I h;refine UnaryOp_ (thn (ha ac s σ H _ I h) ?_);rintro v s1 ⟨x,H1,I1,r1,q1⟩;obtain⟨c,rfl,q1⟩:=q1;cases r1;exact not_of (SE ⟨.bl (!c),H1,I1,rfl,q1⟩)
noncomputable def tIf(t:TT)(ta tb:TE):TE:=fun σ H Q=>t σ H fun c H1=>if c=true then ta σ H1 Q else tb σ H1 Q
theorem B4(hc:PT X c tA)(ha:PE X a ta)(hb:PE X b tb):PE X (.IfExp c a b pos) (tIf tA ta tb):=by
 intro ac s σ H Q I h;refine wpAny_IfExp (thn (hc ac s σ H _ I h) ?_);rintro d s1 ⟨H1,I1,q1⟩;cases d with
 |true=>exact ha ac s1 σ H1 Q I1 q1
 |false=>exact hb ac s1 σ H1 Q I1 q1
end
def SqL(K:QT)(H:Hp)(a:QS)(xs:List V):Prop:=
 Rd H a (.lst xs)\/
  ∃(o:Obj) (its:Array QR) (n:Nat),K.lookup a=some o/\o.cls=.type "list"/\o.dict=none/\o.data=.seq its n/\its.size<=sizeLine/\Vals xs its.toList
def SqT(K:QT)(H:Hp)(a:QS)(xs:List V):Prop:=
 Rd H a (.tup xs)\/
  ∃(o:Obj) (its:Array QR) (n:Nat),K.lookup a=some o/\o.cls=.type "tuple"/\o.data=.seq its n/\its.size<=sizeLine/\Vals xs its.toList
noncomputable def Lc:QR->Option V
 | .none=>some .non
 | .bool b=>some (.bl b)
 | .int i _=>some (.int i)
 | .str x _=>some (.str x)
 | .bytes b _=>some (.byt b)
 | .float b _=>some (.flt b)
 | .ref a=>some (.ref a)
 | .type n=>some (.ty n)
 | _=>none
theorem RelV.abs {x:V}(r:RelV x u):Lc u=some x:=by
 cases x with
 |non=>cases r;rfl
 |bl _=>cases r;rfl
 |int _=>obtain⟨t,rfl⟩:=r;rfl
 |str _=>obtain⟨t,rfl⟩:=r;rfl
 |byt _=>obtain⟨t,rfl⟩:=r;rfl
 |flt _=>obtain⟨t,rfl⟩:=r;rfl
 |ref _=>cases r;rfl
 |ty _=>cases r;rfl
theorem RelV.inj {x y:V}(r:RelV x u)(q:RelV y u):x=y:=H_ (r.abs.symm.trans q.abs)
theorem Vals.inj:∀{xs ys:List V}{us:List QR},Vals xs us->Vals ys us->xs=ys:=by
 intro xs ys us x;induction x generalizing ys with
 |nil=>intro y;cases y;rfl
 |cons r t ih=>
  intro y;cases y with
  |cons r' t'=>rw[r.inj r',ih t']
variable {K:QT}
section
variable{X:Cx}{ac:List (QS×Obj)}{σ:St}{H:Hp}{s:QV}{a:QS}{xs ys:List V}
theorem SqL.of (h:H a=some (.lst xs)):SqL K H a xs:=.inl (.inl h)
theorem SqT.of (h:H a=some (.tup xs)):SqT K H a xs:=.inl (.inl h)
theorem Inv.list (I:Inv X ac σ H s)(h:SqL X.K H a xs):∃its:List QR,Vals xs its/\PlainL s.heap a its.toArray/\xs.length<=sizeLine:=by
 rcases h with h|⟨o,its,n,hk,hc,hd,hs,hz,r⟩
 ·obtain⟨z,its,n,r,e⟩:=h.ok I.hok;exact⟨its,r,⟨_,n,e,rfl,rfl,rfl⟩,z⟩
 refine⟨its.toList,r,⟨o,n,I.kIn a o hk,hc,hd,by simpa using hs⟩,?_⟩;have e:=r.length;simp only[g_]at e;lia
theorem Inv.tuple (I:Inv X ac σ H s)(h:SqT X.K H a xs):∃its:List QR,Vals xs its/\XJ s.heap a its.toArray/\xs.length<=sizeLine:=by
 rcases h with h|⟨o,its,n,hk,hc,hs,hz,r⟩
 ·obtain⟨z,its,r,p⟩:=h.ok I.hok;exact⟨its,r,p,z⟩
 refine⟨its.toList,r,⟨o,I.kIn a o hk,hc,n,by simpa using hs⟩,?_⟩;have e:=r.length;simp only[g_]at e;lia
theorem Inv.wq (I:Inv X ac σ H s)(h:SqL X.K H a xs)(h':SqL X.K H a ys):xs=ys:=by
 obtain⟨its,r,⟨o,n,e,_,_,d⟩,_⟩:=I.list h;obtain⟨its',r',⟨o',n',e',_,_,d'⟩,_⟩:=I.list h';rw[e]at e';cases e';rw[d]at d';injection d' with d1 _
 have:its=its':=by simpa using congrArg Qx d1
 subst this;exact r.inj r'
theorem Inv.jJ (I:Inv X ac σ H s)(h:SqT X.K H a xs)(h':SqT X.K H a ys):xs=ys:=by
 obtain⟨its,r,⟨o,e,_,n,d⟩,_⟩:=I.tuple h;obtain⟨its',r',⟨o',e',_,n',d'⟩,_⟩:=I.tuple h';rw[e]at e';cases e';rw[d]at d';injection d' with d1 _
 have:its=its':=by simpa using congrArg Qx d1
 subst this;exact r.inj r'
end
noncomputable abbrev Cx.qW (X:Cx)(E:QR->QV->Prop):Cx:={ X with xe:=E}
noncomputable abbrev Cx.nox (X:Cx):Cx:=X.qW fun _ _=>False
theorem Cx.Ok.qW (ok:X.Ok)(E:QR->QV->Prop):(X.qW E).Ok:=
 ⟨ok.mod,ok.kind,ok.glob,ok.blt,ok.above,ok.inj,ok.has,ok.cab,ok.hd,ok.frames,ok.stk,ok.exf,ok.bs,ok.bsz,ok.noex,ok.exfs,ok.qL,ok.frf⟩
theorem Cx.Ok.ja (ok:(X.qW E).Ok):X.Ok:=
 ⟨ok.mod,ok.kind,ok.glob,ok.blt,ok.above,ok.inj,ok.has,ok.cab,ok.hd,ok.frames,ok.stk,ok.exf,ok.bs,ok.bsz,ok.noex,ok.exfs,ok.qL,ok.frf⟩
section
variable{X:Cx}{ac:List (QS×Obj)}{σ:St}{H:Hp}{s:QV}{E:QR->QV->Prop}
theorem Inv.qW (I:Inv X ac σ H s)(E:QR->QV->Prop):Inv (X.qW E) ac σ H s:=⟨I.ok.qW E,I.os,I.bare,I.base,I.loc,I.cell,I.free,I.freeC,I.pin,I.hok,I.len⟩
theorem Inv.ja (I:Inv (X.qW E) ac σ H s):Inv X ac σ H s:=⟨I.ok.ja,I.os,I.bare,I.base,I.loc,I.cell,I.free,I.freeC,I.pin,I.hok,I.len⟩
theorem SP.ja {D:Ends}{f:Flow}{s':QV}(h:SP (X.qW E) ac D f s'):SP X ac D f s':=by
 cases f with
 |next=>obtain⟨σ',H',I,q⟩:=h;exact⟨σ',H',I.ja,q⟩
 |brk=>obtain⟨σ',H',I,q⟩:=h;exact⟨σ',H',I.ja,q⟩
 |cont=>obtain⟨σ',H',I,q⟩:=h;exact⟨σ',H',I.ja,q⟩
 |ret u=>obtain⟨v,σ',H',I,r,q⟩:=h;exact⟨v,σ',H',I.ja,r,q⟩
theorem PSs.nox {st:List RC}{t:TS}(h:PSs X.nox st t):PSs X st t:=fun ac s σ H D I hw=>
 RA (h ac s σ H D (I.qW _) hw) (fun _ _ q=>q.ja) fun _ _ z=>Rb z
end
section
variable{X:Cx}{st:RC}{rest:List RC}{t u:TS}{e:Q9}{te:TE}{pos:Pos}
noncomputable def KA:TS:=fun D σ H=>D.nx σ H
noncomputable def Lz(t u:TS):TS:=fun D σ H=>t { D with nx:=u D} σ H
theorem tX:PSs X [] KA:=fun _ _ σ H _ I h=>UA ⟨σ,H,I,h⟩
theorem bR(h1:PS X st t)(h2:PSs X rest u):PSs X (st::rest) (Lz t u):=by
 intro ac s σ H D I h;refine WB (thn (h1 ac s σ H { D with nx:=u D} I h) fun f s1 q=>?_);cases f with
 |next=>
  obtain⟨σ',H',I',q⟩:=q;exact h2 ac s1 σ' H' D I' q
 |ret v=>exact q
 |brk=>exact q
 |cont=>exact q
theorem md(h1:PS X st t):PSs X [st] t:=by
 intro ac s σ H D I h;refine WB (thn (h1 ac s σ H D I h) fun f s1 q=>?_);cases f with
 |next=>exact UA q
 |ret v=>exact q
 |brk=>exact q
 |cont=>exact q
theorem Inv.quiet (I:Inv X ac σ H s):Yd X.env=false:=by simp[Yd,I.ok.kind]
noncomputable def Ka(te:TE):TS:=fun D σ H=>te σ H fun _ H1=>D.nx σ H1
theorem F4(he:PE X e te)(hs:Uv e none pos.line X.env=pure false:=by rfl):PS X (.Expr e pos) (Ka te):=by intro ac s σ H D I h;exact wpAny_Expr_any (thn (he ac s σ H _ I h) fun v s1 ⟨x,H1,I1,r1,q1⟩=>⟨σ,H1,I1,q1⟩) I.quiet hs
noncomputable def Lg(te:TE):TS:=fun D σ H=>te σ H D.rt
theorem uR(he:PE X e te):PS X (.Return (some e) pos) (Lg te):=by intro ac s σ H D I h;exact wpAny_Return_some (thn (he ac s σ H _ I h) fun v s1 ⟨x,H1,I1,r1,q1⟩=>⟨x,σ,H1,I1,r1,q1⟩)
noncomputable def L3(c:TT)(t u:TS):TS:=fun D σ H=>c σ H fun b H1=>if b=true then t D σ H1 else u D σ H1
theorem D6{a b:List RC}{tc:TT}(hc:PT X c tc)(ha:PSs X a t)(hb:PSs X b u):PS X (.If c a b pos) (L3 tc t u):=by
 intro ac s σ H D I h;refine wpAny_If (thn (hc ac s σ H _ I h) ?_);rintro d s1 ⟨H1,I1,q1⟩;cases d with
 |true=>exact ha ac s1 σ H1 D I1 q1
 |false=>exact hb ac s1 σ H1 D I1 q1
end
abbrev TG:=V->St->Hp->(St->Hp->Prop)->Prop
abbrev TGs:=List V->St->Hp->(St->Hp->Prop)->Prop
def PG(X:Cx)(target:Q9)(t:TG):Prop:=
 ∀(ac:List (QS×Obj)) (s:QV) (σ:St) (H:Hp) (v:V) (u:QR) (Q:St->Hp->Prop),Inv X ac σ H s->RelV v u->t v σ H Q->
  QX (Q3 X.prog X.w) X.A (Ug target X.env u) (fun _ s'=>∃ σ' H',Inv X ac σ' H' s'/\Q σ' H') X.xe s
def PGs(X:Cx)(ts:List Q9)(t:TGs):Prop:=
 ∀(ac:List (QS×Obj)) (s:QV) (σ:St) (H:Hp) (vs:List V) (us:List QR) (Q:St->Hp->Prop),Inv X ac σ H s->Vals vs us->t vs σ H Q->
  QX (Q3 X.prog X.w) X.A (assignInOrder ((SN ts X.env).map (·.2)) us) (fun _ s'=>∃ σ' H',Inv X ac σ' H' s'/\Q σ' H') X.xe s
abbrev Fy:=V->V->V->Hp->(Hp->Prop)->Prop
def xn(X:Cx)(t:Fy):Prop:=
 ∀(ac:List (QS×Obj)) (s:QV) (σ:St) (H:Hp) (o i v:V) (ov iv u:QR) (Q:Hp->Prop),Inv X ac σ H s->RelV o ov->RelV i iv->RelV v u->t o i v H Q->
  QX (Q3 X.prog X.w) X.A (Xa ov iv u) (fun _ s'=>∃H',Inv X ac σ H' s'/\Q H') X.xe s
abbrev TIp:=V->V->Hp->VK->Prop
def PIp(X:Cx)(op:Vb)(t:TIp):Prop:=
 ∀(ac:List (QS×Obj)) (s:QV) (σ:St) (H:Hp) (x y:V) (v u:QR) (Q:VK),Inv X ac σ H s->RelV x v->RelV y u->t x y H Q->
  QX (Q3 X.prog X.w) X.A (inplaceOp op v u) (EP X ac σ Q) X.xe s
variable {body:List RC}{es:List Q9}{te:TE}{tg:Q9}
section
variable{X:Cx}{pos:Pos}
noncomputable def yz(i:Nat):TG:=fun v σ H Q=>Q (σ.set i (some v)) H
theorem zN(hN:X.N.Nodup)(hi:X.N[i]?=some x)(hx:Loc X.env.scope x)(hf:X.fn x=true\/X.env.scope.names.lookup x=some .local:=by first|exact .inl rfl|exact .inr rfl|assumption):PG X (.Name x pos) (yz i):=by intro ac s σ H v u Q I r h;exact Wq (qj I hN hi hx r (fun s' I'=>⟨_,H,I',h⟩) hf)
noncomputable def Lr:TGs:=fun vs σ H Q=>vs=[]/\Q σ H
noncomputable def K4(t:TG)(u:TGs):TGs:=fun vs σ H Q=>∃v r,vs=v::r/\t v σ H fun σ' H'=>u r σ' H' Q
theorem zq:PGs X [] Lr:=by intro ac s σ H vs us Q I r h;obtain⟨e,h⟩:=h;subst e;cases r;exact assignInOrder_nil ⟨σ,H,I,h⟩
theorem pB{t:TG}{u:TGs}(h1:PG X e t)(h2:PGs X es u)
  (hs:(SN (e::es) X.env).map (·.2)=Ug e X.env::(SN es X.env).map (·.2):=by rfl):PGs X (e::es) (K4 t u):=by
 intro ac s σ H vs us Q I r h;obtain⟨v,vr,e1,h⟩:=h;subst e1;cases r with
 |cons r rr=>
  rw[hs];refine assignInOrder_cons (thn (h1 ac s σ H _ _ _ I r h) ?_);rintro _ s1 ⟨σ1,H1,I1,q1⟩;exact h2 ac s1 σ1 H1 _ _ Q I1 rr q1
def Ly(K:QT)(n:Nat)(t:TGs):TG:=fun v σ H Q=>∃a xs,v=.ref a/\SqT K H a xs/\xs.length=n/\t xs σ H Q
theorem BG{k:Nat}{t:TGs}{n:Nat}(hc:X.calm=true)(h:PGs X es t)
  (hn:(SN es X.env).length=n:=by rfl) (hst:(SN es X.env).findIdx? (·.1)=none:=by rfl):PG X (.Tuple es k pos) (Ly X.K n t):=by
 intro ac s σ H v u Q I r hw;obtain⟨a,xs,e1,hq,hl,hw⟩:=hw;subst e1;cases r;obtain⟨its,rv,ht,hz⟩:=I.tuple hq;refine assign_Tuple_tuple (I.ok.hd hc) ht (by simp[hn,<-hl,rv.length]) hst fun h' hx=>?_
 have I1:Inv X ac σ H {s with heap:=h'}:=I.kept (t':=s.toks) fun b o e=>hx b o (s_ (Q1 e)) e;exact h ac _ σ H xs _ Q I1 (by simpa using rv) hw
noncomputable def LC(to ti:TE)(t:Fy):TG:=fun v σ H Q=>to σ H fun o H1=>ti σ H1 fun i H2=>t o i v H2 fun H3=>Q σ H3
theorem DM{o i:Q9}{to ti:TE}{t:Fy}(ho:PE X o to)(hi:PE X i ti)(hs:xn X t)
  (ha:∀v,Ug (.Subscript o i pos) X.env v=(do
   let ov <-TJ [v] (Rw o X.env)
   let iv <-TJ [v,ov] (Rw i X.env)
   Xb pos
   TJ [v,ov,iv] (Xa ov iv v)
   release [v,ov,iv] []):=by intro _;rfl):PG X (.Subscript o i pos) (LC to ti t):=by
 intro ac s σ H v u Q I r h;rw[ha];refine QQ (Rm (thn (ho ac s σ H _ I h) ?_));rintro ov s1 ⟨x,H1,I1,r1,q1⟩;refine QQ (Rm (thn (hi ac s1 σ H1 _ I1 q1) ?_));rintro iv s2 ⟨y,H2,I2,r2,q2⟩;refine QQ (Uq (QQ (Rm (thn (hs ac s2 σ H2 x y v ov iv u _ I2 r1 r2 r q2) ?_))));rintro _ s3 ⟨H3,I3,q3⟩;exact wpAny_release ⟨σ,H3,I3,q3⟩
noncomputable def DY(te:TE)(g:TG):TS:=fun D σ H=>te σ H fun x H1=>g x σ H1 D.nx
theorem Cz{g:TG}(he:PE X e te)(hg:PG X tg g)(hs:Xx [tg] e pos.line X.env=pure false:=by rfl)(hw:Xy [tg] e X.env=pure none:=by rfl)
  (h1:(SN [tg] X.env).map (·.2)=[Ug tg X.env]:=by rfl):PS X (.Assign [tg] e pos) (DY te g):=by
 intro ac s σ H D I h;refine wpAny_Assign_stores (thn (he ac s σ H _ I h) fun v s1 ⟨x,H1,I1,r1,q1⟩=>?_) hs hw;rw[h1];exact thn (hg ac s1 σ H1 x v _ I1 r1 q1) fun _ s2 q=>q
theorem jd{pos':Pos}(hN:X.N.Nodup)(hi:X.N[i]?=some x)(hx:Loc X.env.scope x)(he:PE X e te)(hs:Uv e (some (.Name x pos')) pos.line X.env=pure false:=by rfl)(hf:X.fn x=true\/X.env.scope.names.lookup x=some .local:=by first|exact .inl rfl|exact .inr rfl|assumption) :
  PS X (.Assign [.Name x pos'] e pos) (DY te (yz i)):=by
 intro ac s σ H D I h;refine wpAny_Assign_Name (thn (he ac s σ H _ I h) fun v s1 ⟨y,H1,I1,r1,q1⟩=>?_) hs;exact qj I1 hN hi hx r1 (fun s2 I2=>⟨_,H1,I2,q1⟩) hf
noncomputable def LM(i:Nat)(te:TE)(ti:TIp):TS:=fun D σ H=>∃x,σ[i]?=some (some x)/\te σ H fun y H1=>ti x y H1 fun z H2=>D.nx (σ.set i (some z)) H2
theorem IL{op:Vb}{ti:TIp}{pos':Pos}(hN:X.N.Nodup)(hi:X.N[i]?=some x)(hx:Loc X.env.scope x)(he:PE X e te)(ho:PIp X op ti)(hf:X.fn x=true\/X.env.scope.names.lookup x=some .local:=by first|exact .inl rfl|exact .inr rfl|assumption) :
  PS X (.AugAssign (.Name x pos') op e pos) (LM i te ti):=by
 intro ac s σ H D I h;obtain⟨v,e1,h⟩:=h;obtain⟨m,hn,hl⟩:=I.loc;have vis:Vis X.env.scope x:=by rcases hx with k|k;exact .inl k;exact .inr (.inl k)
 obtain⟨u,r,l⟩:=hl i x v hi e1 vis;refine wpAny_AugAssign_Name ?_;have go:QX (Q3 X.prog X.w) X.A (Rw e X.env) (fun w s₂=>QX (Q3 X.prog X.w) X.A (inplaceOp op u w) (fun r s₃=>QX (Q3 X.prog X.w) X.A (Xr X.env x r) (fun _=>SP X ac D .next) X.xe s₃) X.xe s₂) X.xe s:=by refine thn (he ac s σ H _ I h) ?_;rintro w s1 ⟨y,H1,I1,r1,q1⟩;refine thn (ho ac s1 σ H1 v y u w _ I1 r r1 q1) ?_;rintro z s2 ⟨zv,H2,I2,r2,q2⟩;exact qj I2 hN hi hx r2 (fun s3 I3=>⟨_,H2,I3,q2⟩) hf
 rcases l with⟨hk,hm⟩|⟨hk,c,hc,hcell⟩
 ·exact VO I.ok.kind hk hn hm go
 rcases hk with hk|hk
 ·exact V6 I.ok.kind hk hc hcell go
 rcases hx with k|k
 ·have:X.env.scope.names.lookup x=some .free:=hk;rw[k]at this;cases this
 have:X.env.scope.names.lookup x=some .free:=hk;rw[k]at this;cases this
noncomputable def ipI(f:Int->Int->Int):TIp:=fun x y H Q=>∃i j,x=.int i/\y=.int j/\Q (.int (f i j)) H
theorem Ie:PIp X .Add (ipI fun i j=>i+j):=by intro ac s σ H x y v u Q I r1 r2 h;obtain⟨i,j,e1,e2,q⟩:=h;subst e1;subst e2;obtain⟨t,rfl⟩:=r1;obtain⟨t',rfl⟩:=r2;exact iadd_int ⟨.int _,H,I.tok _,⟨_,rfl⟩,q⟩
noncomputable def Hd(c:TT)(tb:TS):TS:=fun D σ H=>∃W:Nat->St->Hp->Prop,(∃m,W m σ H)/\∀m σ H,W m σ H->
 c σ H fun b H1=>if b=true then ∃N:St->Hp->Prop,(∀ σ' H',N σ' H'->∃m',m'<m/\W m' σ' H')/\tb { D with nx:=N,ct:=N,bk:=D.nx} σ H1 else D.nx σ H1
theorem CG{tc:TT}{tb:TS}(hp:Wb (Q3 X.prog X.w) X.A X.env X.xe)(hc:PT X c tc)(hb:PSs X body tb):PS X (.While c body [] pos) (Hd tc tb):=by
 intro ac s σ H D I h;obtain⟨W,⟨m0,w0⟩,turn⟩:=h;refine wpAny_While (codeAny_whileLoop (fun n s'=>∃ σ' H',Inv X ac σ' H' s'/\W n σ' H') ?_ m0 ⟨σ,H,I,w0⟩);rintro n s1 ⟨σ1,H1,I1,w1⟩;refine SY hp (thn (hc ac s1 σ1 H1 _ I1 (turn n σ1 H1 w1)) ?_);rintro b s2 ⟨H2,I2,q2⟩;cases b with
 |true=>
  obtain⟨N,hN,q2⟩:=q2;rw[if_pos rfl];refine SY hp (thn (hb ac s2 σ1 H2 _ I2 q2) fun f s3 q3=>?_);cases f with
  |next=>
   obtain⟨σ3,H3,I3,n3⟩:=q3;obtain⟨m',hm,w3⟩:=hN σ3 H3 n3;exact⟨m',hm,σ3,H3,I3,w3⟩
  |cont=>
   obtain⟨σ3,H3,I3,n3⟩:=q3;obtain⟨m',hm,w3⟩:=hN σ3 H3 n3;exact⟨m',hm,σ3,H3,I3,w3⟩
  |brk=>exact q3
  |ret v=>exact q3
 |false=>
  rw[if_neg LY];exact UA ⟨σ1,H2,I2,q2⟩
end
structure It where
 go:Nat->Hp->Prop
 yld:Nat->Hp->V->Hp->Prop
 stop:Nat->Hp->Prop
noncomputable def mI(X:Cx)(ac:List (QS×Obj))(H:Hp)(b:QS):Prop:=
 H b=none/\b≠X.env.locals/\b ∉ X.fs/\(b∈X.ex\/X.s₀.heap.objs.size<=b)/\(∀x c,X.env.cells.lookup x=some c->c≠b)/\∀p∈X.pn++ac,p.1≠b
theorem Inv.wJ {H':Hp}(I:Inv X ac σ H s)(hb:s.heap.objs.size<=b)(hn:H' b=none):mI X ac H' b:=by
 refine⟨hn,MU (A' I.lt hb),I.Le hb,.inr (m_ I.sz hb),fun x c e z=>?_,fun p hp z=>?_⟩
 ·obtain⟨v,q⟩:=I.cell x c e;exact absurd (A' q.lt (by rw[z];exact hb)) (MP _)
 exact absurd (A' (Q1 (I.pin p hp).1) (by rw[z];exact hb)) (MP _)
structure Turn (P:Q5) (w:Q8) (K:QT) (tg:Q9) (J:It) (fp:List QS) (it:QS) (tn:Nat->Q_->Prop):Prop where
 mem:it∈fp
 obj:∀i h,tn i h->∀b∈fp,∃o,h.get? b=some o/\∀v,o.data≠.cell v
 keep:∀i h h',tn i h->(∀b∈fp,∀o,h.get? b=some o->h'.get? b=some o)->tn i h'
 item:∀(X:Cx),X.prog=P->X.w=w->X.K=K->X.calm=true->∀(i:Nat) (ac:List (QS×Obj)) (s:QV) (σ:St) (H:Hp) (E:QR->QV->Prop),Inv X ac σ H s->(∀b∈fp,mI X ac H b)->tn i s.heap->J.go i H->
  QX (Q3 P w) X.A (R7 (.ref it)) (fun r s1=>∃u,r=some u/\
   QX (Q3 P w) X.A (UB tg (.ref it) u) (fun _ s2=>∃x H',Inv X ac σ H' s2/\RelV x u/\J.yld i H x H'/\tn (i+1) s2.heap/\∀b∈fp,H' b=none) E s1) E s
 done:∀(X:Cx),X.prog=P->X.w=w->X.K=K->X.calm=true->∀(i:Nat) (ac:List (QS×Obj)) (s:QV) (σ:St) (H:Hp) (E:QR->QV->Prop),Inv X ac σ H s->(∀b∈fp,mI X ac H b)->tn i s.heap->J.stop i H->
  QX (Q3 P w) X.A (R7 (.ref it)) (fun r s1=>r=none/\Inv X ac σ H s1) E s
 self:∀(A:Rh) (i:Nat) (s:QV) (Q:QR->QV->Prop) (E:QR->QV->Prop),tn i s.heap->Q (.ref it) s->QX (Q3 P w) A (Uh (.ref it)) Q E s
abbrev TI:=St->Hp->(It->Hp->Prop)->Prop
def PIE(X:Cx)(ac:List (QS×Obj))(σ:St)(tg:Q9)(R:It->Hp->Prop)(itv:QR)(s2:QV):Prop:=
 ∃(it:QS) (fp:List QS) (tn:Nat->Q_->Prop) (J:It) (H':Hp),itv=.ref it/\Inv X ac σ H' s2/\Turn X.prog X.w X.K tg J fp it tn/\tn 0 s2.heap/\(∀b∈fp,mI X ac H' b)/\R J H'
def PI(X:Cx)(tg iter:Q9)(wi:TI):Prop:=
 ∀(ac:List (QS×Obj)) (s:QV) (σ:St) (H:Hp) (R:It->Hp->Prop),Inv X ac σ H s->wi σ H R->
  QX (Q3 X.prog X.w) X.A (Rw iter X.env) (fun v s1=>QX (Q3 X.prog X.w) X.A (Uh v) (PIE X ac σ tg R) X.xe s1) X.xe s
theorem zU{it:QS}{o:Obj}{n:String}{vs:Array QR}(ho:s.heap.get? it=some o)(hc:o.cls=.type n)(hd:o.data=.fields vs)
    (hn:["enumerate","zip","dict_itemiterator","dict_reverseitemiterator","odict_iterator","itertools.zip_longest","itertools.pairwise"].contains n=false) (hQ:Q () s):QX M A (UB tg (.ref it) u) Q E s:=by
  unfold UB;cases tg <;> first
    |exact QU hQ
    | (cases u <;> first
        |exact QU hQ
        | (refine QQ (VP ho ?_)
           rw[hc,hd];show QX M A (if(["enumerate","zip","dict_itemiterator","dict_reverseitemiterator","odict_iterator","itertools.zip_longest","itertools.pairwise"].contains n&&vs[0]? == some (RH _))=true then _ else _) Q E s;rw[if_neg (by intro h;rw[hn,Bool.false_and]at h;cases h)];exact QU hQ))
def Itl(K:QT)(a:QS):It:=
 ⟨fun i H=>∃xs x,SqL K H a xs/\xs[i]?=some x,fun i H x H'=>H'=H/\∀xs,SqL K H a xs->xs[i]?=some x,fun i H=>∃xs,SqL K H a xs/\xs.length<=i⟩
def Itt(K:QT)(a:QS):It:=
 ⟨fun i H=>∃xs x,SqT K H a xs/\xs[i]?=some x,fun i H x H'=>H'=H/\∀xs,SqT K H a xs->xs[i]?=some x,fun i H=>∃xs,SqT K H a xs/\xs.length<=i⟩
noncomputable def Itr(lo:Int)(n:Nat):It:=⟨fun i _=>i<n,fun i H x H'=>H'=H/\x=.int (lo+i),fun i _=>n<=i⟩
theorem Ao(a it:QS):Turn P w K tg (Itl K a) [it] it (fun i h=>h.IsListIter it a i) where
 mem:=by simp
 obj:=fun i h st b hb=>by
  have e:b=it:=by simpa using hb
  subst e;obtain⟨o,e,c,d⟩:=st;exact⟨o,e,fun v z=>by rw[d]at z;cases z⟩
 keep:=fun i h h' st k=>st.at fun o e=>k it (by simp) o e
 item:=by
  intro X hP hw hK hc i ac s σ H E I hf st hg;subst hP hw hK;obtain⟨xs,x,hq,hx⟩:=hg;obtain⟨its,rv,p,hz⟩:=I.list hq;obtain⟨u,hu,ru⟩:=rv.get hx;obtain⟨f0,f1,f2,f3,f4,f5⟩:=hf it (by simp);refine Vy st p.isList (x:=u) (by simpa using hu) fun h' st' sb=>?_
  have I1:Inv X ac σ H {s with heap:=h'}:=I.turned (t':=s.toks) (fun b o hb e=>(sb.2 b hb).trans e) f0 f1 f3 f4 f5;obtain⟨o,e,c,d⟩:=id st';exact⟨u,rfl,zU (s:={s with heap:=h'}) e c d (by decide) ⟨x,H,I1,ru,⟨rfl,fun ys hy=>by rw[I.wq hy hq];exact hx⟩,st',fun b hb=>(hf b hb).1⟩⟩
 done:=by intro X hP hw hK hc i ac s σ H E I hf st hg;subst hP hw hK;obtain⟨xs,hq,hx⟩:=hg;obtain⟨its,rv,p,hz⟩:=I.list hq;obtain⟨f0,f1,f2,f3,f4,f5⟩:=hf it (by simp);have hl:=rv.length;exact VF (I.ok.hd hc) st p.isList (by simp;lia) fun h' eb=>⟨rfl,I.turned (t':=s.toks) (fun b o hb e=>eb b o hb e) f0 f1 f3 f4 f5⟩
 self:=fun _ _ _ _ _ st h=>wpAny_pyIter_listiter st h
theorem x4(a it:QS):Turn P w K tg (Itt K a) [it] it (fun i h=>h.IsTupleIter it a i) where
 mem:=by simp
 obj:=fun i h st b hb=>by
  have e:b=it:=by simpa using hb
  subst e;obtain⟨o,e,c,d⟩:=st;exact⟨o,e,fun v z=>by rw[d]at z;cases z⟩
 keep:=fun i h h' st k=>st.at fun o e=>k it (by simp) o e
 item:=by
  intro X hP hw hK hc i ac s σ H E I hf st hg;subst hP hw hK;obtain⟨xs,x,hq,hx⟩:=hg;obtain⟨its,rv,p,hz⟩:=I.tuple hq;obtain⟨u,hu,ru⟩:=rv.get hx;obtain⟨f0,f1,f2,f3,f4,f5⟩:=hf it (by simp);refine wpAny_pyNext_tuple_item st (show s.heap.IsTuple a its.toArray from p) (x:=u) (by simpa using hu) fun h' st' sb=>?_
  have I1:Inv X ac σ H {s with heap:=h'}:=I.turned (t':=s.toks) (fun b o hb e=>(sb.2 b hb).trans e) f0 f1 f3 f4 f5;obtain⟨o,e,c,d⟩:=id st';exact⟨u,rfl,zU (s:={s with heap:=h'}) e c d (by decide) ⟨x,H,I1,ru,⟨rfl,fun ys hy=>by rw[I.jJ hy hq];exact hx⟩,st',fun b hb=>(hf b hb).1⟩⟩
 done:=by intro X hP hw hK hc i ac s σ H E I hf st hg;subst hP hw hK;obtain⟨xs,hq,hx⟩:=hg;obtain⟨its,rv,p,hz⟩:=I.tuple hq;obtain⟨f0,f1,f2,f3,f4,f5⟩:=hf it (by simp);have hl:=rv.length;exact wpAny_pyNext_tuple_end (I.ok.hd hc) st (show s.heap.IsTuple a its.toArray from p) (by simp;lia) fun h' eb=>⟨rfl,I.turned (t':=s.toks) (fun b o hb e=>eb b o hb e) f0 f1 f3 f4 f5⟩
 self:=fun _ _ _ _ _ st h=>wpAny_pyIter_tupleiter st h
theorem x9(it:QS)(lo:Int)(n:Nat):Turn P w K tg (Itr lo n) [it] it (fun i h=>Ye h it (lo+(i:Nat)*1) ((n:Int)-(i:Nat)) 1) where
 mem:=by simp
 obj:=fun i h st b hb=>by
  have e:b=it:=by simpa using hb
  subst e;exact⟨_,st,fun v z=>by have z':Yf _=Wc v:=z;cases z'⟩
 keep:=fun i h h' st k=>k it (by simp) _ st
 item:=by intro X hP hw hK hc i ac s σ H E I hf st hg;subst hP hw hK;obtain⟨f0,f1,f2,f3,f4,f5⟩:=hf it (by simp);have W:=Walks.range (prog:=X.prog) (w:=X.w) (I.ok.hd hc) it lo 1 n;refine W.item i s _ _ hg st fun v h' tk hv st' kk=>?_;obtain⟨t,rfl⟩:=hv;have I1:Inv X ac σ H {s with heap:=h',toks:=tk}:=I.turned (fun b o hb e=>kk b o (by simpa using hb) e) f0 f1 f3 f4 f5;refine⟨_,rfl,zU (s:={s with heap:=h',toks:=tk}) (n:="range_iterator") st' rfl rfl (by decide) ⟨.int (lo+i),H,I1,⟨t,?_⟩,⟨rfl,rfl⟩,st',fun b hb=>(hf b hb).1⟩⟩;rw[P8]
 done:=by intro X hP hw hK hc i ac s σ H E I hf st hg;subst hP hw hK;obtain⟨f0,f1,f2,f3,f4,f5⟩:=hf it (by simp);exact wpAny_pyNext_range_end (I.ok.hd hc) st (by have:n<=i:=hg;lia) fun h' eb=>⟨rfl,I.turned (t':=s.toks) (fun b o hb e=>eb b o hb e) f0 f1 f3 f4 f5⟩
 self:=fun _ _ _ _ _ st h=>wpAny_pyIter_rangeiter st h
variable {fp:List QS}
section
variable{X:Cx}{tg:Q9}
theorem wc{R:It->Hp->Prop}{lo hi:Int}{t u v:Tok}{tk:Nat}(I:Inv X ac σ H s)(h1:-(2 ^ 62)<=lo)(h2:lo<2 ^ 62)(h3:-(2 ^ 62)<=hi)(h4:hi<2 ^ 62)
  (q:R (Itr lo (hi-lo).toNat) H):QX (Q3 X.prog X.w) X.A (Uh (.ref s.heap.objs.size)) (PIE X ac σ tg R) E {s with heap:=s.heap.push { cls:=.type "range",data:=.fields #[.int lo t,.int hi u,.int 1 v] },toks:=tk}:=by
 refine wpAny_pyIter_range (Yg ..) (small_one h1 h2 h3 h4) ?_;have I1:Inv X ac σ H {s with heap:=s.heap.push { cls:=.type "range",data:=.fields #[.int lo t,.int hi u,.int 1 v] },toks:=tk}:=I.kept fun b o e=>QW _ e;refine⟨(s.heap.push { cls:=.type "range",data:=.fields #[.int lo t,.int hi u,.int 1 v] }).objs.size,[(s.heap.push { cls:=.type "range",data:=.fields #[.int lo t,.int hi u,.int 1 v] }).objs.size],_,_,H,rfl,
  I1.kept (t':=tk) fun b o e=>QW _ e,x9 _ lo (hi-lo).toNat,?_,fun b hb=>?_,q⟩
 ·have e1:lo+((0:Nat):Int)*1=lo:=by simp
  have e2:(((hi-lo).toNat:Nat):Int)-((0:Nat):Int)=X9 lo hi 1:=by rw[rangeSize_one];split <;> lia
  show Ye _ _ (lo+((0:Nat):Int)*1) ((((hi-lo).toNat:Nat):Int)-((0:Nat):Int)) 1;rw[e1,e2];exact Q0 _ rfl
 have e:b=(s.heap.push { cls:=.type "range",data:=.fields #[.int lo t,.int hi u,.int 1 v] }).objs.size:=by simpa using hb
 subst e;exact I1.wJ (b_ _) (I1.hok.fresh (b_ _))
def Ki(ta:TA):TI:=fun σ H R=>ta σ H fun vs H1=>∃j:Int,vs=[.int j]/\-(2 ^ 62)<=j/\j<2 ^ 62/\R (Itr 0 j.toNat) H1
def JZ(ta:TA):TI:=fun σ H R=>ta σ H fun vs H1=>∃i j:Int,vs=[.int i,.int j]/\(-(2 ^ 62)<=i/\i<2 ^ 62/\-(2 ^ 62)<=j/\j<2 ^ 62)/\R (Itr i (j-i).toNat) H1
theorem A6{a:Q9}{ta:TA}{p:Pos}(hg:Gl X "range")(hm:X.mg "range"=none)(ha:PA X [a] ta)(hs:Ra [a] X.env=[(false,Rw a X.env)]:=by rfl):PI X tg (.Call (.Name "range" p) [a] [] pos) (Ki ta):=by
 intro ac s σ H R I h;refine Call_ (dE I hg hm WO (SU (thn (ha pos ac s σ H _ I h) fun us s1 ⟨vs,H1,I1,r1,q1⟩=>?_) hs rfl));obtain⟨j,e,q1,q2,q⟩:=q1;subst e;cases r1 with
 |cons r rr=>
  cases rr;obtain⟨t,rfl⟩:=r;exact call_range_1 (wc I1 (by lia) (by lia) q1 q2 (by simpa using q))
theorem AL{a b:Q9}{ta:TA}{p:Pos}(hg:Gl X "range")(hm:X.mg "range"=none)(ha:PA X [a,b] ta)(hs:Ra [a,b] X.env=[(false,Rw a X.env),(false,Rw b X.env)]:=by rfl)(hs2:Ra [b] X.env=[(false,Rw b X.env)]:=by rfl) :
  PI X tg (.Call (.Name "range" p) [a,b] [] pos) (JZ ta):=by
 intro ac s σ H R I h;refine Call_ (dE I hg hm WO (SU (thn (ha pos ac s σ H _ I h) fun us s1 ⟨vs,H1,I1,r1,q1⟩=>?_) (by rw[hs,hs2]) (by rw[hs2];rfl)));obtain⟨i,j,e,⟨q1,q2,q3,q4⟩,q⟩:=q1;subst e;cases r1 with
 |cons r rr=>
  cases rr with
  |cons r' rr=>
   cases rr;obtain⟨t,rfl⟩:=r;obtain⟨t',rfl⟩:=r';exact XT (wc I1 q1 q2 q3 q4 q)
noncomputable def Lj(wi:TI)(g:TG)(tb:TS):TS:=fun D σ H=>wi σ H fun J H1=>∃W:Nat->Nat->St->Hp->Prop,(∃m,W 0 m σ H1)/\∀i m σ H,W i m σ H->
 (J.stop i H/\D.nx σ H)\/(J.go i H/\∃N:St->Hp->Prop,(∀ σ' H',N σ' H'->∃m',m'<m/\W (i+1) m' σ' H')/\∀x H',J.yld i H x H'->g x σ H' fun σ2 H2=>tb { D with nx:=N,ct:=N,bk:=D.nx} σ2 H2)
noncomputable def o6(fp:List QS)(h:Q_):List (QS×Obj):=fp.filterMap fun b=>(h.get? b).map fun o=>(b,o)
theorem cS{o:Obj}(hb:b∈fp)(e:h.get? b=some o):(b,o)∈o6 fp h:=PK.mpr ⟨b,hb,by rw[e];rfl⟩
theorem A9{p:QS×Obj}(hp:p∈o6 fp h):p.1∈fp/\h.get? p.1=some p.2:=by
 obtain⟨b,hb,e⟩:=PK.mp hp;cases q:h.get? b with
 |none=>rw[q]at e;cases e
 |some o=>
  rw[q]at e;have e':(b,o)=p:=H_ e;subst e';exact⟨hb,q⟩
theorem Inv.pinned (I:Inv X ac σ H s)(hf:∀b∈fp,mI X ac H b)(ho:∀b∈fp,∃o,s.heap.get? b=some o/\∀v,o.data≠.cell v):Inv X (ac++o6 fp s.heap) σ H s:=
 I.yq fun p hp=>(x_.mp hp).elim (fun z=>I.pin p (r_ _ z)) fun z=>by obtain⟨hb,e⟩:=A9 z;obtain⟨f0,f1,f2,_⟩:=hf p.1 hb;obtain⟨o,e',d⟩:=ho p.1 hb;rw[e]at e';cases e';exact⟨e,f0,f1,f2,d⟩
theorem Inv.jc {pl:List (QS×Obj)}(I:Inv X (ac++pl) σ H s):Inv X ac σ H s:=I.yq fun p hp=>I.pin p (r_ _ (y_ _ hp))
theorem HD{iter:Q9}{wi:TI}{g:TG}{tb:TS}(hp:Wb (Q3 X.prog X.w) X.A X.env X.xe)(hc:X.calm=true)(hi:PI X tg iter wi)(hg:PG X tg g)(hb:PSs X body tb)
  (hs:∀x,R1 iter X.env x=pure x:=by intro _;rfl):PS X (.For tg iter body [] pos) (Lj wi g tb):=by
 intro ac s σ H D I h;refine wpAny_For (thn (hi ac s σ H _ I h) fun v s1 h1=>thn h1 fun itv s2 h2=>?_) hs;obtain⟨it,fp,tn,J,H2,e,I2,T,st2,f2,W,⟨m0,w0⟩,turn⟩:=h2;subst e;have stat:∀{H':Hp},(∀b∈fp,H' b=none)->∀b∈fp,mI X ac H' b:=fun hn b hb=>⟨hn b hb,(f2 b hb).2⟩;refine codeAny_forLoop_any (fun n s'=>∃i σ' H',Inv X ac σ' H' s'/\tn i s'.heap/\(∀b∈fp,H' b=none)/\W i n σ' H') ?_ m0 ⟨0,σ,H2,I2,st2,fun b hb=>(f2 b hb).1,w0⟩;rintro n s3 ⟨i,σ3,H3,I3,st3,fr3,w3⟩;rcases turn i n σ3 H3 w3 with⟨stop,qn⟩|⟨go,N,hN,step⟩
 ·refine SY hp (thn (T.done X rfl rfl rfl hc i ac s3 σ3 H3 X.xe I3 (stat fr3) st3 stop) ?_);rintro r s4 ⟨hr,I4⟩;subst hr;exact UA ⟨σ3,H3,I4,qn⟩
 refine SY hp (thn (T.item X rfl rfl rfl hc i ac s3 σ3 H3 X.xe I3 (stat fr3) st3 go) ?_);rintro r s4 ⟨u,hr,h4⟩;subst hr;refine SY hp (thn h4 ?_);rintro _ s5 ⟨x,H5,I5,r5,y5,st5,fr5⟩;have I5':=I5.pinned (stat fr5) (T.obj _ _ st5);refine SY hp (thn (hg _ s5 σ3 H5 x u _ I5' r5 (step x H5 y5)) ?_);rintro _ s6 ⟨σ6,H6,I6,q6⟩;refine SY hp (thn (hb _ s6 σ6 H6 _ I6 q6) fun f s7 q7=>?_);have again:∀{σ7:St}{H7:Hp},Inv X (ac++o6 fp s5.heap) σ7 H7 s7->N σ7 H7->∃m,m<n/\∃i σ' H',Inv X ac σ' H' s7/\tn i s7.heap/\(∀b∈fp,H' b=none)/\W i m σ' H':=fun{σ7 H7} I7 n7=>by obtain⟨m',hm,w7⟩:=hN σ7 H7 n7;refine⟨m',hm,i+1,σ7,H7,I7.jc,T.keep _ _ _ st5 fun b hb o e=>(I7.pin (b,o) (r_ _ (r_ _ (cS hb e)))).1,fun b hb=>?_,w7⟩;obtain⟨o,e,d⟩:=T.obj _ _ st5 b hb;exact(I7.pin (b,o) (r_ _ (r_ _ (cS hb e)))).2.1
 cases f with
 |next=>obtain⟨σ7,H7,I7,n7⟩:=q7;exact again I7 n7
 |cont=>obtain⟨σ7,H7,I7,n7⟩:=q7;exact again I7 n7
 |brk=>obtain⟨σ7,H7,I7,q7⟩:=q7;exact⟨σ7,H7,I7.jc,q7⟩
 |ret v=>obtain⟨x7,σ7,H7,I7,r7,q7⟩:=q7;exact⟨x7,σ7,H7,I7.jc,r7,q7⟩
end
abbrev R2:=V->V->Hp->VK->Prop
def OpR(X:Cx)(f:QR->QR->Sem QR)(r:R2):Prop:=
 ∀(ac:List (QS×Obj)) (s:QV) (σ:St) (H:Hp) (x y:V) (v u:QR) (Q:VK),Inv X ac σ H s->RelV x v->RelV y u->r x y H Q->
  QX (Q3 X.prog X.w) X.A (f v u) (EP X ac σ Q) X.xe s
def UnR(X:Cx)(f:QR->Sem QR)(r:V->Hp->VK->Prop):Prop:=
 ∀(ac:List (QS×Obj)) (s:QV) (σ:St) (H:Hp) (x:V) (v:QR) (Q:VK),Inv X ac σ H s->RelV x v->r x H Q->
  QX (Q3 X.prog X.w) X.A (f v) (EP X ac σ Q) X.xe s
def bE(X:Cx)(f:QR)(r:List V->Hp->VK->Prop):Prop:=
 ∀(ac:List (QS×Obj)) (s:QV) (σ:St) (H:Hp) (xs:List V) (us:List QR) (Q:VK),Inv X ac σ H s->Vals xs us->r xs H Q->
  QX (Q3 X.prog X.w) X.A (call f us) (EP X ac σ Q) X.xe s
def LG(X:Cx)(r:V->Hp->(Bool->Hp->Prop)->Prop):Prop:=
 ∀(ac:List (QS×Obj)) (s:QV) (σ:St) (H:Hp) (x:V) (v:QR) (Q:Bool->Hp->Prop),Inv X ac σ H s->RelV x v->r x H Q->
  QX (Q3 X.prog X.w) X.A (truthy v) (TP X ac σ Q) X.xe s
noncomputable def tOp(r:R2)(ta tb:TE):TE:=fun σ H Q=>ta σ H fun x H1=>tb σ H1 fun y H2=>r x y H2 Q
noncomputable def tUn(r:V->Hp->VK->Prop)(ta:TE):TE:=fun σ H Q=>ta σ H fun x H1=>r x H1 Q
noncomputable def rI(C:Int->Int->Prop)(g:Int->Int->V):R2:=fun x y H Q=>∃i j,x=.int i/\y=.int j/\C i j/\Q (g i j) H
noncomputable def rI0(g:Int->Int->V):R2:=fun x y H Q=>∃i j,x=.int i/\y=.int j/\Q (g i j) H
noncomputable def rU(g:Int->V):V->Hp->VK->Prop:=fun x H Q=>∃i,x=.int i/\Q (g i) H
variable {f:QR->QR->Sem QR}{op:Wn}
section
variable{X:Cx}{a b c:Q9}{ta tb tc:TE}{pos:Pos}
theorem J3(ha:PE X a ta)(hb:PE X b tb){R:V->V->Hp->Prop}(I:Inv X ac σ H s)
  (h:ta σ H fun x H1=>tb σ H1 fun y H2=>R x y H2) {Q:QR->QV->Prop} {f:QR->QR->Sem QR}
  (hf:∀v u s2 x y H2,Inv X ac σ H2 s2->RelV x v->RelV y u->R x y H2->QX (Q3 X.prog X.w) X.A (f v u) Q X.xe s2) :
  QX (Q3 X.prog X.w) X.A (Rw a X.env) (fun v s₁=>QX (Q3 X.prog X.w) X.A (Rw b X.env) (fun u s₂=>QX (Q3 X.prog X.w) X.A (f v u) Q X.xe s₂) X.xe s₁) X.xe s:=by
 refine thn (ha ac s σ H _ I h) ?_;rintro v s1 ⟨x,H1,I1,r1,q1⟩;refine thn (hb ac s1 σ H1 _ I1 q1) ?_;rintro u s2 ⟨y,H2,I2,r2,q2⟩;exact hf v u s2 x y H2 I2 r1 r2 q2
theorem cK{op:Vb}{r:R2}(ho:OpR X (Si op) r)(ha:PE X a ta)(hb:PE X b tb):PE X (.BinOp a op b pos) (tOp r ta tb):=by intro ac s σ H Q I h;exact wpAny_BinOp (J3 ha hb I h fun v u s2 x y H2 I2 rx ry q=>ho ac s2 σ H2 x y v u Q I2 rx ry q)
theorem KJ{op:UnaryOp}{r:V->Hp->VK->Prop}(ho:UnR X (unaryOp op) r)(ha:PE X a ta):PE X (.UnaryOp op a pos) (tUn r ta):=by intro ac s σ H Q I h;exact UnaryOp_ (thn (ha ac s σ H _ I h) fun v s1 ⟨x,H1,I1,r1,q1⟩=>ho ac s1 σ H1 x v Q I1 r1 q1)
theorem opI{C:Int->Int->Prop}{g:Int->Int->Int}
  (rule:∀(i j:Int) (t u:Tok) (s:QV) (Q:QR->QV->Prop) (E:QR->QV->Prop),C i j->Q (.int (g i j) s.toks) {s with toks:=s.toks+1}->QX (Q3 X.prog X.w) X.A (f (.int i t) (.int j u)) Q E s) :
  OpR X f (rI C fun i j=>.int (g i j)):=by
 intro ac s σ H x y v u Q I rx ry h;obtain⟨i,j,rfl,rfl,hc,q⟩:=h;obtain⟨t,rfl⟩:=rx;obtain⟨t',rfl⟩:=ry;exact rule i j t t' s _ _ hc ⟨.int (g i j),H,I.tok _,⟨_,rfl⟩,q⟩
theorem KD{g:Int->Int->Int}
  (rule:∀(i j:Int) (t u:Tok) (s:QV) (Q:QR->QV->Prop) (E:QR->QV->Prop),Q (.int (g i j) s.toks) {s with toks:=s.toks+1}->QX (Q3 X.prog X.w) X.A (f (.int i t) (.int j u)) Q E s) :
  OpR X f (rI0 fun i j=>.int (g i j)):=by
 intro ac s σ H x y v u Q I rx ry h;obtain⟨i,j,rfl,rfl,q⟩:=h;obtain⟨t,rfl⟩:=rx;obtain⟨t',rfl⟩:=ry;exact rule i j t t' s _ _ ⟨.int (g i j),H,I.tok _,⟨_,rfl⟩,q⟩
theorem EB{g:Int->Int->Bool}
  (rule:∀(i j:Int) (t u:Tok) (s:QV) (Q:QR->QV->Prop) (E:QR->QV->Prop),Q (.bool (g i j)) s->QX (Q3 X.prog X.w) X.A (f (.int i t) (.int j u)) Q E s) :
  OpR X f (rI0 fun i j=>.bl (g i j)):=by
 intro ac s σ H x y v u Q I rx ry h;obtain⟨i,j,rfl,rfl,q⟩:=h;obtain⟨t,rfl⟩:=rx;obtain⟨t',rfl⟩:=ry;exact rule i j t t' s _ _ ⟨.bl (g i j),H,I,rfl,q⟩
noncomputable def Fh(i j:Int):Prop:=0<j/\j<1073741824
noncomputable def L4(i j:Int):Prop:=0<=j/\j<=1000000/\i.natAbs<2 ^ 64
noncomputable def wy(i j:Int):Prop:=(-(2 ^ 64)<i/\i<2 ^ 64)\/(-(2 ^ 64)<j/\j<2 ^ 64)
theorem wy.ok {i j:Int}(h:wy i j):IntMulOk i j:=by
 rcases h with⟨h1,h2⟩|⟨h1,h2⟩
 ·exact .of_left (Xz h1 h2)
 exact .of_right (Xz h1 h2)
theorem pM:OpR X (Si .Add) (rI0 fun i j=>.int (i+j)):=KD fun _ _ _ _ _ _ _ q=>add_int q
theorem J4:OpR X (Si .Sub) (rI0 fun i j=>.int (i-j)):=KD fun _ _ _ _ _ _ _ q=>sub_int q
theorem lK:OpR X (Si .Mult) (rI wy fun i j=>.int (i*j)):=opI fun _ _ _ _ _ _ _ hc q=>mul_int q hc.ok
theorem zK:OpR X (Si .FloorDiv) (rI Fh fun i j=>.int (i/j)):=opI fun i j _ _ _ _ _ hc q=>by have h1:(0:Int)<j:=hc.1;have h2:j<1073741824:=hc.2;exact floordiv_int (by lia) (by rw[OE i (by lia)];exact q) (.inl (Vz (by lia)))
theorem nA:OpR X (Si .Mod) (rI (fun _ j=>0<j) fun i j=>.int (i%j)):=opI fun i j _ _ _ _ _ hc q=>by have h1:(0:Int)<j:=hc;exact mod_int' (by lia) (by rw[OF i (by lia)];exact q)
theorem II:OpR X (Si .Pow) (rI L4 fun i j=>.int (i ^ j.toNat)):=opI fun _ _ _ _ _ _ _ hc q=>pow_int_small hc.1 hc.2.1 hc.2.2 q
theorem unI{f:QR->Sem QR}{g:Int->Int}
  (rule:∀(i:Int) (t:Tok) (s:QV) (Q:QR->QV->Prop) (E:QR->QV->Prop),Q (.int (g i) s.toks) {s with toks:=s.toks+1}->QX (Q3 X.prog X.w) X.A (f (.int i t)) Q E s) :
  UnR X f (rU fun i=>.int (g i)):=by
 intro ac s σ H x v Q I rx h;obtain⟨i,rfl,q⟩:=h;obtain⟨t,rfl⟩:=rx;exact rule i t s _ _ ⟨.int (g i),H,I.tok _,⟨_,rfl⟩,q⟩
theorem HJ:UnR X (unaryOp .USub) (rU fun i=>.int (-i)):=unI fun _ _ _ _ _ q=>neg_int q
theorem Iz{Q:VK}{k k':Bool}(I:Inv X ac σ H s)(q:Q (.bl k) H)(e:k=k'):EP X ac σ Q (.bool k') s:=by subst e;exact⟨.bl k,H,I,rfl,q⟩
theorem Jr:OpR X (RO .Lt) (rI0 fun i j=>.bl (decide (i<j))):=EB fun _ _ _ _ _ _ _ q=>lt_int q
theorem Kf:OpR X (RO .LtE) (rI0 fun i j=>.bl (decide (i<=j))):=EB fun _ _ _ _ _ _ _ q=>le_int q
theorem Jd:OpR X (RO .Gt) (rI0 fun i j=>.bl (decide (j<i))):=EB fun _ _ _ _ _ _ _ q=>gt_int q
theorem GB:OpR X (RO .GtE) (rI0 fun i j=>.bl (decide (j<=i))):=EB fun _ _ _ _ _ _ _ q=>ge_int q
theorem J1:OpR X (RO .Is) (fun x y H Q=>y=.non/\Q (.bl (decide (x=.non))) H):=by
 intro ac s σ H x y v u Q I rx ry h;obtain⟨rfl,q⟩:=h;cases ry;refine is_none_gen (Iz I q ?_);cases x <;> first
  | (cases rx;rfl)
  | (obtain⟨t,rfl⟩:=rx;rfl)
theorem aK(b:Q9)(h:op≠.In:=by decide)(h2:op≠.NotIn:=by decide):TB op b=false:=by
 have e1:(op == CmpOp.In)=false:=by cases op <;> first|rfl|exact absurd rfl h
 have e2:(op == CmpOp.NotIn)=false:=by cases op <;> first|rfl|exact absurd rfl h2
 cases b <;> simp[TB,e1,e2]
theorem Ee{r:R2}(ho:OpR X (RO op) r)(ha:PE X a ta)(hb:PE X b tb)(hm:TB op b=false):PE X (.Compare a [op] [b] pos) (tOp r ta tb):=by intro ac s σ H Q I h;exact wpAny_Compare1 (J3 ha hb I h fun v u s2 x y H2 I2 rx ry q=>ho ac s2 σ H2 x y v u Q I2 rx ry q) hm
noncomputable def Cq(t:TE):TT:=fun σ H Q=>t σ H fun x H'=>∃k,x=.bl k/\Q k H'
theorem uS{r:R2}(ho:OpR X (RO op) r)(ha:PE X a ta)(hb:PE X b tb)(hm:TB op b=false):PT X (.Compare a [op] [b] pos) (Cq (tOp r ta tb)):=by
 intro ac s σ H Q I h;refine wpAny_isTrue_Compare1 (thn (ha ac s σ H _ I h) fun v s1 ⟨x,H1,I1,r1,q1⟩=>thn (hb ac s1 σ H1 _ I1 q1) fun u s2 ⟨y,H2,I2,r2,q2⟩=>
  thn (ho ac s2 σ H2 x y v u _ I2 r1 r2 q2) fun c s3 ⟨z,H3,I3,r3,k,e,q3⟩=>?_) hm
 subst e;cases r3;exact SE ⟨H3,I3,q3⟩
noncomputable def C0(r r':R2)(ta tb tc:TE):TE:=fun σ H Q=>ta σ H fun x H1=>tb σ H1 fun y H2=>r x y H2 fun z H3=>∃k,z=.bl k/\
 (if k=true then tc σ H3 fun w' H4=>r' y w' H4 Q else Q (.bl false) H3)
theorem D5{op':Wn}{r r':R2}(ho:OpR X (RO op) r)(ho':OpR X (RO op') r')(ha:PE X a ta)(hb:PE X b tb)(hc:PE X c tc)
  (hm:lastMarks [op,op'] [b,c]=false:=by with_unfolding_all rfl):PT X (.Compare a [op,op'] [b,c] pos) (Cq (C0 r r' ta tb tc)):=by
 intro ac s σ H Q I h;refine isTrue_chain (thn (ha ac s σ H _ I h) ?_) hm;rintro v s1 ⟨x,H1,I1,r1,q1⟩;refine test_link (thn (hb ac s1 σ H1 _ I1 q1) ?_);rintro u s2 ⟨y,H2,I2,r2,q2⟩;refine thn (ho ac s2 σ H2 x y v u _ I2 r1 r2 q2) ?_;rintro d s3 ⟨z,H3,I3,r3,k,e,q3⟩;subst e;cases r3;refine SE ?_;cases k with
 |false=>
  obtain⟨k',e',q'⟩:=q3;cases e';exact ite_ff ⟨H3,I3,q'⟩
 |true=>
  refine ite_tt (test_last (thn (hc ac s3 σ H3 _ I3 q3) ?_));rintro w' s4 ⟨z',H4,I4,r4,q4⟩;refine thn (ho' ac s4 σ H4 y z' u w' _ I4 r2 r4 q4) ?_;rintro d' s5 ⟨z2,H5,I5,r5,k2,e2,q5⟩;subst e2;cases r5;exact SE ⟨H5,I5,q5⟩
def Hw(K:QT)(x:V)(H:Hp)(k:Bool):Prop:=
 match x with
 | .non=>k=false
 | .bl b=>k=b
 | .int i=>k=(i != 0)
 | .str y=>y.length<=sizeLine/\k=((y.length:Int) != 0)
 | .byt y=>y.size<=sizeLine/\k=((y.size:Int) != 0)
 | .ref p=>(∃xs,SqL K H p xs/\k=!xs.isEmpty)\/(∃xs,SqT K H p xs/\k=!xs.isEmpty)\/∃kvs,H p=some (.dK kvs)/\k=!kvs.isEmpty
 | _=>False
theorem xF{κ:Type}{kvs:List (κ×V)}{vs:List (κ×QR)}(r:KV kvs vs):(!vs.isEmpty)=!kvs.isEmpty:=by cases r <;> rfl
theorem qb{its:List QR}(r:Vals xs its):(!its.toArray.isEmpty)=!xs.isEmpty:=by cases r <;> simp
theorem lQ:(sizeLine:Nat)<2 ^ 63:=by rw[sizeLine_eq];decide
theorem IS:LG X (fun x H Q=>∃k,Hw X.K x H k/\Q k H):=by
 intro ac s σ H x v Q I rx h;obtain⟨k,e,q⟩:=h;have hl:=lQ;have hs:sizeLine=16777216:=sizeLine_eq;cases x with
 |non=>
  cases rx;have e':k=false:=e;subst e';exact truthy_none ⟨H,I,q⟩
 |bl b=>
  cases rx;have e':k=b:=e;subst e';exact SE ⟨H,I,q⟩
 |int i=>
  obtain⟨t,rfl⟩:=rx;have e':k=(i != 0):=e;subst e';exact PySem.P.truthy_int ⟨H,I,q⟩
 |str y=>
  obtain⟨t,rfl⟩:=rx;obtain⟨hy,e'⟩:y.length<=sizeLine/\k=((y.length:Int) != 0):=e;subst e';exact PySem.P.truthy_str (by lia) ⟨H,I.tok _,q⟩
 |byt y=>
  obtain⟨t,rfl⟩:=rx;obtain⟨hy,e'⟩:y.size<=sizeLine/\k=((y.size:Int) != 0):=e;subst e';exact PySem.W.truthy_bytes (by lia) ⟨H,I.tok _,q⟩
 |ref p=>
  cases rx;have e':(∃xs,SqL X.K H p xs/\k=!xs.isEmpty)\/(∃xs,SqT X.K H p xs/\k=!xs.isEmpty)\/∃kvs,H p=some (.dK kvs)/\k=!kvs.isEmpty:=e;rcases e' with⟨xs,hx,e'⟩|⟨xs,hx,e'⟩|⟨kvs,hx,e'⟩
  ·subst e';obtain⟨its,r,pl,hz⟩:=I.list hx;have hlen:=r.length;exact wpAny_truthy_list pl.isList (by simp only[o_];lia) ⟨H,I.tok _,by rw[qb r];exact q⟩
  ·subst e';obtain⟨its,r,pl,hz⟩:=I.tuple hx;have hlen:=r.length;exact truthy_tuple pl (by simp only[o_];lia) ⟨H,I.tok _,by rw[qb r];exact q⟩
  ·subst e';obtain⟨hz,hS,vs,r,m⟩:kvs.length<=sizeLine/\(p == RS)=false/\∃vs,KV kvs vs/\s.heap.DictOf (b8 X.prog X.w) p vs:=I.hok p _ hx;have hlen:kvs.length=vs.length:=R' r;exact wpAny_truthy_dict hS m (by lia) ⟨H,I.tok _,by rw[xF r];exact q⟩
 | _=>exact(show False from e).elim
theorem BS(ha:PE X a ta)(he:∀whole,Wa a X.env whole=(do let v <-whole;Xb a.pos;TJ [v] (truthy v))) :
  PT X a (fun σ H Q=>ta σ H fun x H'=>∃k,Hw X.K x H' k/\Q k H'):=by
 intro ac s σ H Q I h;exact isTrue_plain (thn (ha ac s σ H _ I h) fun v s1 ⟨x,H1,I1,r1,q1⟩=>IS ac s1 σ H1 x v Q I1 r1 q1) (he _)
theorem xi:OpR X (Si .Add) (fun x y H Q=>∃i j,x=.str i/\y=.str j/\i.length+j.length<=sizeLine/\Q (.str (i++j)) H):=by intro ac s σ H x y v u Q I rx ry h;obtain⟨i,j,rfl,rfl,hz,q⟩:=h;obtain⟨t,rfl⟩:=rx;obtain⟨t',rfl⟩:=ry;exact add_str (fun t' tk=>⟨.str (i++j),H,I.tok _,⟨_,rfl⟩,q⟩) hz
theorem vals1{x:V}(r:Vals [x] us):∃u,us=[u]/\RelV x u:=by
 cases r with
 |cons r1 r2=>cases r2;exact⟨_,rfl,r1⟩
theorem vals2{x y:V}(r:Vals [x,y] us):∃u w',us=[u,w']/\RelV x u/\RelV y w':=by
 cases r with
 |cons r1 r2=>
  cases r2 with
  |cons r3 r4=>cases r4;exact⟨_,_,rfl,r1,r3⟩
theorem Dx:bE X (.builtin "abs") (fun xs H Q=>∃i,xs=[.int i]/\Q (.int (if i<0 then -i else i)) H):=by intro ac s σ H xs us Q I r h;obtain⟨i,rfl,q⟩:=h;obtain⟨u,rfl,t,rfl⟩:=vals1 r;exact call_abs_int fun u tk=>⟨.int (if i<0 then -i else i),H,I.tok _,⟨_,rfl⟩,q⟩
theorem AA(hc:X.calm=true):bE X (.builtin "max") (fun xs H Q=>∃i j,xs=[.int i,.int j]/\Q (.int (if j > i then j else i)) H):=by
 intro ac s σ H xs us Q I r h;obtain⟨i,j,rfl,q⟩:=h;obtain⟨u,w',rfl,⟨t,rfl⟩,⟨t',rfl⟩⟩:=vals2 r;refine max_two_ints (I.ok.hd hc) fun h' tk k=>⟨_,H,I.kept k,?_,q⟩;by_cases hj:j > i
 ·rw[if_pos hj,if_pos hj];exact⟨_,rfl⟩
 rw[if_neg hj,if_neg hj];exact⟨_,rfl⟩
theorem AD(hc:X.calm=true):bE X (.builtin "min") (fun xs H Q=>∃i j,xs=[.int i,.int j]/\Q (.int (if j<i then j else i)) H):=by
 intro ac s σ H xs us Q I r h;obtain⟨i,j,rfl,q⟩:=h;obtain⟨u,w',rfl,⟨t,rfl⟩,⟨t',rfl⟩⟩:=vals2 r;refine min_two_ints (I.ok.hd hc) fun h' tk k=>⟨_,H,I.kept k,?_,q⟩;by_cases hj:j<i
 ·rw[if_pos hj,if_pos hj];exact⟨_,rfl⟩
 rw[if_neg hj,if_neg hj];exact⟨_,rfl⟩
theorem vM:bE X (.builtin "divmod") (fun xs H Q=>∃i j,xs=[.int i,.int j]/\Fh i j/\∀p,H p=none->Q (.ref p) (upd H p (.tup [.int (i/j),.int (i%j)]))):=by intro ac s σ H xs us Q I r h;obtain⟨i,j,rfl,⟨h1,h2⟩,q⟩:=h;obtain⟨u,w',rfl,⟨t,rfl⟩,⟨t',rfl⟩⟩:=vals2 r;refine divmod_int (by lia) ?_ (.inl (Vz (by lia)));rw[OE i (by lia),OF i (by lia)];have hn:H s.heap.objs.size=none:=I.hok.fresh (b_ _);refine⟨.ref s.heap.objs.size,_,?_,rfl,q _ hn⟩;refine I.laid (fun b o e=>QW _ e) (b_ _) ⟨by simp only[h_,L_];rw[sizeLine_eq];decide,[.int (i/j) s.toks,.int (i%j) (s.toks+1)],.cons ⟨_,rfl⟩ (.cons ⟨_,rfl⟩ .nil),?_⟩;exact⟨_,Q0 s.heap rfl,rfl,0,rfl⟩
end
theorem ra.some_of {o:Option QR}(r:ra (some v) o):∃u,o=some u/\RelV v u:=by
 cases o with
 |none=>exact(show False from r).elim
 |some u=>exact⟨u,rfl,r⟩
structure Room (k:Nat) (A:Rh):Prop where
 hd:A.handled=none
 dp:A.depth+3*k+5<recursionLimit
 un:A.units+16*k+200<cLine
 gs:A.guards=some []
theorem Room.mono {j k:Nat}(r:Room k A)(h:j<=k):Room j A:=⟨r.hd,by have:=r.dp;lia,by have:=r.un;lia,r.gs⟩
theorem Room.deeper {k:Nat}(r:Room (k+1) A)(env:Env):Room k (A.deeper env):=
 ⟨r.hd,by have:=r.dp;show A.depth+1+3*k+5<_;lia,by have:=r.un;show A.units+3+16*k+200<_;lia,r.gs⟩
theorem Room.depth {k:Nat}(r:Room k A):A.depth<recursionLimit:=by have:=r.dp;lia
theorem Room.units {k:Nat}(r:Room k A):A.units+64<cLine:=by have:=r.un;lia
noncomputable def LA:TA:=fun _ H Q=>Q [] H
noncomputable def KN(ta:TE)(tr:TA):TA:=fun σ H Q=>ta σ H fun x H1=>tr σ H1 fun xs H2=>Q (x::xs) H2
section
variable{X:Cx}{e:Q9}{es:List Q9}{te:TE}{t:TA}{pos:Pos}
theorem kq:PA X [] LA:=fun _ _ _ _ H Q I h=>U4 ⟨[],H,I,.nil,h⟩
theorem f9(ha:PE X e te)(hr:PA X es t)(hs:Ra (e::es) X.env=(false,Rw e X.env)::Ra es X.env:=by rfl):PA X (e::es) (KN te t):=by intro pos ac s σ H Q I h;rw[hs];show QX _ _ (spliced ((false,Rw e X.env)::Tv pos (Ra es X.env))) _ _ s;refine SV (thn (ha ac s σ H _ I h) ?_);rintro u s1 ⟨x,H1,I1,r1,q1⟩;exact thn (hr pos ac s1 σ H1 _ I1 q1) fun us s2 ⟨xs,H2,I2,r2,q2⟩=>⟨x::xs,H2,I2,.cons r1 r2,q2⟩
def LF(t:TA):TE:=fun σ H Q=>t σ H fun xs H1=>xs.length<=sizeLine/\∀p,H1 p=none->Q (.ref p) (upd H1 p (.lst xs))
theorem CP(h:PA X es t):PE X (.List es pos) (LF t):=by intro ac s σ H Q I hq;refine Wd (thn (h pos ac s σ H _ I hq) fun us s1 ⟨xs,H1,I1,r,z,q⟩=>⟨by rw[<-r.length];exact z,?_⟩);have hf:H1 s1.heap.objs.size=none:=I1.hok.fresh (b_ _);refine⟨.ref s1.heap.objs.size,upd H1 s1.heap.objs.size (.lst xs),I1.laid (t':=s1.toks) (fun b u e=>QW _ e) (b_ _) ?_,rfl,q _ hf⟩;exact⟨z,us,0,r,Q0 _ rfl⟩
end
abbrev Sp:=List V->Hp->VK->XK->Prop
abbrev CXT:=List Env->Hp->QV->XK->QR->QV->Prop
structure Env0 (P:Q5) (w:Q8) (K:QT) (mg:Str->Option QR) (base:Q_) (A:Rh) (outer:List Env) (s:QV) (H:Hp):Prop where
 frames:A.frames=some outer
 mod:Mod K mg base
 bs:∀b o,base.get? b=some o->s.heap.get? b=some o/\H b=none
 bsz:base.objs.size<=s.heap.objs.size
 qL:s.heap.FunFrames base outer
 frf:∀b∈frs outer,H b=none
 hok:HOk P w H s.heap
 bare:Uu s.gens
def CE(outer:List Env)(P:Q5)(w:Q8)(H:Hp)(s:QV)(Q:VK)(u:QR)(s':QV):Prop:=
 ∃v H',s'.os=s.os/\Uu s'.gens/\Un (frs outer) [] H H' s.heap s'.heap/\HOk P w H' s'.heap/\RelV v u/\Q v H'
def CR(CX:CXT)(outer:List Env)(P:Q5)(w:Q8)(H:Hp)(s:QV)(Q:VK)(E:XK)(r:We)(s':QV):Prop:=
 match r with
 | .ok (.ret u)=>CE outer P w H s Q u s'
 | .ok _=>False
 | .error e=>CX outer H s E e s'
structure FnOk (P:Q5) (w:Q8) (K:QT) (mg:Str->Option QR) (base:Q_) (CX:CXT) (k:Nat) (f:QS) (fd:Rj) (ps:List Str) (sp:Sp):Prop where
 len:∀vs H Q E,sp vs H Q E->vs.length=ps.length
 run:∀(A:Rh) (outer:List Env) (s:QV) (H:Hp) (args:Args) (us:List QR) (vs:List V) (Q:VK) (E:XK),Room k A->Env0 P w K mg base A outer s H->VG s fd args (ps.zip us)->Vals vs us->sp vs H Q E->
  SM (Q3 P w) A (.call (.ref f) args) (CR CX outer P w H s Q E) s
variable {CX:CXT}{base:Q_}{mg:Str->Option QR}{ps:List Str}
theorem FnOk.imp {k:Nat}{f:QS}{fd:Rj}{sp sp':Sp}(F:FnOk P w K mg base CX k f fd ps sp)
  (h:∀vs H Q E,sp' vs H Q E->sp vs H Q E):FnOk P w K mg base CX k f fd ps sp':=
 ⟨fun vs H Q E q=>F.len vs H Q E (h _ _ _ _ q),fun A outer s H args us vs Q E hr he hb hv hs=>F.run A outer s H args us vs Q E hr he hb hv (h _ _ _ _ hs)⟩
section
variable{X:Cx}{ac:List (QS×Obj)}{σ:St}{H:Hp}{s s':QV}
theorem Inv.Lu (I:Inv X ac σ H s):Env0 X.prog X.w X.K X.mg X.base X.A X.stack s H:=
 ⟨I.ok.frames,I.ok.mod,I.bs,m_ I.ok.bsz I.sz,I.stack,I.yB,I.hok,I.bare⟩
theorem Inv.after {Q:VK}(I:Inv X ac σ H s)(h:CE X.stack X.prog X.w H s Q u s'):EP X ac σ Q u s':=by obtain⟨v,H',os,bare,un,hok,r,q⟩:=h;obtain⟨hh,g,d,t,os'⟩:=s';obtain rfl:os'=s.os:=os;exact⟨v,H',I.call (h':=hh) (g':=g) (d':=d) (t':=t) (ch:=[]) un hok bare (fun b z=>absurd z (by simp)),r,q⟩
end
noncomputable def C9(sp:Sp)(dvs:List V)(E:XK)(t:TA):TE:=fun σ H Q=>t σ H fun vs H1=>sp (vs++dvs) H1 Q E
noncomputable def Binds(K:QT)(fd:Rj)(ps:List Str)(ds:List QR):Prop:=
 ∀(s:QV) (us:List QR),K.In s.heap->(us++ds).length=ps.length->VG s fd ⟨us,[]⟩ (ps.zip (us++ds))
theorem Binds.all {fd:Rj}(h:∀us:List QR,us.length=ps.length->XU fd ⟨us,[]⟩=pure (ps.zip us)):Binds K fd ps []:=fun s us _ hl=>by rw[I_]at hl ⊢;exact .of_eq (h us hl)
noncomputable def Passes(CX:CXT)(X:Cx)(E:XK):Prop:=∀(ac:List (QS×Obj)) (σ:St) (H:Hp) (s:QV) (e:QR) (s':QV),Inv X ac σ H s->CX X.stack H s E e s'->X.xe e s'
variable {vs:List V}
section
variable{X:Cx}{CX:CXT}{k:Nat}{f C:QS}{fd:Rj}{ps:List Str}{sp:Sp}{dvs:List V}{ds:List QR}{E:XK}{x m:Str}{p pos apos:Pos}{e o:Q9}{es:List Q9}{ta:TE}{t:TA}
theorem Il{Q:VK}(F:FnOk X.prog X.w X.K X.mg X.base CX k f fd ps sp)(hr:Room k X.A)(hb:Binds X.K fd ps ds)(hd:Vals dvs ds)(hx:Passes CX X E)
  (I:Inv X ac σ H s) (r:Vals vs us) (h:sp (vs++dvs) H Q E):QX (Q3 X.prog X.w) X.A (call (.ref f) us) (EP X ac σ Q) X.xe s:=by
 have r2:Vals (vs++dvs) (us++ds):=r.append hd;have hl:(us++ds).length=ps.length:=by rw[<-r2.length];exact F.len _ _ _ _ h
 refine wpAny_call (S9 (F.run X.A X.stack s H ⟨us,[]⟩ (us++ds) (vs++dvs) Q E hr I.Lu (hb s us I.kIn hl) r2 h) fun r s' hq=>?_);cases r with
 |error e=>exact hx ac σ H s e s' I hq
 |ok fl=>
  cases fl with
  |ret u=>exact I.after hq
  |next=>exact Rb hq
  |brk=>exact Rb hq
  |cont=>exact Rb hq
theorem F8(F:FnOk X.prog X.w X.K X.mg X.base CX k f fd ps sp)(hr:Room k X.A)(hg:Gl X x)(hm:X.mg x=some (.ref f))(hk:T6 X.K (.ref f)=true)(hb:Binds X.K fd ps ds)(hd:Vals dvs ds)(hx:Passes CX X E)
  (ha:PA X (e::es) t) (hdb:(x ==("__debug__":Str))=false:=by decide) (he:Ra (e::es) X.env=(false,Rw e X.env)::Ra es X.env:=by rfl) (hpl:(Tv pos (Ra es X.env)).any (·.1)=false:=by rfl) :
  PE X (.Call (.Name x p) (e::es) [] pos) (C9 sp dvs E t):=by
 intro ac s σ H Q I h;refine RY (yo I hg hm ?_ hdb);refine PySem.W.callWith_K (h₀:=X.base) I.ok.mod.kin hk (thn (ha pos ac s σ H _ I h) fun us s1 ⟨vs,H1,I1,r,q⟩=>⟨I1.kIn,?_⟩) he hpl;exact Il F hr hb hd hx I1 r q
end
structure FnScope (N P:List Str) (sc:R6):Prop where
 kind:sc.kind=.function
 co:sc.isCoroutine=false
 gen:sc.isGenerator=false
 nd:N.Nodup
 pre:N.take P.length=P
 par:∀x∈P,sc.names.lookup x=some .local\/sc.names.lookup x=some .cell
 nofree:∀y∈sc.names,y.2≠.free
theorem sW{kindOf:Str->Option S_}{x:Str}:∀{binds:List (Str×QR)}{m:Str->Option QR},(∀v,(x,v) ∉ binds)->VQ kindOf binds m x=m x
 | [],_,_=>rfl
 | (n,v)::r,m,h=>by
  unfold VQ;rw[sW fun w hw=>h w (n_ _ hw)];split
  ·have:x≠n:=by rintro rfl;exact h v u_
   simp[this]
  rfl
theorem rJ{kindOf:Str->Option S_}{x:Str}:∀{binds:List (Str×QR)}{m:Str->Option QR},(∀v,(x,v) ∉ binds)->VR kindOf binds m x=m x
 | [],_,_=>rfl
 | (n,v)::r,m,h=>by
  unfold VR;rw[rJ fun w hw=>h w (n_ _ hw)];split
  ·rfl
  have:x≠n:=by rintro rfl;exact h v u_
  simp[this]
theorem rA{kindOf:Str->Option S_}{x:Str}{v:QR}:∀{P:List Str}{vs:List QR}{i:Nat}{m:Str->Option QR},P.Nodup->P[i]?=some x->vs[i]?=some v->kindOf x=some .local->
  VQ kindOf (P.zip vs) m x=some v
 | [],_,_,_,_,h,_,_=>by simp at h
 | _::_,[],_,_,_,_,h,_=>by simp at h
 |p::P,w::vs,0,m,nd,h1,h2,hk=>by simp at h1 h2;subst h1;subst h2;show VQ kindOf ((p,w)::P.zip vs) m p=_;unfold VQ;rw[sW fun v hv=>(F_.mp nd).1 (O5 hv).1,if_pos hk];simp
 |p::P,w::vs,i+1,m,nd,h1,h2,hk=>by show VQ kindOf ((p,w)::P.zip vs) m x=_;unfold VQ;exact rA (i:=i) (F_.mp nd).2 (by simpa using h1) (by simpa using h2) hk
theorem sI{kindOf:Str->Option S_}{x:Str}{v:QR}:∀{P:List Str}{vs:List QR}{i:Nat}{m:Str->Option QR},P.Nodup->P[i]?=some x->vs[i]?=some v->kindOf x≠some .local->
  VR kindOf (P.zip vs) m x=some v
 | [],_,_,_,_,h,_,_=>by simp at h
 | _::_,[],_,_,_,_,h,_=>by simp at h
 |p::P,w::vs,0,m,nd,h1,h2,hk=>by simp at h1 h2;subst h1;subst h2;show VR kindOf ((p,w)::P.zip vs) m p=_;unfold VR;rw[rJ fun v hv=>(F_.mp nd).1 (O5 hv).1,if_neg hk];simp
 |p::P,w::vs,i+1,m,nd,h1,h2,hk=>by show VR kindOf ((p,w)::P.zip vs) m x=_;unfold VR;exact sI (i:=i) (F_.mp nd).2 (by simpa using h1) (by simpa using h2) hk
noncomputable def start(N:List Str)(vs:List V):St:=vs.map some++M0 (N.length-vs.length) none
noncomputable def xY(CX:CXT)(P:Q5)(w:Q8)(K:QT)(mg:Str->Option QR)(base:Q_)(N:List Str)(qual:Str)(scope:R6)(f:QS)(cd:QR)(A:Rh)(outer:List Env)(s:QV)(H:Hp)(E:XK):Cx where
 prog:=P
 w:=w
 K:=K
 mg:=mg
 base:=base
 A:=A.deeper (UC qual scope s.heap.objs.size f cd)
 N:=N
 s₀:=s
 H₀:=H
 env:=UC qual scope s.heap.objs.size f cd
 outer:=outer
 stack:=UC qual scope s.heap.objs.size f cd::outer
 ex:=[]
 calm:=true
 fn:=fun _=>true
 pn:=[]
 xe:=fun e s'=>QX (Q3 P w) (A.deeper (UC qual scope s.heap.objs.size f cd)) (leaving (UC qual scope s.heap.objs.size f cd) e) (fun _ s''=>CX outer H s E e s'') (fun e' s''=>CX outer H s E e' s'') s'
theorem vy{sc:R6}{n:Nat}(h:sc.names.lookup x=some .cell):∃c,(Xs n sc.names []).lookup x=some c:=by have q:=VA sc.names n [] (.inl h);exact Option.isSome_iff_exists.mp q
theorem Ae{qual:Str}{scope:R6}{f:QS}{cd:QR}{outer:List Env}{s1:QV}{E:XK}
  (S:FnScope N ps scope) (hd:A.handled=none) (e0:Env0 P w K mg base A outer s H) (hl:vs.length=ps.length) (r:Vals vs us)
  (x:InCallC s s.heap.objs.size (VQ (UC qual scope s.heap.objs.size f cd).kindOf (ps.zip us) fun _=>none) (Xs (s.heap.objs.size+1) scope.names []) (VR (UC qual scope s.heap.objs.size f cd).kindOf (ps.zip us) fun _=>none) s1) :
  Inv (xY CX P w K mg base N qual scope f cd A outer s H E) [] (start N vs) H s1:=by
 have hpl:ps.length<=N.length:=by have:=congrArg N_ S.pre;rw[C']at this;lia
 obtain⟨h1,tk,rfl,hk⟩:=x.done;have noA:∀b:QS,b ∉ (xY CX P w K mg base N qual scope f cd A outer s H E).ex:=fun b z=>absurd (show b∈([]:List QS)from z) (by simp)
 refine⟨⟨e0.mod,S.kind,rfl,rfl,b_ _,fun y z c h1 h2=>?_,fun y hy=>?_,fun y c _ h=>?_,fun _=>hd,Around.frames_deeper e0.frames,.inr ⟨rfl,rfl⟩,fun b z=>absurd z (noA b),e0.bs,e0.bsz,fun b _ _=>noA b,fun b z=>absurd z (noA b),e0.qL,e0.frf⟩,
  rfl,e0.bare,Un.kept hk,⟨_,x.toInCall.ns,fun i y v h1 h2 h3=>?_⟩,fun y c h=>⟨_,x.cell y c h⟩,e0.hok.fresh (b_ _),fun y c h=>?_,fun p hp=>absurd (show p∈([]:List (QS×Obj))from hp) (by simp),e0.hok.kept hk,?_⟩
 ·exact name_of_addr x.apart (Sn h1) (Sn h2)
 ·have hy:scope.names.lookup y=some .cell\/scope.names.lookup y=some .free:=hy;rcases hy with hy|hy
  ·exact vy hy
  exact absurd rfl (S.nofree _ (Sn hy))
 ·exact LQ (x.above y c (Sn h))
 ·have hi:i<vs.length:=by
   unfold start at h2;by_cases hi:i<vs.length
   ·exact hi
   rw[Mb (by simpa using hi)]at h2;rw[List.getElem?_replicate]at h2;split at h2 <;> cases h2
  have ha:vs[i]?=some v:=by
   unfold start at h2;rw[MT (by simpa using hi),B_]at h2;cases e:vs[i]? with
   |none=>rw[e]at h2;cases h2
   |some a=>rw[e]at h2;cases h2;rfl
  obtain⟨u,hu,rv⟩:=r.get ha;have hp:ps[i]?=some y:=by rw[<-S.pre,OQ (by lia)];exact h1
  have ndP:ps.Nodup:=by rw[<-S.pre];exact S.nd.sublist (Ny _ _)
  refine⟨u,rv,?_⟩;rcases S.par y (F' hp)with k|k
  ·exact .inl ⟨k,rA ndP hp hu k⟩
  obtain⟨c,e⟩:=vy (n:=s.heap.objs.size+1) k;refine .inr ⟨.inl k,c,e,?_⟩;have q:=x.cell y c e;rw[sI ndP hp hu (by show scope.names.lookup y≠_;rw[k];decide)]at q;exact q
 ·exact e0.hok.fresh (LQ (x.above y c (Sn h)))
 unfold start;show _=N.length;rw[e_,a_,List.length_replicate];lia
theorem JP{k:Nat}{f:QS}{name qual:Str}{params:Arguments}{scope:R6}{dV kV doc pm cdv ct oc:QR}{an od:Option QS}
  {osl:Array (Option QR)}{N ps:List Str}{sp:Sp} (lk:K.lookup f=some ⟨oc,od,.func (SW name qual params body scope dV kV doc pm an cdv ct),osl⟩) (hcd:UN K cdv qual=true) (S:FnScope N ps scope)
  (len:∀vs H Q E,sp vs H Q E->vs.length=ps.length)
  (hbody:∀(A:Rh) (outer:List Env) (s:QV) (H:Hp) (vs:List V) (Q:VK) (E:XK),Room k (A.deeper (UC qual scope s.heap.objs.size f cdv))->sp vs H Q E->
   ∃t,PSs (xY CX P w K mg base N qual scope f cdv A outer s H E) body t/\t { nx:=fun _ H'=>Q .non H',rt:=Q} (start N vs) H) :
  FnOk P w K mg base CX (k+1) f (SW name qual params body scope dV kV doc pm an cdv ct) ps sp:=by
 refine⟨len,fun A outer s H args us vs Q E hr e0 hb r hsp=>?_⟩;have hl:=len _ _ _ _ hsp;have KX:K.In s.heap:=e0.mod.kin.keeps fun b o e=>(e0.bs b o e).1;have lim:s.heap.NoLimit:=e0.mod.nolimit.keeps fun b o e=>(e0.bs b o e).1;have hkind:∀y∈ps.zip us,scope.names.lookup y.1=some .local\/(scope.names.lookup y.1=some .cell/\((Xs (s.heap.objs.size+1) scope.names []).lookup y.1).isSome=true):=fun⟨n,v⟩ hy=>by
  rcases S.par n (O5 hy).1 with q|q
  ·exact .inl q
  exact .inr ⟨q,VA _ _ _ (.inl q)⟩
 refine codeAny_call_function hr.depth (KX _ _ lk) rfl S.co S.gen rfl (PySem.W.codeRec_of KX hcd) (hb _ _ _ _ ?_);refine wpAny_newFunctionEnv_cells S.kind hkind fun env he s1 x=>?_;subst he;refine⟨lim.keeps x.toInCall.keep,codeAny_func ?_⟩;obtain⟨t,ht,hq⟩:=hbody A outer s H vs Q E (hr.deeper _) hsp;have I:Inv (xY CX P w K mg base N qual scope f cdv A outer s H E) [] (start N vs) H s1:=Ae S hr.hd e0 hl r x;refine RA (ht [] s1 (start N vs) H _ I hq) (fun fl s' hs=>?_) fun e s' hs=>hs;have fin:∀{σ':St}{H':Hp}{v:V}{u:QR},Inv (xY CX P w K mg base N qual scope f cdv A outer s H E) [] σ' H' s'->RelV v u->Q v H'->CE outer P w H s Q u s':=
  fun{σ' H' v u} J rv q=>⟨v,H',J.os,J.bare,J.base,J.hok,rv,q⟩
 cases fl with
 |ret u=>
  obtain⟨v,σ',H',J,rv,q⟩:=hs;exact fin J rv q
 |next=>
  obtain⟨σ',H',J,q⟩:=hs;exact fin (v:=V.non) (u:=Rn) J rfl q
 |brk=>
  obtain⟨_,_,_,q⟩:=hs;exact Rb q
 |cont=>
  obtain⟨_,_,_,q⟩:=hs;exact Rb q
section
variable{X:Cx}{x:Str}{p pos:Pos}{e:Q9}{es:List Q9}{t:TA}{id T:String}{r:List V->Hp->VK->Prop}
noncomputable def tCB(r:List V->Hp->VK->Prop)(t:TA):TE:=fun σ H Q=>t σ H fun vs H1=>r vs H1 Q
theorem pJ(hc:bE X (.builtin id) r)(hg:Gl X x)(hm:X.mg x=none)(hv:SR x=some (.builtin id))(ha:PA X (e::es) t)(hn:x≠"__name__":=by decide)(hdb:(x ==("__debug__":Str))=false:=by decide)
  (he:Ra (e::es) X.env=(false,Rw e X.env)::Ra es X.env:=by rfl) (hpl:(Tv pos (Ra es X.env)).any (·.1)=false:=by rfl):PE X (.Call (.Name x p) (e::es) [] pos) (tCB r t):=by
 intro ac s σ H Q I h;refine RY (dE I hg hm hv ?_ hn hdb);exact WQ (thn (ha pos ac s σ H _ I h) fun us s1 ⟨vs,H1,I1,r1,q1⟩=>hc ac s1 σ H1 vs us Q I1 r1 q1) he hpl
theorem rY(hc:bE X (.type T) r)(hg:Gl X x)(hm:X.mg x=none)(hv:SR x=some (.type T))(ha:PA X (e::es) t)(hn:x≠"__name__":=by decide)(hdb:(x ==("__debug__":Str))=false:=by decide)
  (he:Ra (e::es) X.env=(false,Rw e X.env)::Ra es X.env:=by rfl) (hpl:(Tv pos (Ra es X.env)).any (·.1)=false:=by rfl):PE X (.Call (.Name x p) (e::es) [] pos) (tCB r t):=by
 intro ac s σ H Q I h;refine RY (dE I hg hm hv ?_ hn hdb);exact SU (thn (ha pos ac s σ H _ I h) fun us s1 ⟨vs,H1,I1,r1,q1⟩=>hc ac s1 σ H1 vs us Q I1 r1 q1) he hpl
end
end L2
namespace HT
open PySem PyProof.Rows
variable {Q:QR->QV->Prop}{hi lo:Option Int}
section
variable{prog:Q5}{w:Q8}{A:Rh}{E:QR->QV->Prop}{s:QV}
theorem EF{t b:QS}{vs ws:List QR}(ht:XJ s.heap t vs.toArray)(hb:XJ s.heap b ws.toArray)(hv:vs≠[])
  (h1:ws=[]->Q (.ref t) s) (h2:ws≠[]->Q (.ref s.heap.objs.size) {s with heap:=s.heap.push { cls:=.type "tuple",data:=.seq (vs++ws).toArray} })
  (hsz:vs.length+ws.length<=sizeLine):QX (Q3 prog w) A (Si .Add (.ref t) (.ref b)) Q E s:=by
 obtain⟨⟨cls,dd,data,sl⟩,ho,hc,n,hd⟩:=id ht;obtain⟨⟨cls2,dd2,data2,sl2⟩,ho2,hc2,n2,hd2⟩:=id hb;simp only at hc hd hc2 hd2;subst hc hd hc2 hd2;have e:vs.toArray++ws.toArray=(vs++ws).toArray:=by simp
 by_cases hw:ws=[]
 ·exact Wf ⟨_,ho,rfl⟩ ⟨_,ho2,rfl⟩ Vc V2 Ui T' (TU _ _)
   (tuple_addW1 t b vs.toArray ws.toArray n n2 dd dd2 sl sl2 (by simpa using hv) (by simp[hw])) ⟨ho,ho2,h1 hw⟩
 refine Wf ⟨_,ho,rfl⟩ ⟨_,ho2,rfl⟩ Vc V2 Ui T' (TU _ _)
  (tuple_addW2 t b vs.toArray ws.toArray n n2 dd dd2 sl sl2 (by simpa using hv) (by simpa using hw) (by rw[o_,o_];exact hsz)) ⟨ho,ho2,?_⟩
 rw[e];exact h2 hw
noncomputable def sIx(n d:Nat):Option Int->Nat
 |none=>d
 |some v=>if v<0 then(v+(n:Int)).toNat else min v.toNat n
theorem CI(n d:Nat):sIx n d none=d:=rfl
theorem DW(n d k:Nat):sIx n d (some (k:Int))=min k n:=by show(if(k:Int)<0 then((k:Int)+(n:Int)).toNat else min (k:Int).toNat n)=min k n;rw[if_neg (by lia),LR]
theorem HW(n d:Nat)(hd:d<=n)(o:Option Int):sIx n d o<=n:=by
 cases o with
 |none=>exact hd
 |some v=>
  show(if v<0 then(v+(n:Int)).toNat else min v.toNat n)<=n;by_cases hv:v<0
  ·rw[if_pos hv];lia
  rw[if_neg hv];exact Nat.min_le_right _ _
theorem zk(v:Int)(n d:Nat):(if v<0 then max (v+(n:Int)) 0 else min v (n:Int))=((sIx n d (some v):Nat):Int):=by
 show(if v<0 then max (v+(n:Int)) 0 else min v (n:Int))=(((if v<0 then(v+(n:Int)).toNat else min v.toNat n):Nat):Int);by_cases hv:v<0
 ·simp only[if_pos hv];lia
 simp only[if_neg hv];lia
theorem xO(lo hi:Option Int)(n:Nat):TQ lo hi 1 (n:Int)=(((sIx n 0 lo:Nat):Int),((sIx n n hi:Nat):Int)):=by
 have h1:¬((1:Int)<0):=by lia
 unfold TQ;simp only[h1,if_false];refine M9 ?_ ?_
 ·cases lo with
  |none=>rfl
  |some v=>exact zk v n 0
 cases hi with
 |none=>rfl
 |some v=>exact zk v n n
theorem xE(i j:Nat):S6 (i:Int) (j:Int) 1=j-i:=by
 unfold S6;have h1:(1:Int) > 0:=by lia
 simp only[h1,if_true,Int.ediv_one];split <;> lia
theorem pF{v:QR}{o:Option Int}{Q:Option Int->QV->Prop}(p:Vd v o)(h:Q o s):QX (Q3 prog w) A (Xc v) Q E s:=by
 cases p with
 |none=>exact Xd h
 |int i t=>exact slicePart_int h
theorem nM{sl:QS}{vl vu:QR}{n:Nat}{Q:Int×Int×Nat->QV->Prop}(hs:s.heap.IsSliceOf sl vl vu .none)(pl:Vd vl lo)(pu:Vd vu hi)
  (h:Q (((sIx n 0 lo:Nat):Int),1,sIx n n hi-sIx n 0 lo) s):QX (Q3 prog w) A (UY (.ref sl) (pure (n:Int))) Q E s:=by
 obtain⟨os,hos,hcs,hds⟩:=id hs;unfold UY XN;refine QQ (QQ (RI hos hds (x:=vl) rfl (QQ (RI hos hds (x:=vu) rfl (QQ (RI hos hds (x:=.none) rfl (QU ?_)))))));refine QQ (Xd ?_);show QX _ _ (if((1:Int) == 0)=true then _ else _) _ _ s;rw[if_neg (by decide)];refine QQ (pF pl (QQ (pF pu (QQ (QU ?_)))));show QX _ _ (match TQ lo hi 1 (n:Int)with|(lo,hi)=>pure (lo,(1:Int),S6 lo hi 1)) _ _ s;rw[xO lo hi n];show QX _ _ (pure (((sIx n 0 lo:Nat):Int),(1:Int),S6 ((sIx n 0 lo:Nat):Int) ((sIx n n hi:Nat):Int) 1)) _ _ s;rw[xE];exact QU h
theorem DK(xs:Array QR)(i k:Nat):((B' k).filterMap fun(m:Nat)=>xs[((i:Int)+(m:Int)*1).toNat]?).toArray=((xs.toList.drop i).take k).toArray:=by
 have e:(fun(m:Nat)=>xs[((i:Int)+(m:Int)*1).toNat]?)=fun m=>xs[i+m]?:=by
  funext m;have:((i:Int)+(m:Int)*1).toNat=i+m:=by lia
  rw[this]
 rw[e];have:=pick_run xs i k;rw[List.filterMap_map]at this;have e2:((fun x=>xs[x]?) ∘ fun x=>i+x)=fun m=>xs[i+m]?:=rfl;rw[e2]at this;rw[this]
theorem mE{t sl:QS}{items:Array QR}{vl vu:QR}(ht:XJ s.heap t items)(hs:s.heap.IsSliceOf sl vl vu .none)(pl:Vd vl lo)(pu:Vd vu hi)
  (hw:¬(sIx items.size 0 lo=0/\sIx items.size items.size hi=items.size))
  (h:Q (.ref s.heap.objs.size) {s with heap:=s.heap.push { cls:=.type "tuple",data:=.seq ((items.toList.drop (sIx items.size 0 lo)).take (sIx items.size items.size hi-sIx items.size 0 lo)).toArray} })
  (hsz:items.size<=sizeLine):QX (Q3 prog w) A (UO (.ref t) (.ref sl)) Q E s:=by
 have htake:sizeOk (.seq ((items.toList.drop (sIx items.size 0 lo)).take (sIx items.size items.size hi-sIx items.size 0 lo)).toArray):=by show((items.toList.drop (sIx items.size 0 lo)).take (sIx items.size items.size hi-sIx items.size 0 lo)).toArray.size<=sizeLine;rw[o_,C',K_,g_];omega
 have hj:sIx items.size items.size hi<=items.size:=HW _ _ (b_ _) hi;obtain⟨os,hos,hcs,hds⟩:=id hs;have hTs:s.TypeIs (.ref sl) "slice":=⟨os,hos,hcs⟩;unfold UO
 try with_reducible refine Rm ?_
 first|refine QQ (QU ?_)|skip
 refine QQ (wpAny_sequenceKey ht.typeIs (by decide) ?_);refine QQ (Ry (name:=RP "__getitem__") ht.typeIs Ti
  (Rz Ti ht.typeIs entry_tuple_getitem ?_ (args_tuple_getitem _ _)))
 show QX _ _ (XA (.ref t) >>= _) _ _ s;refine QQ (tupleItemsOf_ ht ?_);refine QQ (TV hTs ?_);rw[if_pos (by decide)];refine QQ (nM hs pl pu ?_);have hno:¬((((sIx items.size 0 lo:Nat):Int) == 0&&(1:Int) == 1&&(sIx items.size items.size hi-sIx items.size 0 lo) == items.size)=true):=by intro q;rw[Mc,Mc]at q;have q1:((sIx items.size 0 lo:Nat):Int)=0:=eq_of_beq q.1.1;have q2:sIx items.size items.size hi-sIx items.size 0 lo=items.size:=eq_of_beq q.2;exact hw ⟨by lia,by lia⟩
 show QX _ _ (if(((sIx items.size 0 lo:Nat):Int) == 0&&(1:Int) == 1&&(sIx items.size items.size hi-sIx items.size 0 lo) == items.size)=true then _ else _) _ _ s;rw[if_neg hno,DK]
 first
  |exact QQ (m:=Ta _) (Ri (QU ⟨_,rfl,QU h⟩) htake)
  |exact QQ (m:=Ta _) (Ri (QQ (QU (QU ⟨_,rfl,QU h⟩))) htake)
  |exact QQ (QQ (m:=Ta _) (Ri (QU (QU ⟨_,rfl,QU h⟩)) htake))
  |exact QQ (QQ (m:=Ta _) (Ri (QU ⟨_,rfl,QU h⟩) htake))
end
end HT
namespace L2
open PySem PySem.Spec PyProof.Rows
abbrev TO:=St->Hp->(Option Int->Hp->Prop)->Prop
noncomputable def PO(X:Cx)(e:Option Q9)(t:TO):Prop:=
 ∀(ac:List (QS×Obj)) (s:QV) (σ:St) (H:Hp) (Q:Option Int->Hp->Prop),Inv X ac σ H s->t σ H Q->
  QX (Q3 X.prog X.w) X.A (evalPart e X.env) (fun u s'=>∃o H',Inv X ac σ H' s'/\Vd u o/\Q o H') X.xe s
noncomputable def E6:TO:=fun _ H Q=>Q none H
noncomputable def JG(t:TE):TO:=fun σ H Q=>t σ H fun x H1=>∃i,x=.int i/\Q (some i) H1
theorem intsAre_of{ns:List Int}:∀{us:List QR},Vals (ns.map V.int) us->So us ns:=by
 induction ns with
 |nil=>intro us r;rw[Nf]at r;cases r;exact .nil
 |cons n ns ih=>
  intro us r;rw[k_]at r;cases r with
  |cons r1 r2=>
   obtain⟨t,e⟩:=r1;subst e;exact .cons n t (ih r2)
variable {us:List QR}
section
variable{X:Cx}{e:Q9}{te:TE}{lo hi:Option Q9}{tl th:TO}{pos p2:Pos}
theorem yu:PO X none E6:=by intro ac s σ H Q I h;rw[XB];exact QU ⟨none,H,I,.none,h⟩
theorem zu(h:PE X e te):PO X (some e) (JG te):=by intro ac s σ H Q I hw;rw[evalPart_some];refine thn (h ac s σ H _ I hw) ?_;rintro u s1 ⟨x,H1,I1,r1,q1⟩;obtain⟨i,rfl,q⟩:=q1;obtain⟨t,rfl⟩:=r1;exact⟨some i,H1,I1,.int i t,q⟩
def SlR(X:Cx)(r:V->Option Int->Option Int->Hp->VK->Prop):Prop:=
 ∀(ac:List (QS×Obj)) (s:QV) (σ:St) (H:Hp) (x:V) (v vl vu:QR) (lo hi:Option Int) (sl:QS) (Q:VK),Inv X ac σ H s->RelV x v->s.heap.IsSliceOf sl vl vu .none->Vd vl lo->Vd vu hi->r x lo hi H Q->
  ∃T id,WR (.type T) "__getitem__"=pure (some (.builtin id))/\s.TypeIs v T/\QX (Q3 X.prog X.w) X.A (UO v (.ref sl)) (EP X ac σ Q) X.xe s
noncomputable def tSl(r:V->Option Int->Option Int->Hp->VK->Prop)(te:TE)(tl th:TO):TE:=fun σ H Q=>te σ H fun x H1=>tl σ H1 fun l H2=>th σ H2 fun u H3=>r x l u H3 Q
theorem v9{r:V->Option Int->Option Int->Hp->VK->Prop}(hr:SlR X r)(he:PE X e te)(hl:PO X lo tl)(hu:PO X hi th):PE X (.Subscript e (.Slice lo hi none p2) pos) (tSl r te tl th):=by intro ac s σ H Q I h;refine WS (thn (he ac s σ H _ I h) ?_);rintro v s1 ⟨x,H1,I1,r1,q1⟩;refine wpAny_Slice (thn (hl ac s1 σ H1 _ I1 q1) fun vl s2 ⟨l,H2,I2,pl,q2⟩=>thn (hu ac s2 σ H2 _ I2 q2) ?_);rintro vu s3 ⟨u,H3,I3,pu,q3⟩;rw[XB];refine QU ?_;have I4:Inv X ac σ H3 {s3 with heap:=s3.heap.push { cls:=.type "slice",data:=.fields #[vl,vu,.none] } }:=I3.kept (t':=s3.toks) fun b ob q=>QW _ q;obtain⟨T,id,hT,ht,hg⟩:=hr ac {s3 with heap:=s3.heap.push { cls:=.type "slice",data:=.fields #[vl,vu,.none] } } σ H3 x v vl vu l u s3.heap.objs.size Q I4 r1 (YE ..) pl pu q3;show QX (Q3 X.prog X.w) X.A (Ur e (.Slice lo hi none p2) v (.ref s3.heap.objs.size)) (EP X ac σ Q) X.xe {s3 with heap:=s3.heap.push { cls:=.type "slice",data:=.fields #[vl,vu,.none] } };exact tail_any (ops:=[.ref s3.heap.objs.size,v]) ht hT hg (by with_unfolding_all rfl)
def iV(xs:List V)(lo hi:Option Int):List V:=(xs.drop (HT.sIx xs.length 0 lo)).take (HT.sIx xs.length xs.length hi-HT.sIx xs.length 0 lo)
theorem oF(xs:List V)(lo hi:Option Int):(iV xs lo hi).length<=xs.length:=by unfold iV;rw[C',K_];lia
def LN(K:QT):V->Option Int->Option Int->Hp->VK->Prop:=fun x lo hi H Q=>∃a xs,x=.ref a/\SqT K H a xs/\
 ¬(HT.sIx xs.length 0 lo=0/\HT.sIx xs.length xs.length hi=xs.length)/\∀p,H p=none->Q (.ref p) (upd H p (.tup (iV xs lo hi)))
theorem IC:SlR X (LN X.K):=by
 intro ac s σ H x v vl vu lo hi sl Q I rx hs pl pu h;obtain⟨a,xs,rfl,hx,hw,q⟩:=h;cases rx;obtain⟨its,r,ht,hz⟩:=I.tuple hx;have hlen:its.toArray.size=xs.length:=by rw[o_];exact r.length.symm
 refine⟨"tuple",_,Ti.lookup,ht.typeIs,?_⟩;refine HT.mE ht hs pl pu (by rw[hlen];exact hw) ?_ (by rw[hlen];exact hz);rw[hlen];refine⟨.ref s.heap.objs.size,_,I.laid (t':=s.toks) (o:=.tup (iV xs lo hi)) (fun b ob q=>QW _ q) (b_ _) ?_,rfl,q _ (I.hok.fresh (b_ _))⟩;exact⟨m_ (oF xs lo hi) hz,_,(r.drop (HT.sIx xs.length 0 lo)).take (HT.sIx xs.length xs.length hi-HT.sIx xs.length 0 lo),Xt _ _⟩
def K5(K:QT):R2:=fun x y H Q=>∃a b xs ys,x=.ref a/\y=.ref b/\SqT K H a xs/\SqT K H b ys/\xs≠[]/\xs.length+ys.length<=sizeLine/\
 (ys=[]->Q (.ref a) H)/\(ys≠[]->∀p,H p=none->Q (.ref p) (upd H p (.tup (xs++ys))))
theorem Vals.tI {xs:List V}(r:Vals xs us):us=[]↔xs=[]:=by
 cases r with
 |nil=>simp
 |cons _ _=>simp
theorem Eb:OpR X (Si .Add) (K5 X.K):=by intro ac s σ H x y v u Q I rx ry h;obtain⟨a,b,xs,ys,rfl,rfl,ha,hb,hx,hz,q1,q2⟩:=h;cases rx;cases ry;obtain⟨its,r1,p1,_⟩:=I.tuple ha;obtain⟨its2,r2,p2,_⟩:=I.tuple hb;refine HT.EF p1 p2 (fun z=>hx (r1.tI.mp z)) (fun z=>⟨.ref a,H,I,rfl,q1 (r2.tI.mp z)⟩) (fun z=>?_) (by rw[<-r1.length,<-r2.length];exact hz);refine⟨.ref s.heap.objs.size,_,I.laid (t':=s.toks) (o:=.tup (xs++ys)) (fun b ob q=>QW _ q) (b_ _) ?_,rfl,q2 (fun w=>z (r2.tI.mpr w)) _ (I.hok.fresh (b_ _))⟩;exact⟨by rw[e_];exact hz,_,r1.append r2,Xt _ _⟩
theorem oK:bE X (.type "tuple") (fun xs H Q=>∃a ys,xs=[.ref a]/\SqT X.K H a ys/\Q (.ref a) H):=by intro ac s σ H xs us Q I r h;obtain⟨a,ys,rfl,ha,q⟩:=h;obtain⟨u,rfl,ru⟩:=vals1 r;cases ru;obtain⟨its,_,p1,_⟩:=I.tuple ha;exact WT (items:=its.toArray) p1 ⟨.ref a,H,I,rfl,q⟩
end
noncomputable def ixN(n:Nat)(i:Int):Option Nat:=if 0<=i then(if i<n then some i.toNat else none)else if -(n:Int)<=i then some (i+n).toNat else none
variable {α:Type}
def atI(xs:List α)(i:Int):Option α:=(ixN xs.length i).bind fun j=>xs[j]?
variable {n:Nat}
theorem ud{i:Int}{j:Nat}(h:ixN n i=some j):seqIndex? i n=some j/\j<n/\-(n:Int)<=i/\i<n:=by
 unfold ixN at h;by_cases h0:0<=i
 ·rw[if_pos h0]at h;by_cases h1:i<n
  ·rw[if_pos h1]at h;have e:i.toNat=j:=H_ h;exact⟨by rw[Ww h0 h1,e],by lia,by lia,h1⟩
  rw[if_neg h1]at h;cases h
 rw[if_neg h0]at h;by_cases h1:-(n:Int)<=i
 ·rw[if_pos h1]at h;have e:(i+n).toNat=j:=H_ h;exact⟨by rw[Wg (by lia) h1,e],by lia,h1,by lia⟩
 rw[if_neg h1]at h;cases h
theorem tj{xs:List α}{i:Int}{v:α}(h:atI xs i=some v):∃j,seqIndex? i xs.length=some j/\xs[j]?=some v/\j<xs.length/\-(xs.length:Int)<=i/\i<xs.length:=by
 unfold atI at h;cases e:ixN xs.length i with
 |none=>rw[e]at h;cases h
 |some j=>
  rw[e]at h;obtain⟨h1,h2,h3,h4⟩:=ud e;exact⟨j,h1,h,h2,h3,h4⟩
theorem cH{xs:List α}{j:Nat}{v:α}(h:xs[j]?=some v):atI xs (j:Int)=some v:=by
 have hj:j<xs.length:=(c_.mp h).1;have e:ixN xs.length (j:Int)=some j:=by unfold ixN;rw[if_pos (by lia),if_pos (by lia)];simp
 unfold atI;rw[e];exact h
noncomputable def zV(b:Q9):Prop:=∀o i,US b false o i=Yp [o,i] (UO o i)
def IxR(X:Cx)(r:R2):Prop:=
 ∀(value slice:Q9) (ac:List (QS×Obj)) (s:QV) (σ:St) (H:Hp) (x y:V) (v u:QR) (Q:VK),Inv X ac σ H s->RelV x v->RelV y u->r x y H Q->
  US slice false v u=Yp [v,u] (UO v u)->QX (Q3 X.prog X.w) X.A (Ur value slice v u) (EP X ac σ Q) X.xe s
def MtR(X:Cx)(id:String)(r:V->List V->Hp->VK->Prop):Prop:=
 ∀(ac:List (QS×Obj)) (s:QV) (σ:St) (H:Hp) (x:V) (xs:List V) (v:QR) (us:List QR) (Q:VK),Inv X ac σ H s->RelV x v->Vals xs us->r x xs H Q->
  QX (Q3 X.prog X.w) X.A (call (.builtin id) (v::us)) (EP X ac σ Q) X.xe s
variable {H:Hp}{its its':List QR}{ac:List (QS×Obj)}{s:QV}{σ:St}
section
variable{X:Cx}{a b:Q9}{ta tb:TE}{pos:Pos}
theorem IxR.or {r r':R2}(h:IxR X r)(h':IxR X r'):IxR X (fun x y H Q=>r x y H Q\/r' x y H Q):=by
 intro value slice ac s σ H x y v u Q I rx ry q hs;rcases q with q|q
 ·exact h value slice ac s σ H x y v u Q I rx ry q hs
 exact h' value slice ac s σ H x y v u Q I rx ry q hs
theorem Gq{r:R2}(hr:IxR X r)(ha:PE X a ta)(hb:PE X b tb)(hs:zV b):PE X (.Subscript a b pos) (tOp r ta tb):=by intro ac s σ H Q I h;exact WS (J3 ha hb I h fun v u s2 x y H2 I2 rx ry q=>hr a b ac s2 σ H2 x y v u Q I2 rx ry q (hs _ _))
def Jz(K:QT):R2:=fun x y H Q=>∃p xs i v,x=.ref p/\y=.int i/\SqL K H p xs/\atI xs i=some v/\Q v H
def Jm(K:QT):R2:=fun x y H Q=>∃p xs i v,x=.ref p/\y=.int i/\SqT K H p xs/\atI xs i=some v/\Q v H
def Je:R2:=fun x y H Q=>∃z i c,x=.str z/\y=.int i/\z.length<=sizeLine/\atI z.cps.toList i=some c/\Q (.str ⟨#[c]⟩) H
theorem yC:IxR X (Jz X.K):=by
 intro value slice ac s σ H x y v u Q I rx ry h hs;obtain⟨p,xs,i,z,rfl,rfl,hq,he,q⟩:=h;cases rx;obtain⟨t,rfl⟩:=ry;obtain⟨its,r,pl,hz⟩:=I.list hq;obtain⟨j,h1,h2,h3,h4,h5⟩:=tj he;obtain⟨w,ew,rw'⟩:=r.get h2;have hl:=r.length;have hn:=lQ;have fin:EP X ac σ Q w s:=⟨z,H,I,rw',q⟩;by_cases h0:0<=i
 ·have hj:i.toNat=j:=by rw[Ww h0 h5]at h1;exact H_ h1
  exact item_listR pl.isList h0 (by lia) (by rw[hj];simpa using ew) fin hs
 have hj:(i+(its.toArray.size:Int)).toNat=j:=by rw[Wg (by lia) h4]at h1;rw[o_,<-hl];exact H_ h1
 exact VB (x:=w) pl.isList.typeIs slot_list_getitem.lookup
  (wpAny_getItem_list_neg (Q:=fun r s'=>r=w/\EP X ac σ Q r s') pl.isList (by lia) (by rw[o_] <;> lia) (by lia) (by rw[hj];simpa using ew) ⟨rfl,fin⟩) hs
theorem HV:IxR X (Jm X.K):=by
 intro value slice ac s σ H x y v u Q I rx ry h hs;obtain⟨p,xs,i,z,rfl,rfl,hq,he,q⟩:=h;cases rx;obtain⟨t,rfl⟩:=ry;obtain⟨its,r,pl,hz⟩:=I.tuple hq;obtain⟨j,h1,h2,h3,h4,h5⟩:=tj he;obtain⟨w,ew,rw'⟩:=r.get h2;have hl:=r.length;have hn:=lQ;have fin:EP X ac σ Q w s:=⟨z,H,I,rw',q⟩;exact VB (x:=w) pl.typeIs slot_tuple_getitem.lookup
  (getItem_tuple (j:=j) (Q:=fun r s'=>r=w/\EP X ac σ Q r s') pl (by lia) (by lia) (by rw[o_,<-hl];exact h1) (by simpa using ew) ⟨rfl,fin⟩) hs
theorem CZ:IxR X Je:=by
 intro value slice ac s σ H x y v u Q I rx ry h hs;obtain⟨z,i,c,rfl,rfl,hz,he,q⟩:=h;obtain⟨t,rfl⟩:=rx;obtain⟨t',rfl⟩:=ry;obtain⟨j,h1,h2,h3,h4,h5⟩:=tj he;have hl:z.cps.toList.length=z.length:=by simp[Str.length]
 rw[hl]at h1 h4 h5;have hn:=lQ;exact tail_any (typeIs_str s z t) slot_str_getitem.lookup (getItem_str (c:=c) (by have e1:decide (i < -(2 ^ 63:Int))=false:=decide_eq_false (by lia);have e2:decide (i>=2 ^ 63)=false:=decide_eq_false (by lia);rw[e1,e2,Qu]) (by rw[h1];simpa using h2) ⟨.str ⟨#[c]⟩,H,I.tok _,⟨_,rfl⟩,q⟩) hs
def rIx(K:QT):R2:=fun x y H Q=>Jz K x y H Q\/Jm K x y H Q\/Je x y H Q
theorem Ik:IxR X (rIx X.K):=yC.or (HV.or CZ)
theorem xC(its:List QR)(n j:Nat)(u:QR):Rf (·.setIfInBounds j u) { cls:=.type "list",data:=.seq its.toArray n}={ cls:=.type "list",data:=.seq (its.set j u).toArray n}:=by simp[Rf]
theorem Inv.lst {ac:List (QS×Obj)}{σ:St}{H:Hp}{s:QV}{p:QS}{xs:List V}(I:Inv X ac σ H s)(h:H p=some (.lst xs)) :
  ∃(its:List QR) (n:Nat),Vals xs its/\s.heap.get? p=some { cls:=.type "list",data:=.seq its.toArray n}/\xs.length<=sizeLine:=by
 obtain⟨z,its,n,r,e⟩:=I.hok p _ h;exact⟨its,n,r,e,z⟩
theorem Inv.IJ {p:QS}{xs ys:List V}{n':Nat}{f:Obj->Obj}(I:Inv X ac σ H s)(h:H p=some (.lst xs))
  (ho:s.heap.get? p=some { cls:=.type "list",data:=.seq its.toArray n}) (hf:f { cls:=.type "list",data:=.seq its.toArray n}={ cls:=.type "list",data:=.seq its'.toArray n'}) (r:Vals ys its') (hz:ys.length<=sizeLine) (t:Nat) :
  Inv X ac σ (upd H p (.lst ys)) {s with heap:=s.heap.update p f,toks:=t}:=by
 have e:(s.heap.update p f).get? p=some { cls:=.type "list",data:=.seq its'.toArray n'}:=by rw[Rr f ho (by rw[hf] <;> rfl),hf]
 refine I.write (x:=p) (e:=p) (by rw[h];trivial) (.inl rfl) (fun b u hb q=>(RV _ _ (SK hb)).trans q) ⟨_,e⟩ ?_;exact⟨hz,its',n',r,e⟩
def Kc:V->V->V->Hp->(Hp->Prop)->Prop:=fun o i v H Q=>∃p xs k j,o=.ref p/\i=.int k/\H p=some (.lst xs)/\ixN xs.length k=some j/\Q (upd H p (.lst (xs.set j v)))
theorem set_list:xn X Kc:=by
 intro ac s σ H o i v ov iv u Q I ro ri rv h;obtain⟨p,xs,k,j,rfl,rfl,hp,hj,q⟩:=h;cases ro;obtain⟨t,rfl⟩:=ri;obtain⟨its,n,r,ho,hz⟩:=I.lst hp;obtain⟨h1,h2,h3,h4⟩:=ud hj;have hl:=r.length;have hn:=lQ;have I':Inv X ac σ (upd H p (.lst (xs.set j v))) {s with heap:=s.heap.update p (Rf (·.setIfInBounds j u)) }:=
  I.IJ hp ho (xC its n j u) (r.set rv j) (by rw[LX];exact hz) s.toks
 by_cases h0:0<=k
 ·have hk:k.toNat=j:=by rw[Ww h0 h4]at h1;exact H_ h1
  exact PySem.W.ki_setAt ho h0 (by lia) (by rw[o_,<-hl];exact h4) (by rw[hk];exact⟨_,I',q⟩)
 have hk:(k+(its.toArray.size:Int)).toNat=j:=by rw[Wg (by lia) h3]at h1;rw[o_,<-hl];exact H_ h1
 exact PySem.W.ki_setBack ho (by lia) (by rw[o_,<-hl];exact h3) (by lia) (by rw[hk];exact⟨_,I',q⟩)
theorem uM(lo hi:Option Int)(n:Nat):(TL lo hi none n).1=((HT.sIx n 0 lo:Nat):Int)/\(TL lo hi none n).2.1=((HT.sIx n n hi:Nat):Int)/\(TL lo hi none n).2.2=1:=by
 refine⟨?_,?_,rfl⟩
 ·cases lo with
  |none=>simp[TL,HT.sIx]
  |some i=>
   simp only[TL,HT.sIx,Qa,show(1:Int) > 0 by decide,if_true];by_cases h:i<0
   ·simp only[h,if_true] <;> lia
   simp only[h,if_false] <;> lia
 cases hi with
 |none=>simp[TL,HT.sIx]
 |some i=>
  simp only[TL,HT.sIx,Qa,show(1:Int) > 0 by decide,if_true];by_cases h:i<0
  ·simp only[h,if_true] <;> lia
  simp only[h,if_false] <;> lia
theorem rj(its:List QR)(lo hi:Option Int):slicePick its.toArray lo hi none=((its.drop (HT.sIx its.length 0 lo)).take (HT.sIx its.length its.length hi-HT.sIx its.length 0 lo)).toArray:=by obtain⟨h1,h2,h3⟩:=uM lo hi its.toArray.size;unfold slicePick;rw[h1,h2,h3];simp only[sliceRange_one,pick_run,o_] <;> rfl
def Lv(K:QT):V->Option Int->Option Int->Hp->VK->Prop:=fun x lo hi H Q=>∃a xs,x=.ref a/\SqL K H a xs/\∀p,H p=none->Q (.ref p) (upd H p (.lst (iV xs lo hi)))
theorem yQ:SlR X (Lv X.K):=by intro ac s σ H x v vl vu lo hi sl Q I rx hs pl pu h;obtain⟨a,xs,rfl,hx,q⟩:=h;cases rx;obtain⟨its,r,ht,hz⟩:=I.list hx;have hlen:=r.length;refine⟨"list",_,slot_list_getitem.lookup,ht.isList.typeIs,?_⟩;refine wpAny_getItem_list_slice ht.isList hs pl pu .none (by simp) ?_ (by rw[o_] <;> lia);rw[rj,<-hlen];refine⟨.ref s.heap.objs.size,_,I.laid (t':=s.toks) (o:=.lst (iV xs lo hi)) (fun b ob q=>QW _ q) (b_ _) ?_,rfl,q _ (I.hok.fresh (b_ _))⟩;exact⟨m_ (oF xs lo hi) hz,_,0,(r.drop (HT.sIx xs.length 0 lo)).take (HT.sIx xs.length xs.length hi-HT.sIx xs.length 0 lo),Q0 _ rfl⟩
theorem mD:bE X (.builtin "len") (fun xs H Q=>∃p ys,xs=[.ref p]/\(SqL X.K H p ys\/SqT X.K H p ys)/\Q (.int ys.length) H):=by
 intro ac s σ H xs us Q I r h;obtain⟨p,ys,rfl,hq,q⟩:=h;obtain⟨u,rfl,rx⟩:=vals1 r;cases rx;have hn:=lQ;rcases hq with hq|hq
 ·obtain⟨its,r',pl,hz⟩:=I.list hq;have hlen:=r'.length;exact Calls.call_len_list pl.isList (by simp only[o_] <;> lia) ⟨.int ys.length,H,I.tok _,⟨s.toks+1,by rw[o_,hlen]⟩,q⟩
 obtain⟨its,r',pl,hz⟩:=I.tuple hq;have hlen:=r'.length;exact len_tuple pl (by simp only[o_] <;> lia) ⟨.int ys.length,H,I.tok _,⟨s.toks+1,by rw[o_,hlen]⟩,q⟩
theorem tH:bE X (.builtin "len") (fun xs H Q=>∃z,xs=[.str z]/\z.length<=sizeLine/\Q (.int z.length) H):=by intro ac s σ H xs us Q I r h;obtain⟨z,rfl,hz,q⟩:=h;obtain⟨u,rfl,t,rfl⟩:=vals1 r;have hn:=lQ;exact len_str (by lia) ⟨.int z.length,H,I.tok _,⟨_,rfl⟩,q⟩
theorem tT:bE X (.type "list") (fun xs H Q=>∃p ys,xs=[.ref p]/\(SqL X.K H p ys\/SqT X.K H p ys)/\∀l,H l=none->Q (.ref l) (upd H l (.lst ys))):=by
 intro ac s σ H xs us Q I r h;obtain⟨p,ys,rfl,hq,q⟩:=h;obtain⟨u,rfl,rx⟩:=vals1 r;cases rx;have fin:∀(its:List QR),Vals ys its->ys.length<=sizeLine->∀(h':Q_) (c':Nat),(∀b o',s.heap.get? b=some o'->h'.get? b=some o')->
   h'.get? s.heap.objs.size=some { cls:=.type "list",dict:=none,data:=.seq its.toArray c',slots:=#[] }->EP X ac σ Q (.ref s.heap.objs.size) {s with heap:=h'}:=fun its r' hz h' c' kp e=>
  ⟨.ref s.heap.objs.size,_,I.laid (t':=s.toks) kp (b_ _) (show b6 X.prog X.w _ h' _ (.lst ys)from⟨hz,its,c',r',e⟩),rfl,q _ (I.hok.fresh (b_ _))⟩
 rcases hq with hq|hq
 ·obtain⟨its,r',pl,hz⟩:=I.list hq;have hlen:=r'.length;obtain⟨o,ho,hc,n,hd⟩:=pl.isList;exact XC p (.inl rfl) ho hc hd (fun h' c' kp e=>fin its r' hz h' c' kp e) (by simp only[o_] <;> lia)
 obtain⟨its,r',pl,hz⟩:=I.tuple hq;have hlen:=r'.length;obtain⟨o,ho,hc,n,hd⟩:=pl;exact XC p (.inr rfl) ho hc hd (fun h' c' kp e=>fin its r' hz h' c' kp e) (by simp only[o_] <;> lia)
theorem rg:bE X (.type "tuple") (fun xs H Q=>∃p ys,xs=[.ref p]/\((SqL X.K H p ys/\∀l,H l=none->Q (.ref l) (upd H l (.tup ys)))\/(SqT X.K H p ys/\Q (.ref p) H))):=by
 intro ac s σ H xs us Q I r h;obtain⟨p,ys,rfl,h⟩:=h;obtain⟨u,rfl,rx⟩:=vals1 r;cases rx;rcases h with⟨hq,q⟩|⟨hq,q⟩
 ·obtain⟨its,r',pl,hz⟩:=I.list hq;have hlen:=r'.length;refine call_tuple_list pl.isList (fun h' kp=>?_) (by simp only[o_] <;> lia);have I1:Inv X ac σ H {s with heap:=h'}:=I.kept (t':=s.toks) kp;have I2:Inv X ac σ (upd H h'.objs.size (.tup ys)) {s with heap:=h'.push { cls:=.type "tuple",data:=.seq its.toArray} }:=
   I1.laid (t':=s.toks) (fun b o e=>QW _ e) (b_ _) (show b6 X.prog X.w _ _ _ (.tup ys)from⟨hz,its,r',Xt _ _⟩)
  exact⟨.ref h'.objs.size,_,I2,rfl,q _ (I1.hok.fresh (b_ _))⟩
 obtain⟨its,r',pl,hz⟩:=I.tuple hq;exact WT pl ⟨.ref p,H,I,rfl,q⟩
def tyV(K:QT)(T:String)(x:V)(H:Hp):Prop:=match x with
 | .str _=>T="str"
 | .int _=>T="int"
 | .ref p=>(T="list"/\∃xs,SqL K H p xs)\/(T="tuple"/\∃o,K.lookup p=some o/\o.cls=.type "tuple"/\o.dict=none)\/
   (T="dict"/\((∃kvs,H p=some (.dK kvs))\/∃kvs,H p=some (.dT kvs)))\/(T="set"/\∃S n,H p=some (.set S n))
 | _=>False
theorem C3{T:String}{x:V}{v:QR}(I:Inv X ac σ H s)(r:RelV x v)(ty:tyV X.K T x H) :
  s.TypeIs v T/\∀a,v=.ref a->∃ob,s.heap.get? a=some ob/\ob.dict=none:=by
 cases x with
 |str z=>
  obtain⟨t,rfl⟩:=r;cases (show T="str" from ty);exact⟨typeIs_str s z t,fun _ e=>nomatch e⟩
 |int i=>
  obtain⟨t,rfl⟩:=r;cases (show T="int" from ty);exact⟨typeIs_int s i t,fun _ e=>nomatch e⟩
 |ref p=>
  cases r;rcases ty with⟨rfl,xs,hq⟩|⟨rfl,o,hk,hc,hd⟩|⟨rfl,hk⟩|⟨rfl,S,n,hk⟩
  ·obtain⟨its,_,pl,_⟩:=I.list hq;refine⟨pl.isList.typeIs,fun a e=>?_⟩;cases e;obtain⟨o,n,e,c,hd,_⟩:=pl;exact⟨o,e,hd⟩
  ·refine⟨⟨o,I.kIn p o hk,hc⟩,fun a e=>?_⟩;cases e;exact⟨o,I.kIn _ o hk,hd⟩
  ·have z:∃o,s.heap.get? p=some o/\o.ExactDict:=by
    rcases hk with⟨kvs,hk⟩|⟨kvs,hk⟩
    ·obtain⟨_,_,_,_,o,_,_,e,ex,_⟩:=I.hok p _ hk;exact⟨o,e,ex⟩
    obtain⟨_,_,_,_,o,_,_,e,ex,_⟩:=I.hok p _ hk;exact⟨o,e,ex⟩
   obtain⟨o,e,ex⟩:=z;refine⟨⟨o,e,ex.1⟩,fun a e2=>?_⟩;cases e2;exact⟨o,e,ex.2.1⟩
  ·obtain⟨o,_,_,_,e,ex,_⟩:=I.hok p _ hk;refine⟨⟨o,e,ex.1⟩,fun a e2=>?_⟩;cases e2;exact⟨o,e,ex.2.1⟩
 | _=>exact Rb ty
def LB(K:QT)(T:String)(r:V->List V->Hp->VK->Prop)(to:TE):TE:=fun σ H Q=>to σ H fun x H1=>tyV K T x H1/\r x [] H1 Q
def tBM(K:QT)(T:String)(r:V->List V->Hp->VK->Prop)(to:TE)(t:TA):TE:=fun σ H Q=>to σ H fun x H1=>tyV K T x H1/\t σ H1 fun xs H2=>r x xs H2 Q
variable{o e:Q9}{es:List Q9}{to:TE}{t:TA}{name:Str}{apos cpos:Pos}{T id:String}{r:V->List V->Hp->VK->Prop}
theorem Bj(pa:PlainAttrs T)(slot:Xe T name id)(hty:WU (.builtin id)=pure (.type "method_descriptor"))(hm:MtR X id r)(ho:PE X o to)
  (hbase:TC o name X.env (Rw o X.env)=Rw o X.env:=by rfl) (hline:(apos.endLine == cpos.line)=true:=by rfl):PE X (.Call (.Attribute o name apos) [] [] cpos) (LB X.K T r to):=by
 intro ac s σ H Q I h;refine Vk hbase hline (thn (ho ac s σ H _ I h) ?_);rintro v s1 ⟨x,H1,I1,r1,ty,q1⟩;obtain⟨h1,h2⟩:=C3 I1 r1 ty;exact⟨T,id,pa,slot,hty,h1,h2,Uj rfl (V7 (hm ac s1 σ H1 x [] v [] Q I1 r1 .nil q1))⟩
theorem JB(pa:PlainAttrs T)(slot:Xe T name id)(hty:WU (.builtin id)=pure (.type "method_descriptor"))(hm:MtR X id r)(ho:PE X o to)(ha:PA X (e::es) t)
  (hbase:TC o name X.env (Rw o X.env)=Rw o X.env:=by rfl)
  (hfew:((Tv cpos (Ra (e::es) X.env)).all (fun x=>!x.1)&&(backToKw cpos (Yh [] X.env)).all (fun x=>x.1.isSome)
   && decide ((e::es).length+([]:List Xf).length+(if([]:List Xf).isEmpty then 0 else 1)<30))=true:=by rfl)
  (hline:(apos.endLine == cpos.line)=true:=by rfl) (hs:Ra (e::es) X.env=(false,Rw e X.env)::Ra es X.env:=by rfl) (hplain:(Tv cpos (Ra es X.env)).any (·.1)=false:=by rfl) :
  PE X (.Call (.Attribute o name apos) (e::es) [] cpos) (tBM X.K T r to t):=by
 intro ac s σ H Q I h;refine wpAny_Call_method_late hbase hfew hline rfl (thn (ho ac s σ H _ I h) ?_);rintro v s1 ⟨x,H1,I1,r1,ty,q1⟩;obtain⟨h1,h2⟩:=C3 I1 r1 ty;refine⟨T,id,pa,slot,hty,h1,h2,?_⟩;have hA:=ha cpos ac s1 σ H1 _ I1 q1;rw[hs]at hA ⊢;refine Uj (by show(false || (Tv cpos (Ra es X.env)).any (·.1))=false;rw[hplain] <;> rfl) (Calls.evalArgs_plain ?_);exact thn hA fun us s2 ⟨vs,H2,I2,r2,q2⟩=>hm ac s2 σ H2 x vs v us Q I2 r1 r2 q2
end
def MtM(X:Cx)(id:String)(r:V->List V->Hp->VK->Prop):Prop:=
 ∀(ac:List (QS×Obj)) (s:QV) (σ:St) (H:Hp) (x:V) (xs:List V) (v:QR) (us:List QR) (Q:VK),Inv X ac σ H s->RelV x v->Vals xs us->r x xs H Q->
  QX (Q3 X.prog X.w) X.A (call (.builtin id) (v::us)) (EP X ac σ Q) X.xe s
theorem Vals.one:∀{x:V}{us:List QR},Vals [x] us->∃u,us=[u]/\RelV x u:=by
 intro x us h;cases h with
 |cons r t=>cases t;exact⟨_,rfl,r⟩
theorem Vals.two:∀{x y:V}{us:List QR},Vals [x,y] us->∃u v,us=[u,v]/\RelV x u/\RelV y v:=by
 intro x y us h;cases h with
 |cons r h=>
  cases h with
  |cons q h=>cases h;exact⟨_,_,rfl,r,q⟩
theorem Vals.zero:∀{us:List QR},Vals [] us->us=[]
 | _,.nil=>rfl
theorem Vals.dropLast {xs:List V}(h:Vals xs us):Vals xs.dropLast us.dropLast:=by
 induction h with
 |nil=>exact .nil
 |cons r t ih=>
  cases t with
  |nil=>exact .nil
  |cons q t'=>exact .cons r ih
theorem xv(l:List α):l.eraseIdx (l.length-1)=l.dropLast:=by
 induction l with
 |nil=>rfl
 |cons a r ih=>
  cases r with
  |nil=>rfl
  |cons b r=>
   have e:(a::b::r).length-1=((b::r).length-1)+1:=by have h1:(a::b::r).length=r.length+2:=rfl;have h2:(b::r).length=r.length+1:=rfl;lia
   rw[e,List.eraseIdx_cons_succ,ih]
   all_goals rfl
variable {t':Nat}
section
variable{X:Cx}{ac:List (QS×Obj)}{σ:St}{H:Hp}{s:QV}{l b:QS}{xs ys zs:List V}
theorem Inv.Eg {f:Array QR->Array QR}(I:Inv X ac σ H s)(hH:H l=some (.lst xs))
  (e:s.heap.get? l=some { cls:=.type "list",data:=.seq its.toArray n}) (hf:f its.toArray=its'.toArray) (hv:Vals ys its') (hz:ys.length<=sizeLine) :
  Inv X ac σ (upd H l (.lst ys)) {s with heap:=s.heap.update l (Rf f),toks:=t'}:=by
 have q:=YR e f;rw[hf]at q;refine I.write (x:=l) (e:=l) (by rw[hH];exact trivial) (.inl rfl) (fun b' u hb hu=>(RV s.heap (Rf f) (SK hb)).trans hu) ⟨_,q⟩ ?_;exact⟨hz,its',_,hv,q⟩
theorem Inv.LJ (I:Inv X ac σ H s)(hv:Vals ys its)(hz:ys.length<=sizeLine) :
  Inv X ac σ (upd H s.heap.objs.size (.lst ys)) {s with heap:=s.heap.push { cls:=.type "list",data:=.seq its.toArray},toks:=t'}:=
 I.laid (fun _ _ q=>QW _ q) (b_ _) ⟨hz,its,0,hv,Q0 _ rfl⟩
theorem Inv.fresh (I:Inv X ac σ H s):H s.heap.objs.size=none:=I.hok.fresh (b_ _)
theorem Inv.Di (I:Inv X ac σ H s)(hH:H l=some (.lst xs)):xs.length<=sizeLine/\∃(its:List QR) (n:Nat),Vals xs its/\xs.length=its.length/\s.heap.get? l=some { cls:=.type "list",data:=.seq its.toArray n}:=by obtain⟨z,its,n,r,e⟩:=I.hok l _ hH;exact⟨z,its,n,r,r.length,e⟩
theorem Dm(h:n<=sizeLine):TY n=false:=by unfold TY;exact decide_eq_false (by lia)
end
section
variable{X:Cx}
def Fs:V->List V->Hp->VK->Prop:=fun x vs H Q=>∃l xs y,x=.ref l/\vs=[y]/\H l=some (.lst xs)/\xs.length<sizeLine/\Q .non (upd H l (.lst (xs++[y])))
theorem nr:MtM X "list.append" Fs:=by intro ac s σ H x vs v us Q I rx rv h;obtain⟨l,xs,y,rfl,rfl,hH,hz,q⟩:=h;cases rx;obtain⟨u,rfl,ru⟩:=rv.one;obtain⟨z,its,n,r,hl,e⟩:=I.Di hH;refine U7 F.slot_list_append ⟨_,e,rfl⟩ F.entry_list_append (F.args_list_append_2 _ _) (PySem.list_append l its.toArray n u (by rw[o_];lia)) ⟨e,?_⟩;refine⟨.non,_,I.Eg (its':=its++[u]) hH e (by simp) (r.append (.cons ru .nil)) ?_,rfl,q⟩;rw[e_,Pg];lia
def Fd:V->List V->Hp->VK->Prop:=fun x vs H Q=>∃l b xs zs,x=.ref l/\vs=[.ref b]/\H l=some (.lst xs)/\H b=some (.lst zs)/\xs.length+zs.length<=sizeLine/\Q .non (upd H l (.lst (xs++zs)))
theorem Au:MtM X "list.extend" Fd:=by
 intro ac s σ H x vs v us Q I rx rv h;obtain⟨l,b,xs,zs,rfl,rfl,hH,hB,hz,q⟩:=h;cases rx;obtain⟨u,rfl,ru⟩:=rv.one;cases ru;obtain⟨z,its,n,r,hl,e⟩:=I.Di hH;obtain⟨z2,its2,n2,r2,hl2,e2⟩:=I.Di hB;have hsz:its.toArray.size+its2.toArray.size<=sizeLine:=by rw[o_,o_];lia
 have hlong:¬(!its.toArray.isEmpty&&TY (its.toArray.size+its2.toArray.size))=true:=by rw[Dm hsz,Bool.and_false];exact LY
 refine U7 F.slot_list_extend ⟨_,e,rfl⟩ F.entry_list_extend (F.args_list_extend_2 _ _)
  (WC l its.toArray n b its2.toArray n2 hlong (by rw[o_];lia) (by lia)) ⟨e,e2,?_⟩
 refine⟨.non,_,I.Eg (its':=its++its2) hH e (by simp) (r.append r2) ?_,rfl,q⟩;rw[e_];omega
def LH:V->List V->Hp->VK->Prop:=fun x vs H Q=>∃l xs y,x=.ref l/\vs=[]/\H l=some (.lst xs)/\xs[xs.length-1]?=some y/\Q y (upd H l (.lst xs.dropLast))
theorem HC:MtM X "list.pop" LH:=by
 intro ac s σ H x vs v us Q I rx rv h;obtain⟨l,xs,y,rfl,rfl,hH,hy,q⟩:=h;cases rx;have hus:=rv.zero;subst hus;obtain⟨z,its,n,r,hl,e⟩:=I.Di hH;obtain⟨u,hu,ru⟩:=r.get hy;have hy':its.toArray[its.toArray.size-1]?=some u:=by show its.toArray[its.length-1]?=some u;rw[<-gV,<-hl];exact hu
 refine U7 F.slot_list_pop ⟨_,e,rfl⟩ F.entry_list_pop (F.args_list_pop_1 _) (Yi l its.toArray n u hy' (by rw[o_];lia)) ⟨e,?_⟩;refine⟨y,_,I.Eg (its':=its.dropLast) hH e ?_ r.dropLast ?_,ru,q⟩
 ·show its.toArray.eraseIdxIfInBounds (its.toArray.size-1)=its.dropLast.toArray;rw[o_,List.eraseIdxIfInBounds_toArray,xv]
 rw[Na];lia
def J6:V->List V->Hp->VK->Prop:=fun x vs H Q=>∃l xs,x=.ref l/\vs=[]/\H l=some (.lst xs)/\Q .non (upd H l (.lst []))
theorem Bk:MtM X "list.clear" J6:=by intro ac s σ H x vs v us Q I rx rv h;obtain⟨l,xs,rfl,rfl,hH,q⟩:=h;cases rx;have hus:=rv.zero;subst hus;obtain⟨z,its,n,r,hl,e⟩:=I.Di hH;refine U7 F.slot_list_clear ⟨_,e,rfl⟩ F.entry_list_clear (F.args_list_clear_1 _) (XD l its.toArray n (by rw[o_];lia)) ⟨e,?_⟩;exact⟨.non,_,I.Eg (its':=[]) (ys:=[]) hH e rfl .nil (E_ _),rfl,q⟩
end
variable {o:Option V}{u:QR}{y:V}
section
variable{κ:Type}[DecidableEq κ]
noncomputable def eT(kvs:List (κ×V))(k:κ):Option V:=(kvs.find? fun kv=>decide (kv.1=k)).map (·.2)
noncomputable def putK(kvs:List (κ×V))(k:κ)(v:V):List (κ×V):=
 if(kvs.any fun kv=>decide (kv.1=k))=true then kvs.map (fun kv=>if kv.1=k then(kv.1,v)else kv)else kvs++[(k,v)]
theorem qe{p:κ×V}{r:List (κ×V)}{k:κ}(e:p.1=k):eT (p::r) k=some p.2:=by simp[eT,MA,e]
theorem pP{p:κ×V}{r:List (κ×V)}{k:κ}(e:¬p.1=k):eT (p::r) k=eT r k:=by simp[eT,MA,e]
theorem mM(k:κ):∀kvs:List (κ×V),(kvs.any fun kv=>decide (kv.1=k))=(eT kvs k).isSome
 | []=>rfl
 |p::r=>by
  rw[OG];by_cases e:p.1=k
  ·simp only[qe e,decide_eq_true e,Bool.true_or,PN]
  rw[pP e,decide_eq_false e,Bool.false_or];exact mM k r
theorem eY(kvs:List (κ×V))(k:κ)(v:V):(putK kvs k v).length<=kvs.length+1:=by
 unfold putK;split
 ·rw[a_];lia
 rw[e_,h_,L_];lia
theorem vi{kvs:List (κ×V)}{k:κ}(v:V)(h:eT kvs k=none):putK kvs k v=kvs++[(k,v)]:=by unfold putK;rw[mM,h];exact if_neg (by decide)
theorem ra.AQ {u:Option QR}(r:ra o u):o.isSome=u.isSome:=by
 cases o with
 |none=>cases u with
  |none=>rfl
  |some _=>exact(show False from r).elim
 |some _=>cases u with
  |none=>exact(show False from r).elim
  |some _=>rfl
theorem KV.val {kvs:List (κ×V)}{vs:List (κ×QR)}(r:KV kvs vs)(k:κ):ra (eT kvs k) (U' vs k):=by
 unfold KV at r;induction r with
 |nil=>exact SO
 | @cons p q ps qs h t ih=>
  obtain⟨h1,h2⟩:=h;by_cases e:p.1=k
  ·have e':q.1=k:=h1.symm.trans e;have b:U' (q::qs) k=some q.2:=by simp[U',MA,e']
   rw[qe e,b];exact h2
  have e':¬q.1=k:=fun z=>e (h1.trans z);have b:U' (q::qs) k=U' qs k:=by simp[U',MA,e']
  rw[pP e,b];exact ih
theorem KV.any {kvs:List (κ×V)}{vs:List (κ×QR)}(r:KV kvs vs)(k:κ):(kvs.any fun kv=>decide (kv.1=k))=vs.any fun kv=>decide (kv.1=k):=by
 unfold KV at r;induction r with
 |nil=>rfl
 |cons h t ih=>rw[OG,OG,ih,h.1]
theorem KV.Hf {kvs:List (κ×V)}{vs:List (κ×QR)}(r:KV kvs vs)(k:κ)(ry:RelV y u) :
  KV (kvs.map fun kv=>if kv.1=k then(kv.1,y)else kv) (vs.map fun kv=>if kv.1=k then(kv.1,u)else kv):=by
 unfold KV at r ⊢;induction r with
 |nil=>exact .nil
 | @cons p q ps qs h t ih=>
  rw[k_,k_];refine .cons ?_ ih;obtain⟨h1,h2⟩:=h;by_cases e:p.1=k
  ·rw[if_pos e,if_pos (h1.symm.trans e)];exact⟨h1,ry⟩
  rw[if_neg e,if_neg (fun z=>e (h1.trans z))];exact⟨h1,h2⟩
theorem KV.put {kvs:List (κ×V)}{vs:List (κ×QR)}(r:KV kvs vs)(k:κ)(ry:RelV y u):KV (putK kvs k y) (stored vs k u):=by
 unfold putK stored;rw[r.any k];by_cases e:(vs.any fun kv=>decide (kv.1=k))=true
 ·rw[if_pos e,if_pos e];exact r.Hf k ry
 rw[if_neg e,if_neg e];exact Yj r ⟨rfl,ry⟩
theorem KV.length {kvs:List (κ×V)}{vs:List (κ×QR)}(r:KV kvs vs):kvs.length=vs.length:=R' r
end
variable {P:Q5}{w:Q8}
theorem yg{k:Key}(r:RelV (kV k) u):(b8 P w).is k u=true:=by
 rcases k with i | _|x
 ·obtain⟨t,e⟩:=(show ∃t,u=SQ i t from r);subst e;exact vF P w i t
 ·cases r;rfl
 obtain⟨t,e⟩:=(show ∃t,u=V_ x t from r);subst e;exact vh P w x t
theorem sS{P:Q5}{w:Q8}:∀{ks:List Key}{us:List QR},Vals (ks.map kV) us->ItemsAre (b8 P w) ks us
 | [],_,r=>by rw[Nf]at r;cases r;exact .nil
 |k::ks,_,r=>by
  rw[k_]at r;cases r with
  |cons h t=>exact .cons (yg h) (sS t)
abbrev KT(H:Hp):List (List Key×V)->List (List Key×QS×QR)->Prop:=S8 fun p q=>p.1=q.1/\H q.2.1=some (.tup (p.1.map kV))/\RelV p.2 q.2.2
variable {kvs:List (List Key×V)}{xs:List (List Key×QS×QR)}
theorem KT.val (r:KT H kvs xs)(k:List Key):ra (eT kvs k) ((Vq xs k).map (·.2)):=by
 induction r with
 |nil=>exact SO
 | @cons p q ps qs h t ih=>
  obtain⟨h1,_,h2⟩:=h;by_cases e:p.1=k
  ·have e':q.1=k:=h1.symm.trans e;have b:Vq (q::qs) k=some q.2:=by simp[Vq,MA,e']
   rw[qe e,b];exact h2
  have e':¬q.1=k:=fun z=>e (h1.trans z);have b:Vq (q::qs) k=Vq qs k:=by simp[Vq,MA,e']
  rw[pP e,b];exact ih
theorem KT.Hf (r:KT H kvs xs)(k:List Key)(ry:RelV y u) :
  KT H (kvs.map fun kv=>if kv.1=k then(kv.1,y)else kv) (xs.map (putAt k u)):=by
 induction r with
 |nil=>exact .nil
 | @cons p q ps qs h t ih=>
  rw[k_,k_];refine .cons ?_ ih;obtain⟨h1,h2,h3⟩:=h;unfold putAt;by_cases e:p.1=k
  ·rw[if_pos e,if_pos (h1.symm.trans e)];exact⟨h1,h2,ry⟩
  rw[if_neg e,if_neg (fun z=>e (h1.trans z))];exact⟨h1,h2,h3⟩
theorem KT.put (r:KT H kvs xs)(k:List Key){b:QS}(hb:H b=some (.tup (k.map kV)))(ry:RelV y u) :
  KT H (putK kvs k y) (T7 xs k b u):=by
 have e:(kvs.any fun kv=>decide (kv.1=k))=(Vq xs k).isSome:=by rw[mM,(r.val k).AQ,Option.isSome_map]
 unfold putK T7;rw[e];by_cases q:(Vq xs k).isSome=true
 ·rw[if_pos q,if_pos q];exact r.Hf k ry
 rw[if_neg q,if_neg q];exact Yj r ⟨rfl,hb,ry⟩
variable {H':Hp}
theorem KT.keeps (r:KT H kvs xs)(ht:∀b ys,H b=some (.tup ys)->H' b=some (.tup ys)):KT H' kvs xs:=
 Paired.Kx r fun _ _ z=>⟨z.1,ht _ _ z.2.1,z.2.2⟩
section
variable{P:Q5}{w:Q8}{H:Hp}{h:Q_}{a:QS}
theorem GC{u:HO}(ok:HOk P w H h)(e:Rd H a u):b6 P w H h a u:=e.ok ok
theorem zo{kvs:List (Key×V)}(ok:HOk P w H h)(e:Rd H a (.dK kvs)):kvs.length<=sizeLine/\(a == RS)=false/\∃vs,KV kvs vs/\h.DictOf (b8 P w) a vs:=
 show b6 P w H h a (.dK kvs)from GC ok e
theorem Gh{kvs:List (Key×V)}(ok:HOk P w H h)(e:H a=some (.dK kvs)):kvs.length<=sizeLine/\(a == RS)=false/\∃vs,KV kvs vs/\h.DictOf (b8 P w) a vs:=zo ok (.inl e)
theorem t5{ks:List Key}(ok:HOk P w H h)(e:H a=some (.tup (ks.map kV))):(Sl (b8 P w)).is h ks a:=by obtain⟨_,its,r,o,h1,h2,n,h3⟩:=(show b6 P w H h a (.tup (ks.map kV))from ok a _ e);exact⟨o,its.toArray,n,h1,h2,h3,by simpa using sS r⟩
theorem zO(ok:HOk P w H h)(e:Rd H a (.dT kvs)):kvs.length<=sizeLine/\(a == RS)=false/\
  ∃xs,KT H kvs xs/\h.DictOfH (Sl (b8 P w)) a xs:=by
 obtain⟨z,y,xs,r,o,es,ep,h1,h2,h3,h4,h5⟩:=(show b6 P w H h a (.dT kvs)from GC ok e);refine⟨z,y,xs,r,o,es,ep,h1,h2,h3,h4,fun x hx=>?_,h5⟩;have all:∀{l:List (List Key×V)}{m:List (List Key×QS×QR)},KT H l m->∀x∈m,(Sl (b8 P w)).is h x.1 x.2.1:=by
  intro l m q;induction q with
  |nil=>intro x hx;exact nomatch hx
  | @cons p q ps qs hq t ih=>
   intro x hx;rcases p_.mp hx with e|hx
   ·subst e;exact t5 ok (by rw[<-hq.1];exact hq.2.1)
   exact ih x hx
 exact all r x hx
theorem KC(ok:HOk P w H h)(e:H a=some (.dT kvs)):kvs.length<=sizeLine/\(a == RS)=false/\
  ∃xs,KT H kvs xs/\h.DictOfH (Sl (b8 P w)) a xs:=zO ok (.inl e)
end
def oO(H:Hp)(a:QS)(y:V)(r:Option V):Prop:=
 (∃kvs k,Rd H a (.dK kvs)/\y=kV k/\r=eT kvs k)\/∃kvs k b,Rd H a (.dT kvs)/\y=.ref b/\H b=some (.tup (k.map kV))/\r=eT kvs k
def AW(H:Hp)(a:QS)(y v:V)(H':Hp):Prop:=
 (∃kvs k,H a=some (.dK kvs)/\y=kV k/\kvs.length<sizeLine/\H'=upd H a (.dK (putK kvs k v)))\/
 ∃kvs k b,H a=some (.dT kvs)/\y=.ref b/\H b=some (.tup (k.map kV))/\kvs.length<sizeLine/\H'=upd H a (.dT (putK kvs k v))
theorem oO.k {H:Hp}{a:QS}{kvs:List (Key×V)}{k:Key}(e:H a=some (.dK kvs)):oO H a (kV k) (eT kvs k):=.inl ⟨kvs,k,.inl e,rfl,rfl⟩
theorem AW.k {H:Hp}{a:QS}{kvs:List (Key×V)}{k:Key}{v:V}(e:H a=some (.dK kvs))(hl:kvs.length<sizeLine):AW H a (kV k) v (upd H a (.dK (putK kvs k v))):=.inl ⟨kvs,k,e,rfl,hl,rfl⟩
variable {Q:QR->QV->Prop}
section
variable{X:Cx}{ac:List (QS×Obj)}{σ:St}{H:Hp}{s:QV}{a:QS}{y v:V}{u r:QR}{o:Option V}{A:Rh}{E:QR->QV->Prop}
theorem Inv.big (I:Inv X ac σ H s):RS<s.heap.objs.size:=by have h:RU<s.heap.objs.size:=(I.mod.glob.keeps I.bk).lt;exact Om (by decide) h
theorem rq(hu:A.units+1<cLine)(I:Inv X ac σ H s)(g:oO H a y (some v))(ry:RelV y u)(h:∀w' s',Inv X ac σ H s'->RelV v w'->Q w' s') :
  QX (Q3 X.prog X.w) A (UO (.ref a) u) Q E s:=by
 rcases g with⟨kvs,k,e,ey,l⟩|⟨kvs,k,b,e,ey,eb,l⟩
 ·subst ey;obtain⟨z,hd,vs,rel,dd⟩:=zo I.hok e;obtain⟨w',hw,rw'⟩:=ra.some_of (v:=v) (o:=U' vs k) (by rw[l];exact rel.val k);exact wpAny_getItem_of (yg ry) dd.mapOf hw (h w' _ (I.tok _) rw')
 subst ey;cases (show u=Rx b from ry);obtain⟨z,hd,xs,rel,dd⟩:=zO I.hok e;obtain⟨w',hw,rw'⟩:=ra.some_of (v:=v) (o:=(Vq xs k).map (·.2)) (by rw[l];exact rel.val k);obtain⟨p,hp,hp2⟩:=Oa.mp hw;refine wpAny_getItem_heap (Wh hu) (t5 I.hok eb) dd hp ?_;rw[hp2];exact h w' _ (I.tok _) rw'
theorem p8{h':Q_}{ob:HO}(I:Inv X ac σ H s)(mu:Mut (H a))(hs:Rq a s.heap h')(he:∃q,h'.get? a=some q)(new:b6 X.prog X.w (upd H a ob) h' a ob) :
  Inv X ac σ (upd H a ob) {s with heap:=h',toks:=t'}:=
 I.write (x:=a) (e:=a) mu (.inl rfl) (fun b q hb z=>(hs.2 b hb).trans z) he new
theorem CM{h':Q_}{kvs:List (Key×V)}{vs:List (Key×QR)}(z:kvs.length<=sizeLine)(hd:(a == RS)=false)(rel:KV kvs vs)(dd:h'.DictOf (b8 P w) a vs) :
  b6 P w H' h' a (.dK kvs):=⟨z,hd,vs,rel,dd⟩
theorem nV{Q:Unit->QV->Prop}(hu:A.units+1<cLine)(I:Inv X ac σ H s)(g:AW H a y v H')(ry:RelV y u)(rv:RelV v r)(h:∀s',Inv X ac σ H' s'->Q () s') :
  QX (Q3 X.prog X.w) A (Xa (.ref a) u r) Q E s:=by
 rcases g with⟨kvs,k,e,ey,l,eH⟩|⟨kvs,k,b,e,ey,eb,l,eH⟩
 ·subst ey eH;obtain⟨z,hd,vs,rel,dd⟩:=Gh I.hok e;have hz:vs.length<=sizeLine:=by rw[<-rel.length];exact z
  have hl:(putK kvs k v).length<=sizeLine:=by have:=eY kvs k v;lia
  refine wpAny_setItem_pairs (hsz:=hz) (yg ry) dd fun h' dd' hs=>h _ ?_;have he:∃q,h'.get? a=some q:=let ⟨q,_,_,hq,_⟩:=dd';⟨q,hq⟩
  exact p8 I (by rw[e];exact SO) hs he (CM hl hd (rel.put k rv) dd')
 subst ey eH;cases (show u=Rx b from ry);obtain⟨z,hd,xs,rel,dd⟩:=KC I.hok e;have hz:xs.length<=sizeLine:=by rw[<-R' rel];exact z
 have hl:(putK kvs k v).length<=sizeLine:=by have:=eY kvs k v;lia
 refine wpAny_setItem_heap (hsz:=hz) (Wh hu) (t5 I.hok eb) dd fun h' dd' hs=>h _ ?_;obtain⟨q,es,ep,hq,h2,h3,h4,_,h5⟩:=dd';refine p8 I (by rw[e];exact SO) hs ⟨q,hq⟩ ⟨hl,hd,_,(rel.put k eb rv).keeps fun c ys ec=>?_,q,es,ep,hq,h2,h3,h4,h5⟩;rw[aN (Dp ec e (fun z=>nomatch z))];exact ec
end
section
variable{X:Cx}{ac:List (QS×Obj)}{σ:St}{H:Hp}{s:QV}{a:QS}{kvs:List (Key×V)}{k:Key}{u:QR}{A:Rh}{E:QR->QV->Prop}
theorem KR(I:Inv X ac σ H s)(e:Rd H a (.dK kvs))(h:∀t s',Inv X ac σ H s'->Q (.int kvs.length t) s'):QX (Q3 X.prog X.w) A (call (.builtin "len") [.ref a]) Q E s:=by obtain⟨z,hd,vs,rel,dd⟩:=zo I.hok e;refine call_len_dict hd dd (by rw[<-rel.length];rw[sizeLine_eq]at z;lia) ?_;rw[<-rel.length];exact h _ _ (I.tok _)
end
noncomputable def Kd(i:Q9):Prop:=∀ov iv,US i false ov iv=Yp [ov,iv] (UO ov iv)
variable {pos:Pos}
theorem F0{prog:Q5}{A:Rh}{E:QR->QV->Prop}{env:Env}{value slice:Q9}{T id:String}
  (hl:WR (.type T) "__getitem__"=pure (some (.builtin id))) (hs:Kd slice)
  (h:QX (Q3 prog w) A (Rw value env) (fun o s₁=>QX (Q3 prog w) A (Rw slice env) (fun i s₂=>s₂.TypeIs o T/\QX (Q3 prog w) A (UO o i) Q E s₂) E s₁) E s) :
  QX (Q3 prog w) A (Rw (.Subscript value slice pos) env) Q E s:=by
 refine WS (RA h (fun o s₁ h₁=>RA h₁ (fun i s₂ h₂=>?_) fun _ _ x=>x) fun _ _ x=>x);obtain⟨hT,h₂⟩:=h₂;unfold Ur;refine QQ ?_;rw[VH hT.not_modules];refine QQ (Vr hT hl ?_);have fin:QX (Q3 prog w) A (US slice false o i) (fun r s₃=>QX (Q3 prog w) A (Xg value o r >>= fun _=>pure r) Q E s₃) E s₂:=by rw[hs o i];exact WV (RA h₂ (fun r s₃ h₃=>QQ (VS (QU h₃))) fun _ _ x=>x)
 first
  |exact QU (QQ fin)
  |exact QQ (QU (QQ fin))
  |exact QQ fin
variable {X:Cx}
theorem ox{a:QS}(I:Inv X ac σ H s)(g:oO H a y o):s.TypeIs (.ref a) "dict":=by
 rcases g with⟨kvs,k,e,_,_⟩|⟨kvs,k,b,e,_,_,_⟩
 ·obtain⟨_,_,vs,_,dd⟩:=zo I.hok e;exact dd.typeIs
 obtain⟨_,_,xs,_,dd⟩:=zO I.hok e;exact dd.typeIs
def Js(td ty:TE):TE:=fun σ H Q=>td σ H fun x H1=>ty σ H1 fun y H2=>∃a v,x=.ref a/\oO H2 a y (some v)/\Q v H2
def Jv(td ty tv:TE):TS:=fun D σ H=>tv σ H fun v H1=>td σ H1 fun x H2=>ty σ H2 fun y H3=>∃a H4,x=.ref a/\AW H3 a y v H4/\D.nx σ H4
section
variable{X:Cx}{o i e value:Q9}{pos pos' tpos:Pos}{td ty tv:TE}
theorem pf(hu:X.A.units+1<cLine)(ho:PE X o td)(hi:PE X i ty)(hs:Kd i):PE X (.Subscript o i pos) (Js td ty):=by intro ac s σ H Q I h;refine F0 U8.lookup hs (thn (ho ac s σ H _ I h) fun u s1 ⟨x,H1,I1,rx,q1⟩=>thn (hi ac s1 σ H1 _ I1 q1) ?_);rintro iv s2 ⟨y,H2,I2,ry,a,v,ex,g,q2⟩;subst ex;obtain rfl:u=Rx a:=rx;exact⟨ox I2 g,rq hu I2 g ry fun w' s3 I3 rw'=>⟨v,H2,I3,rw',q2⟩⟩
theorem Eh(hu:X.A.units+1<cLine)(ho:PE X o td)(hi:PE X i ty)(hv:PE X value tv)(hs:Uv value (some (.Subscript o i pos')) pos.line X.env=pure false) :
  PS X (.Assign [.Subscript o i pos'] value pos) (Jv td ty tv):=by
 intro ac s σ H D I h;refine wpAny_Assign_Subscript (thn (hv ac s σ H _ I h) ?_) hs;rintro r s1 ⟨v,H1,I1,rv,q1⟩;refine thn (ho ac s1 σ H1 _ I1 q1) ?_;rintro u s2 ⟨x,H2,I2,rx,q2⟩;refine thn (hi ac s2 σ H2 _ I2 q2) ?_;rintro iv s3 ⟨y,H3,I3,ry,a,H4,ex,g,q3⟩;subst ex;obtain rfl:u=Rx a:=rx;exact nV hu I3 g ry rv fun s4 I4=>⟨σ,H4,I4,q3⟩
end
theorem Bw(h:Q_)(hb:RS<h.objs.size):b6 P w H (h.push { cls:=.type "dict",data:=.dict #[] }) h.objs.size (.dK []):=
 ⟨E_ _,beq_eq_false_iff_ne.mpr (SK (s_ hb)),[],.nil,YZ h⟩
theorem CH(h:Q_)(hb:RS<h.objs.size):b6 P w H (h.push { cls:=.type "dict",data:=.dict #[] }) h.objs.size (.dT []):=
 ⟨E_ _,beq_eq_false_iff_ne.mpr (SK (s_ hb)),[],.nil,_,#[],0,Q0 _ rfl,⟨rfl,rfl,rfl⟩,rfl,rfl,MG⟩
def GX:TE:=fun _ H Q=>∀p,H p=none->Q (.ref p) (upd H p (.dT []))
section
variable{X:Cx}{pos:Pos}
theorem BD:PE X (.Dict [] [] pos) GX:=fun ac s σ H Q I h=>
 wpAny_Dict_empty ⟨.ref s.heap.objs.size,_,I.laid (a:=s.heap.objs.size) (o:=.dT []) (t':=s.toks) (fun _ _ q=>QW _ q) (b_ _) (CH s.heap I.big),rfl,h _ (I.hok.fresh (b_ _))⟩
end
noncomputable def xk:List (TE×TE)->St->Hp->(List (V×V)->Hp->Prop)->Prop
 | [],_,H,Q=>Q [] H
 | (tk,tv)::r,σ,H,Q=>tk σ H fun x H1=>tv σ H1 fun y H2=>xk r σ H2 fun ps H3=>Q ((x,y)::ps) H3
abbrev VV:List (V×V)->List (QR×QR)->Prop:=S8 fun p q=>RelV p.1 q.1/\RelV p.2 q.2
def PPs(X:Cx)(pos:Pos)(keys:List (Option Q9))(values:List Q9)(trs:List (TE×TE)):Prop:=
 ∀(ac:List (QS×Obj)) (s:QV) (σ:St) (H:Hp) (Q:List (V×V)->Hp->Prop),Inv X ac σ H s->xk trs σ H Q->
  QX (Q3 X.prog X.w) X.A (evalPairs (pairTrees keys values X.env pos)) (fun vs s'=>∃ps H',Inv X ac σ H' s'/\VV ps vs/\Q ps H') X.xe s
theorem F5:PPs X pos [] [] []:=fun ac s σ H Q I h=>pairTrees_nil_walk ⟨[],H,I,.nil,h⟩
variable {trs:List (TE×TE)}
theorem vG{k v:Q9}{ks:List (Option Q9)}{vs:List Q9}{tk tv:TE}(hk:PE X k tk)(hv:PE X v tv)(hr:PPs X pos ks vs trs) :
  PPs X pos (some k::ks) (v::vs) ((tk,tv)::trs):=fun ac s σ H Q I h=>
 pairTrees_cons_walk (thn (hk ac s σ H _ I h) fun u s1 ⟨x,H1,I1,rx,q1⟩=>thn (hv ac s1 σ H1 _ I1 q1) fun w2 s2 ⟨y,H2,I2,ry,q2⟩=>
  thn (hr ac s2 σ H2 _ I2 q2) fun ws s3 ⟨ps,H3,I3,rel,q3⟩=>⟨(x,y)::ps,H3,I3,.cons ⟨rx,ry⟩ rel,q3⟩)
def ju(kvs more:List (Key×V)):List (Key×V):=more.foldl (fun acc kv=>putK acc kv.1 kv.2) kvs
theorem KV.merge:∀{more:List (Key×V)}{rs:List (Key×QR)}{kvs:List (Key×V)}{vs:List (Key×QR)},KV more rs->KV kvs vs->KV (ju kvs more) (merged vs rs):=by
 intro more rs kvs vs r;unfold KV at r;induction r generalizing kvs vs with
 |nil=>intro q;exact q
 | @cons p q ps qs h t ih=>
  intro r0;have e:KV (putK kvs p.1 p.2) (stored vs q.1 q.2):=by have:=r0.put p.1 h.2;rw[<-h.1];exact this
  exact ih e
theorem jS:∀(more kvs:List (Key×V)),(ju kvs more).length<=kvs.length+more.length
 | [],kvs=>by show kvs.length<=kvs.length+0;lia
 |p::r,kvs=>by have h1:=jS r (putK kvs p.1 p.2);have h2:=eY kvs p.1 p.2;show(ju (putK kvs p.1 p.2) r).length<=_;rw[h_];lia
theorem qJ{P:Q5}{w:Q8}:∀{kvs:List (Key×V)}{ws:List (QR×QR)},VV (kvs.map fun kv=>(kV kv.1,kv.2)) ws->∃rs,Carries (b8 P w) ws rs/\KV kvs rs
 | [],_,r=>by rw[Nf]at r;cases r;exact⟨[],SO,.nil⟩
 |p::kvs,_,r=>by
  rw[k_]at r;cases r with
  | @cons a b as bs h t=>
   obtain⟨rs,c,q⟩:=qJ (P:=P) (w:=w) t;obtain⟨b1,b2⟩:=b;exact⟨(p.1,b2)::rs,⟨yg h.1,rfl,c⟩,.cons ⟨rfl,h.2⟩ q⟩
def KZ(trs:List (TE×TE)):TE:=fun σ H Q=>∀p,H p=none->xk trs σ (upd H p (.dK [])) fun ps H2=>H2 p=some (.dK [])/\∃kvs:List (Key×V),ps=kvs.map (fun kv=>(kV kv.1,kv.2))/\kvs.length<=15/\Q (.ref p) (upd H2 p (.dK (ju [] kvs)))
theorem F7{keys:List (Option Q9)}{values:List Q9}(h:PPs X pos keys values trs)(hall:keys.all (·.isSome)=true)(hl:keys.length=values.length)(h0:keys≠[])
  (h15:keys.length<=15):PE X (.Dict keys values pos) (KZ trs):=by
 intro ac s σ H Q I q;have hn:=I.hok.fresh (b_ s.heap.objs.size);have I1:=I.laid (a:=s.heap.objs.size) (o:=.dK []) (h':=s.heap.push { cls:=.type "dict",data:=.dict #[] }) (t':=s.toks) (fun _ _ q=>QW _ q) (b_ _) (Bw s.heap I.big);refine wpAny_Dict_walk (knd:=b8 X.prog X.w) hall hl h0 h15 (thn (h ac _ σ _ _ I1 (q _ hn)) ?_);rintro ws s2 ⟨ps,H2,I2,rel,e,kvs,ep,lk,q2⟩;subst ep;obtain⟨rs,c,rk⟩:=qJ (P:=X.prog) (w:=X.w) rel;obtain⟨z,hd,vs0,r0,dd⟩:=Gh I2.hok e;cases r0;refine⟨rs,c,dd,fun h' dd' hs=>⟨.ref s.heap.objs.size,_,?_,rfl,q2⟩⟩;have hz:(ju [] kvs).length<=sizeLine:=by have h1:=jS kvs [];rw[L_]at h1;rw[sizeLine_eq];lia
 have he:∃q,h'.get? s.heap.objs.size=some q:=let ⟨q,_,_,hq,_⟩:=dd';⟨q,hq⟩
 exact p8 I2 (by rw[e];exact SO) hs he (CM hz hd (rk.merge .nil) dd')
end L2
namespace Att
open PySem PySem.W PySem.Calls PyProof.Rows
theorem oP{P:Ve}{h:Q_}:∀(ns:List Int) (vs:List QR),WellAll P h vs (ns.map WData.int)->So vs ns:=by
 intro ns;induction ns with
 |nil=>
  intro vs w;rw[Nf]at w;cases w;exact .nil
 |cons n ns ih=>
  intro vs w;rw[k_]at w;cases w with
  |cons a b=>
   cases a;exact .cons _ _ (ih _ b)
theorem Ax{l:OpenLaw}{n:Nat}(hn:l.most=some n){P:Ve}{h:Q_}{args:List WData}{vals:List QR}
  (hpre:l.row.toRowW.claim.pre args=true) (hwl:WellAll P h vals args) :
  ∃a vs ns,vals=[Rx a]/\args=[WData.list (ns.map WData.int)]/\h.get? a=some { cls:=.type "list",data:=.seq vs.toArray}/\So vs ns/\ns.length<=n:=by
 have hsh:WShape.hasAll [] args [.list .int]=true:=(pre_splitW hpre).1;have hc:l.pre.holds [] { args:=args}=true:=(pre_splitW hpre).2;obtain⟨d,r,rfl,h1,h2⟩:=hasAllW_cons hsh;obtain rfl:=hasAllW_nil h2;obtain⟨xs,rfl,h3⟩:=hasW_list h1;obtain⟨ns,rfl⟩:=items_int h3;have hlen:ns.length<=n:=by
  unfold OpenLaw.pre at hc;have h4:(WTm.not (.lt (.lit (.int (n:Int))) (.len (.arg 0)))).holds [] { args:=[.list (ns.map .int)] }=true:=by have h4:=(holds_andW hc).1;rw[hn]at h4;exact h4
  have h5:=condW_of h4 (w_not (w_lt w_lit (w_len_list (w_arg rfl))));rw[a_]at h5;refine Md fun q=>?_;have q':(n:Int)<((ns.length:Nat):Int):=by lia
  first
   | (rw[decide_eq_true q']at h5;exact absurd h5 (by decide))
   | (simp at h5;omega)
 cases hwl with
 |cons w1 w2=>
  cases w2;cases w1 with
  |list ho hall=>exact⟨_,_,ns,rfl,rfl,ho,oP ns _ hall,hlen⟩
theorem Ai(l:OpenLaw)(args:List WData):l.row.toRowW.claim.post args (.bool true) args=true:=
 postW_of (r:=l.row.toRowW) (X:=(true == true))
  (show WShape.has [] (.bool true) .bool=true by first|rfl|decide|simp[WShape.has,WShape.arms,WShape.armsAll])
  (show(WTm.eq .res (.lit (.bool true))).value [] { args:=args,res:=some (.bool true),after:=args}=some (.bool (true == true))from w_eq_bool (w_res rfl) w_lit) rfl
theorem vk{l:OpenLaw}{n:Nat}{q:Q5}{loose:List Str}{XP:(Str->Option QR)->Q_->Prop}{YP:Q8->Q_->Prop}{d:DefRec}
  (hn:l.most=some n) (hdf:d.params.defaults=[])
  (call:∀(w:Q8) (s₀ s₁:QV) (mg mb:Str->Option QR) (fa:QS) (o:Obj) (pm cd doc:QR) (a:QS) (vs:List QR) (ns:List Int),
   Ground q loose [] XP w s₀ mg mb s₁.heap->YP w s₁.heap->
   s₁.heap.get? fa=some o->o.data=.func (docDef d.name d.params d.body d.scope pm cd doc)->s₁.heap.CodeRec cd d.name->mg d.name=some (.ref fa)->
   s₁.heap.get? a=some { cls:=.type "list",data:=.seq vs.toArray}->So vs ns->ns.length<=n->s₁.gens=#[]->
   SM (Q3 l.prog w) Va (.call (.ref fa) ⟨[.ref a],[]⟩) (fun r s'=>r=.ok (.ret (.bool true))/\OldK s₁.heap s'.heap/\s'.os=s₁.os/\Uu s'.gens) s₁) :
  WalkO q loose XP YP l.row.toRowW d [] (fun f vs=>WW f vs):=by
 intro w s₀ s₁ mg mb G Y fa o pm cd doc dV kV ho hd hcd hD hmg hg args vals as hpre hlay hrd hwl hlo;obtain rfl:dV=.none:=Dflts.none hD hdf;obtain rfl:kV=.none:=Dflts.noKw hD;obtain⟨a,vs,ns,rfl,rfl,hobj,hints,hlen⟩:=Ax hn hpre hwl;refine enter_call (S9 (call w s₀ s₁ mg mb fa o pm cd doc a vs ns G Y ho (fd_plain hd) hcd hmg hobj hints hlen hg) fun r s' hq=>?_);obtain⟨rfl,h2,h3,h4⟩:=hq;exact⟨.inl ⟨.bool true,.bool true,[],rfl,fun _=>rfl,.bool true,Ai l _,fun _=>⟨N5,fun _ hm=>(nomatch hm)⟩⟩,h2,h3,h4⟩
section
variable{prog:Q5}{w:Q8}{A:Rh}{E:QR->QV->Prop}{s:QV}{K:Frag}
noncomputable def ledger(h:Q_)(L d:QS):List (QS×Obj):=(B' h.objs.size).filterMap fun a=>if a=L\/a=d then none else(h.get? a).map fun o=>(a,o)
end
end Att
namespace L2
open PySem PySem.Spec PyProof.Rows
theorem rV:∀{vs:List QR}{ns:List Int},So vs ns->Vals (ns.map V.int) vs
 | _,_,.nil=>.nil
 | _,_,.cons n t h=>.cons ⟨t,rfl⟩ (rV h)
noncomputable def GH(H:Hp):Prop:=∀b,H b=none\/∃o xs,H b=some (.frz o (.lst xs))
variable {fd:Rj}{x:Str}
theorem Cw{P:Q5}{w:Q8}{K:QT}{mg mb:Str->Option QR}{CX:CXT}{k:Nat}{fa a:QS}{sp:Sp}{s₁:QV}{vs:List QR}{ns:List Int}
  (KX:K.In s₁.heap) (hns:s₁.heap.Ns RU mg) (hb:s₁.heap.Ns VN mb) (hbb:∀x:Str,x≠"__name__"->mb x=SR x) (hlim:s₁.heap.NoLimit) (hg:s₁.gens=#[])
  (ha:s₁.heap.get? a=some { cls:=.type "list",data:=.seq vs.toArray}) (hi:So vs ns) (hl:ns.length<=sizeLine) (hr:Room k Va)
  (F:∀base:Q_,K.In base->base.Ns RU mg->FnOk P w K mg base CX k fa fd [x] sp) (hbind:∀(s:QV) (u:QR),VG s fd ⟨[u],[]⟩ [(x,u)])
  (hsp:∀H:Hp,GH H->SqL K H a (ns.map V.int)->sp [.ref a] H (fun v _=>v=.bl true) fun _ _ _=>False)
  (hCX:∀H e s',CX [] H s₁ (fun _ _ _=>False) e s'->False) :
  SM (Q3 P w) Va (.call (.ref fa) ⟨[.ref a],[]⟩) (fun r s'=>r=.ok (.ret (.bool true))/\OldK s₁.heap s'.heap/\s'.os=s₁.os/\Uu s'.gens) s₁:=by
 have rv:=rV hi;have lenV:=hi.length;have core:∀H:Hp,GH H->SqL K H a (ns.map V.int)->HOk P w H s₁.heap->(∀b,H b≠none->b=a)->(H a≠none->K.lookup a=none)->
   SM (Q3 P w) Va (.call (.ref fa) ⟨[.ref a],[]⟩) (fun r s'=>r=.ok (.ret (.bool true))/\OldK s₁.heap s'.heap/\s'.os=s₁.os/\Uu s'.gens) s₁:=by
  intro H hO hS hok hA hK;have base_of:∀{b:QS}{o:Obj},s₁.heap.get? b=some o->H b=none->(uf s₁.heap H).get? b=some o:=fun e n=>DE e n;have noA:∀{b:QS}{o:Obj}{es:Array RX}{ep:Nat},s₁.heap.get? b=some o->o.data=.dict es ep->H b=none:=fun{b o es ep} e d=>by
   cases q:H b with
   |none=>rfl
   |some u=>
    have e':b=a:=hA b (by rw[q];simp);subst e';rw[ha]at e;cases e;have d':XW vs.toArray _=Data.dict es ep:=d;cases d'
  have nsK:∀{b:QS}{m:Str->Option QR},s₁.heap.Ns b m->(uf s₁.heap H).Ns b m:=fun{b m} ⟨o,es,ep,e,d,r⟩=>⟨o,es,ep,base_of e (noA e d),d,r⟩;have hKb:K.In (uf s₁.heap H):=fun b o e=>base_of (KX b o e) (by
   cases q:H b with
   |none=>rfl
   |some u=>
    have e':b=a:=hA b (by rw[q];simp);subst e';rw[hK (by rw[q];simp)]at e;cases e)
  have hM:Mod K mg (uf s₁.heap H):=⟨hKb,nsK hns,⟨mb,nsK hb,hbb⟩,let ⟨mc,h1,h2⟩:=hlim;⟨mc,nsK h1,h2⟩⟩;have e0:Env0 P w K mg (uf s₁.heap H) Va [] s₁ H:=⟨rfl,hM,fun b o e=>EG e,NB (Ay _ _),trivial,fun b hb=>absurd (show b∈([]:List QS)from hb) (by simp),hok,.of_eq hg⟩;refine S9 ((F _ hKb (nsK hns)).run Va [] s₁ H ⟨[.ref a],[]⟩ [.ref a] [.ref a] _ _ hr e0 (hbind s₁ (.ref a)) (.cons rfl .nil) (hsp H hO hS)) fun r s' h=>?_;cases r with
  |error e=>exact(hCX H e s' h).elim
  |ok fl=>
   cases fl with
   |next=>exact Rb h
   |brk=>exact Rb h
   |cont=>exact Rb h
   |ret u=>
    obtain⟨v,H',os,bare,un,hok',r',q⟩:=h;have q':v=.bl true:=q;subst q';obtain rfl:u=T5 true:=r';refine⟨rfl,OldK.of_keep fun b o e=>?_,os,bare⟩;cases q:H b with
    |none=>exact un.keep b o e q (by intro z;exact absurd (show b∈([]:List QS)from z) (by simp)) (by simp)
    |some u=>
     rcases hO b with z|⟨ob,xs,z⟩
     ·rw[q]at z;cases z
     have z2:=un.frzs b ob _ z;obtain⟨e1,_⟩:=hok b _ z;obtain⟨e2,_⟩:=hok' b _ z2;rw[e]at e1;cases e1;exact e2
 cases hk:K.lookup a with
 |some o=>
  have e:=KX a o hk;rw[ha]at e;cases e;refine core (fun _=>none) (fun _=>.inl rfl) (.inr ⟨_,vs.toArray,_,hk,rfl,rfl,rfl,by rw[o_,lenV];exact hl,by simpa using rv⟩) (fun b u z=>by have z':(none:Option HO)=some u:=z;cases z') (fun b z=>absurd rfl z) fun z=>absurd rfl z
 |none=>
  refine core (fun b=>if b=a then some (.frz { cls:=.type "list",data:=.seq vs.toArray} (.lst (ns.map V.int)))else none) (fun b=>?_) (.inl (.inr ⟨{ cls:=.type "list",data:=.seq vs.toArray},if_pos rfl⟩)) (fun b u z=>?_) (fun b z=>?_) fun _=>hk
  ·by_cases hb:b=a
   ·exact .inr ⟨_,_,if_pos hb⟩
   exact .inl (if_neg hb)
  ·by_cases hb:b=a
   ·have z':=(if_pos hb).symm.trans z;cases z';subst hb;exact⟨ha,by rw[a_];exact hl,vs,_,rv,ha⟩
   have z':=(if_neg hb).symm.trans z;cases z'
  by_cases hb:b=a
  ·exact hb
  exact absurd (if_neg hb) z
theorem EI{l:Vs}{n k:Nat}{q:Q5}{loose:List Str}{XP:(Str->Option QR)->Q_->Prop}{YP:Q8->Q_->Prop}{d:DefRec}{K:Ve->QT}{CX:Q8->CXT}{sp:Q8->Sp}
  (hn:l.most=some n) (hn2:n<=sizeLine) (hdf:d.params.defaults=[]) (hr:Room k Va)
  (hY:∀(w:Q8) (h:Q_),YP w h->(K w.params).In h)
  (F:∀(w:Q8) (mg:Str->Option QR) (fa:QS) (h:Q_),(K w.params).In h->h.Ns RU mg->mg d.name=some (.ref fa)->
   ∃fd:Rj,(∀(s:QV) (u:QR),VG s fd ⟨[u],[]⟩ [(x,u)])/\
    ∀base:Q_,(K w.params).In base->base.Ns RU mg->FnOk l.prog w (K w.params) mg base (CX w) k fa fd [x] (sp w))
  (hsp:∀(w:Q8) (H:Hp) (a:QS) (ns:List Int),ns.length<=n->GH H->SqL (K w.params) H a (ns.map V.int)->sp w [.ref a] H (fun v _=>v=.bl true) fun _ _ _=>False)
  (hCX:∀(w:Q8) (H:Hp) (s:QV) (e:QR) (s':QV),CX w [] H s (fun _ _ _=>False) e s'->False) :
  XE q loose XP YP l.row.toRowW d [] (fun f vs=>WW f vs):=by
 refine Att.vk hn hdf fun w s₀ s₁ mg mb fa o pm cd doc a vs ns G Y ho hd hcd hmg hobj hints hlen hg=>?_;have KX:=hY w _ Y;obtain⟨fd,hb,hF⟩:=F w mg fa _ KX G.T.g hmg;exact Cw KX G.T.g G.T.b G.T.builtins G.T.nolimit hg hobj hints (m_ hlen hn2) hr hF hb (fun H hO hS=>hsp w H a ns hlen hO hS) fun H e s'=>hCX w H s₁ e s'
noncomputable def eX(s:RC):Arguments:=match s with
 | .FunctionDef _ a _ _ _ _ _ _ _ _=>a
 | _=>{ posonlyargs:=[],args:=[],vararg:=none,kwonlyargs:=[],kw_defaults:=[],kwarg:=none,defaults:=[] }
noncomputable def dw(s:RC):List RC:=match s with
 | .FunctionDef _ _ b _ _ _ _ _ _ _=>b
 | _=>[]
noncomputable def av(s:RC):R6:=match s with
 | .FunctionDef _ _ _ _ _ _ sc _ _ _=>sc
 | _=>{ kind:=.function,names:=[],isGenerator:=false,isCoroutine:=false}
abbrev CX0:CXT:=fun _ _ _ _ _ _=>False
abbrev E0:XK:=fun _ _ _=>False
theorem KL{X:Cx}:Passes CX0 X E0:=fun _ _ _ _ _ _ _ h=>h.elim
structure Fun (K:QT) (x qual:Str) (st:RC) (f:QS) (fd:Rj):Prop where
 ex:∃(oc:QR) (od:Option QS) (kV doc pm:QR) (an:Option QS) (cdv ct:QR) (osl:Array (Option QR)),
  fd=SW x qual (eX st) (dw st) (av st) .none kV doc pm an cdv ct/\K.lookup f=some ⟨oc,od,.func fd,osl⟩/\UN K cdv qual=true
 kp:T6 K (.ref f)=true
variable {f:QS}{ps:List Str}{qual:Str}{st:RC}
section
variable{P:Q5}{w:Q8}{K:QT}{mg:Str->Option QR}{base:Q_}
theorem Fun.ok {N:List Str}{k:Nat}{sp:Sp}(F:Fun K x qual st f fd)(S:FnScope N ps (av st))(len:∀vs H Q E,sp vs H Q E->vs.length=ps.length)
  (hbody:∀(cdv:QR) (A:Rh) (outer:List Env) (s:QV) (H:Hp) (vs:List V) (Q:VK) (E:XK),Room k (A.deeper (UC qual (av st) s.heap.objs.size f cdv))->sp vs H Q E->
   ∃t,PSs (xY CX0 P w K mg base N qual (av st) f cdv A outer s H E).nox (dw st) t/\t { nx:=fun _ H'=>Q .non H',rt:=Q} (start N vs) H):FnOk P w K mg base CX0 (k+1) f fd ps sp:=by
 obtain⟨oc,od,kV,doc,pm,an,cdv,ct,osl,rfl,lk,hcd⟩:=F.ex;refine JP lk hcd S len fun A outer s H vs Q E hr hsp=>?_;obtain⟨t,h,q⟩:=hbody cdv A outer s H vs Q E hr hsp;exact⟨t,h.nox,q⟩
theorem Fun.binds (F:Fun K x qual st f fd)
  (h:∀(kV doc pm:QR) (an:Option QS) (cdv ct:QR) (us:List QR),us.length=ps.length->XU (SW x qual (eX st) (dw st) (av st) .none kV doc pm an cdv ct) ⟨us,[]⟩=pure (ps.zip us)):Binds K fd ps []:=by
 obtain⟨oc,od,kV,doc,pm,an,cdv,ct,osl,rfl,lk,hcd⟩:=F.ex;exact .all (h kV doc pm an cdv ct)
theorem xr{oc:QR}{od an:Option QS}{osl:Array (Option QR)}{kV doc pm cdv ct:QR}(l:K.lookup f=some ⟨oc,od,.func (SW x qual (eX st) (dw st) (av st) .none kV doc pm an cdv ct),osl⟩)
  (c:UN K cdv qual=true) (k:T6 K (.ref f)=true):Fun K x qual st f (SW x qual (eX st) (dw st) (av st) .none kV doc pm an cdv ct):=⟨⟨oc,od,kV,doc,pm,an,cdv,ct,osl,rfl,l,c⟩,k⟩
end
theorem se{A:Rh}{k:Nat}(hr:Room k A):A.units+1<cLine:=MR (MZ (by decide:1<=64) _) hr.units
section
variable{X:Cx}
theorem pv(i:Nat){pos:Pos}(hN:X.N[i]?=some x:=by rfl)(hv:Vis X.env.scope x:=by first|exact f_ rfl|exact v_ (f_ rfl)|exact v_ (v_ rfl))(hd:(x ==("__debug__":Str))=false:=by decide)
  (hcd:(x ==("__classdict__":Str))=false:=by decide):PE X (.Name x pos) (IA i):=jt hN hv hd hcd
end
theorem Lo{A B:Prop}(h:B):if false=true then A else B:=by rw[if_neg LY];exact h
theorem Ll{A B:Prop}(h:A):if true=true then A else B:=by rw[if_pos rfl];exact h
noncomputable def bz(H H':Hp):Prop:=∀b o,H b=some o->H' b=some o
theorem bz.seq {K:QT}{H H':Hp}{a:QS}{xs:List V}(e:bz H H')(h:SqL K H a xs):SqL K H' a xs:=by
 rcases h with (h|⟨o,h⟩)|h
 ·exact .inl (.inl (e _ _ h))
 ·exact .inl (.inr ⟨o,e _ _ h⟩)
 exact .inr h
end L2
namespace ZG
open PySem
noncomputable def Sq(b:Bool)(h:Q_)(l:QS)(xs:Array QR):Prop:=match b with
 |true=>h.IsTuple l xs
 |false=>h.IsList l xs
noncomputable def Dr(b:Bool)(h:Q_)(i l:QS)(k:Nat):Prop:=match b with
 |true=>h.IsTupleIter i l k
 |false=>h.IsListIter i l k
variable {b:Bool}{h h':Q_}{xs:Array QR}
theorem Sq.ext {l c:QS}(x:Sq b h l xs)(k:Tq c h h')(n:l≠c):Sq b h' l xs:=by
 cases b with
 |true=>exact Yy (show h.IsTuple l xs from x) k n
 |false=>exact YF (show h.IsList l xs from x) k n
variable {i:QS}
theorem Dr.ext {l c:QS}{k:Nat}(x:Dr b h i l k)(e:Tq c h h')(n:i≠c):Dr b h' i l k:=by
 cases b with
 |true=>exact X_ (show h.IsTupleIter i l k from x) e n
 |false=>exact Yk (show h.IsListIter i l k from x) e n
theorem Dr.some {b:Bool}{h:Q_}{i l:QS}{k:Nat}(x:Dr b h i l k):∃o,h.get? i=some o/\∀v,o.data≠.cell v:=by
 cases b with
 |true=>obtain⟨o,e,_,d⟩:=(show h.IsTupleIter i l k from x);exact⟨o,e,fun v z=>by rw[d]at z;cases z⟩
 |false=>obtain⟨o,e,_,d⟩:=(show h.IsListIter i l k from x);exact⟨o,e,fun v z=>by rw[d]at z;cases z⟩
theorem Dr.at {l:QS}{k:Nat}(x:Dr b h i l k)(e:∀o,h.get? i=QI o->h'.get? i=QI o):Dr b h' i l k:=by
 cases b with
 |true=>obtain⟨o,q,r⟩:=(show h.IsTupleIter i l k from x);exact⟨o,e o q,r⟩
 |false=>obtain⟨o,q,r⟩:=(show h.IsListIter i l k from x);exact⟨o,e o q,r⟩
variable {Q:QR->QV->Prop}{a:QR}{b1 b2:Bool}{i1 i2 l1 l2 z:QS}{ys:Array QR}
section
variable{prog:Q5}{w:Q8}{A:Rh}{E:QR->QV->Prop}{s:QV}
theorem Ep{l:QS}{k:Nat}{v:QR}(d:s.heap.IsTupleIter i l k)(q:s.heap.IsTuple l xs)(hv:xs[k]?=some v)
  (r:∀g,g.IsTupleIter i l (k+1)->Rq i s.heap g->Q v {s with heap:=g}):QX (Q3 prog w) A (RE (.ref i)) Q E s:=by
 obtain⟨oi,hoi,ci,di⟩:=id d;obtain⟨ol,hol,_,nl,dl⟩:=q;unfold RE;refine QQ (Ry (name:=RP "__next__") d.typeIs S0 (Rz S0 d.typeIs UU ?_ (UP _)));show QX _ _ (VT (.ref i) 0 >>= _) _ _ s;refine QQ (RI hoi di (x:=.ref l) rfl ?_);show QX _ _ (if(Rx l == Rn)=true then _ else _) _ _ s;rw[if_neg (show ¬((Rx l == Rn)=true)from LY)];show QX _ _ (VT (.ref i) 1 >>= _) _ _ s;refine QQ (RI hoi di (x:=.int k 0) rfl ?_);show QX _ _ (Vt (.ref l) >>= _) _ _ s;refine QQ (Sv hol dl ?_);simp only[LR,hv];refine QQ (R0 hoi di (by simp) (QU ⟨v,rfl,QU (r _ ?_ (RF ..))⟩));exact⟨_,Rr _ hoi (Sw (RD di _)),(Tt ..).trans ci,by rw[RD di];simp[RH]⟩
theorem IB{l:QS}{k:Nat}(hh:A.handled=none)(d:s.heap.IsTupleIter i l k)(q:s.heap.IsTuple l xs)(hv:xs[k]?=none)
  (r:∀g e,Tq i s.heap g->(∃o,g.get? e=some o/\o.cls=.type "StopIteration")->E (.ref e) {s with heap:=g}):QX (Q3 prog w) A (RE (.ref i)) Q E s:=by
 obtain⟨oi,hoi,ci,di⟩:=id d;obtain⟨ol,hol,_,nl,dl⟩:=q;unfold RE;refine QQ (Ry (name:=RP "__next__") d.typeIs S0 (Rz S0 d.typeIs UU ?_ (UP _)));show QX _ _ (VT (.ref i) 0 >>= _) _ _ s;refine QQ (RI hoi di (x:=.ref l) rfl ?_);show QX _ _ (if(Rx l == Rn)=true then _ else _) _ _ s;rw[if_neg (show ¬((Rx l == Rn)=true)from LY)];show QX _ _ (VT (.ref i) 1 >>= _) _ _ s;refine QQ (RI hoi di (x:=.int k 0) rfl ?_);show QX _ _ (Vt (.ref l) >>= _) _ _ s;refine QQ (Sv hol dl ?_);simp only[LR,hv];refine QQ (Sy (QQ (R0 hoi di (by simp) ?_)));show QX _ _ (UD (.type "StopIteration") [] >>= _) _ _ _;refine QQ ?_;simp only[UD,VU];refine QQ (Ri ?_ (by size_fits));refine QQ (m:=Sd _ _) (Tr (a:=Rn) (by first|rfl|(simp only[Sd];rfl)) ?_);refine Ri ?_ (by size_fits);simp only[VX];refine QQ (Us ?_)
 first|rw[show A.in1.handled=none from hh]|rw[hh]
 refine QQ (QU (UT ?_));exact r _ _ (((RF ..).extBut.push _).push _) ⟨_,Q0 _ rfl,rfl⟩
theorem xa{l:QS}{k:Nat}{v:QR}(d:Dr b s.heap i l k)(q:Sq b s.heap l xs)(hv:xs[k]?=some v)
  (r:∀g,Dr b g i l (k+1)->Rq i s.heap g->Q v {s with heap:=g}):QX (Q3 prog w) A (RE (.ref i)) Q E s:=by
 cases b with
 |true=>exact Ep d q hv r
 |false=>exact wpAny_nextOf_list_item d q hv r
theorem Gp{l:QS}{k:Nat}(hh:A.handled=none)(d:Dr b s.heap i l k)(q:Sq b s.heap l xs)(hv:xs[k]?=none)
  (r:∀g e,Tq i s.heap g->(∃o,g.get? e=some o/\o.cls=.type "StopIteration")->E (.ref e) {s with heap:=g}):QX (Q3 prog w) A (RE (.ref i)) Q E s:=by
 cases b with
 |true=>exact IB hh d q hv r
 |false=>exact wpAny_nextOf_list_end hh d q hv r
structure Off (z TI TO i1 i2 l1 l2:QS):Prop where
 a1:TI≠z
 a2:TO≠z
 a3:i1≠z
 a4:i2≠z
 a5:TI≠TO
 a6:TI≠i1
 a7:TI≠i2
 a8:TO≠i1
 a9:TO≠i2
 b1:i1≠i2
 c1:l1≠z
 c2:l1≠TO
 c3:l1≠i1
 c4:l1≠i2
 e1:l2≠z
 e2:l2≠TO
 e3:l2≠i1
 e4:l2≠i2
theorem JV{TI TO:QS}{k:Nat}{x y b:QR}(D:Off z TI TO i1 i2 l1 l2)
  (hz:Tz s.heap z TI TO .none) (hi:Sr s.heap TI (.ref i1) (.ref i2)) (ho:Sr s.heap TO a b)
  (d1:Dr b1 s.heap i1 l1 k) (d2:Dr b2 s.heap i2 l2 k) (q1:Sq b1 s.heap l1 xs) (q2:Sq b2 s.heap l2 ys) (hx:xs[k]?=some x) (hy:ys[k]?=some y)
  (r:∀g,Tz g z TI TO (RH s.heap.objs.size)->Sr g TO x y->Dr b1 g i1 l1 (k+1)->Dr b2 g i2 l2 (k+1)->Sr g s.heap.objs.size x y->g.objs.size=s.heap.objs.size+1->
   (∀c o,c≠z->c≠TO->c≠i1->c≠i2->s.heap.get? c=some o->g.get? c=some o)->Q (.ref s.heap.objs.size) {s with heap:=g}) :
  QX (Q3 prog w) A (RW.«zip.__next__» ⟨[.ref z],[]⟩) (fun fin s'=>∃v,fin=.done (.ret v)/\Q v s') E s:=by
 show QX _ _ (VT (.ref z) 2 >>= _) _ _ _;refine QQ (RI hz rfl (x:=.bool false) rfl ?_);show QX _ _ (VT (.ref z) 3 >>= _) _ _ _;refine QQ (RI hz rfl (x:=.ref TI) rfl (QQ (Sv hi rfl ?_)));show QX _ _ (Se (.ref z) >>= _) _ _ _;refine QQ ?_;unfold Se;refine QQ (RI hz rfl (x:=.none) rfl (QU ?_));simp only[if_true];refine QQ (Sy (QQ (RI hz rfl (x:=.ref TO) rfl (QQ (RK hz (by simp) fun g1 z1 s1=>?_)))));have z1:Tz g1 z TI TO .ellipsis:=z1;refine QQ ?_;simp only[OR,Qj,O6,Ph];refine QQ (QQ (UZ ?_));show QX _ _ (RE (.ref i1) >>= _) _ _ _;refine QQ (xa (d1.ext s1.extBut D.a3) (q1.ext s1.extBut D.c1) hx fun g2 w2 s2=>QU ?_);have o2:Sr g2 TO a b:=s2.extBut _ _ D.a8 (s1.extBut _ _ D.a2 ho);refine QQ (Sv o2 rfl (QQ (UE o2 fun g3 o3 s3=>?_)));have o3:Sr g3 TO x b:=o3;refine QQ (Uk (QU (QQ (QQ (UZ ?_)))));show QX _ _ (RE (.ref i2) >>= _) _ _ _;refine QQ (xa (((d2.ext s1.extBut D.a4).ext s2.extBut D.b1.symm).ext s3.extBut D.a9.symm) (((q2.ext s1.extBut D.e1).ext s2.extBut D.e3).ext s3.extBut D.e2) hy fun g4 w4 s4=>QU ?_);have o4:Sr g4 TO x b:=s4.extBut _ _ D.a9 o3;refine QQ (Sv o4 rfl (QQ (UE o4 fun g5 o5 s5=>?_)));have o5:Sr g5 TO x y:=o5;refine QQ (Uk (QU (QU (QQ (Sv o5 rfl (QQ (UQ ?_)))))));have sz:g5.objs.size=s.heap.objs.size:=by rw[s5.1,s4.1,s3.1,s2.1,s1.1]
 have z5:Tz g5 z TI TO .ellipsis:=s5.extBut _ _ D.a2.symm (s4.extBut _ _ D.a4.symm (s3.extBut _ _ D.a2.symm (s2.extBut _ _ D.a3.symm z1)));have k5:∀c o,c≠z->c≠TO->c≠i1->c≠i2->s.heap.get? c=some o->g5.get? c=some o:=fun c o n1 n2 n3 n4 e=>
  s5.extBut _ _ n2 (s4.extBut _ _ n4 (s3.extBut _ _ n2 (s2.extBut _ _ n3 (s1.extBut _ _ n1 e))))
 have w15:Dr b1 g5 i1 l1 (k+1):=((w2.ext s3.extBut D.a8.symm).ext s4.extBut D.b1).ext s5.extBut D.a8.symm;have w25:Dr b2 g5 i2 l2 (k+1):=w4.ext s5.extBut D.a9.symm;have zlt:z<g5.objs.size:=Q1 z5;show QX _ _ (TZ (.ref z) (.ref g5.objs.size) >>= _) _ _ _;refine QQ ?_;unfold TZ;have z6:Tz (g5.push { cls:=.type "tuple",data:=.seq #[x,y] }) z TI TO .ellipsis:=QW _ z5;refine QQ (RK z6 (by simp) fun g7 z7 s7=>?_);have z7:Tz g7 z TI TO (RH g5.objs.size):=z7;refine RK z7 (by simp) fun g8 z8 s8=>?_
 have z8:Tz g8 z TI TO (RH g5.objs.size):=z8;have up:∀c o,c≠z->g5.get? c=some o->g8.get? c=some o:=fun c o n e=>s8.extBut _ _ n (s7.extBut _ _ n (QW _ e));have t8:Sr g8 g5.objs.size x y:=s8.extBut _ _ (MU zlt) (s7.extBut _ _ (MU zlt) (Q0 _ rfl));have e8:g8.objs.size=g5.objs.size+1:=by rw[s8.1,s7.1,RG]
 rw[sz]at z8 t8 e8;refine QU ⟨_,rfl,?_⟩;show Q (.ref g5.objs.size) _;rw[sz];exact r g8 z8 (up _ _ D.a2 o5) (w15.at fun o e=>up _ o D.a3 e) (w25.at fun o e=>up _ o D.a4 e) t8 e8 fun c o n1 n2 n3 n4 e=>up c o n1 (k5 c o n1 n2 n3 n4 e)
theorem zEnd{TI TO:QS}{k:Nat}{b:QR}{Q:Fin->QV->Prop}(hh:A.handled=none)(D:Off z TI TO i1 i2 l1 l2)
  (hz:Tz s.heap z TI TO .none) (hi:Sr s.heap TI (.ref i1) (.ref i2)) (ho:Sr s.heap TO a b)
  (d1:Dr b1 s.heap i1 l1 k) (d2:Dr b2 s.heap i2 l2 k) (q1:Sq b1 s.heap l1 xs) (q2:Sq b2 s.heap l2 ys) (hn:xs[k]?=none\/ys[k]?=none)
  (r:∀g e,(∀c o,c≠z->c≠TO->c≠i1->c≠i2->s.heap.get? c=some o->g.get? c=some o)->(∃o,g.get? e=some o/\o.cls=.type "StopIteration")->E (.ref e) {s with heap:=g}) :
  QX (Q3 prog w) A (RW.«zip.__next__» ⟨[.ref z],[]⟩) Q E s:=by
 show QX _ _ (VT (.ref z) 2 >>= _) _ _ _;refine QQ (RI hz rfl (x:=.bool false) rfl ?_);show QX _ _ (VT (.ref z) 3 >>= _) _ _ _;refine QQ (RI hz rfl (x:=.ref TI) rfl (QQ (Sv hi rfl ?_)));show QX _ _ (Se (.ref z) >>= _) _ _ _;refine QQ ?_;unfold Se;refine QQ (RI hz rfl (x:=.none) rfl (QU ?_));simp only[if_true];refine QQ (Sy (QQ (RI hz rfl (x:=.ref TO) rfl (QQ (RK hz (by simp) fun g1 z1 s1=>?_)))));have z1:Tz g1 z TI TO .ellipsis:=z1;refine QQ ?_;simp only[OR,Qj,O6,Ph];refine QQ (QQ (UZ ?_));show QX _ _ (RE (.ref i1) >>= _) _ _ _;cases hx:xs[k]? with
 |none=>
  refine QQ (Gp hh (d1.ext s1.extBut D.a3) (q1.ext s1.extBut D.c1) hx fun g2 e s2 he=>?_);obtain⟨oe,hoe,ce⟩:=he;have z2:Tz g2 z TI TO .ellipsis:=s2 _ _ D.a3.symm z1;have ne:e≠z:=fun q=>by subst q;rw[z2]at hoe;cases hoe;simp at ce
  exact RK z2 (by simp) fun g3 _ s3=>r g3 e (fun c o n1 _ n3 _ q=>s3.extBut _ _ n1 (s2 _ _ n3 (s1.extBut _ _ n1 q))) ⟨oe,s3.extBut _ _ ne hoe,ce⟩
 |some x=>
  have hy:ys[k]?=none:=by
   rcases hn with h|h
   ·rw[hx]at h;cases h
   exact h
  refine QQ (xa (d1.ext s1.extBut D.a3) (q1.ext s1.extBut D.c1) hx fun g2 w2 s2=>QU ?_);have o2:Sr g2 TO a b:=s2.extBut _ _ D.a8 (s1.extBut _ _ D.a2 ho);refine QQ (Sv o2 rfl (QQ (UE o2 fun g3 o3 s3=>?_)));refine QQ (Uk (QU (QQ (QQ (UZ ?_)))));show QX _ _ (RE (.ref i2) >>= _) _ _ _;refine QQ (Gp hh (((d2.ext s1.extBut D.a4).ext s2.extBut D.b1.symm).ext s3.extBut D.a9.symm) (((q2.ext s1.extBut D.e1).ext s2.extBut D.e3).ext s3.extBut D.e2) hy fun g4 e s4 he=>?_);obtain⟨oe,hoe,ce⟩:=he;have z4:Tz g4 z TI TO .ellipsis:=s4 _ _ D.a4.symm (s3.extBut _ _ D.a2.symm (s2.extBut _ _ D.a3.symm z1));have ne:e≠z:=fun q=>by subst q;rw[z4]at hoe;cases hoe;simp at ce
  exact RK z4 (by simp) fun g5 _ s5=>r g5 e (fun c o n1 n2 n3 n4 q=>s5.extBut _ _ n1 (s4 _ _ n4 (s3.extBut _ _ n2 (s2.extBut _ _ n3 (s1.extBut _ _ n1 q))))) ⟨oe,s5.extBut _ _ ne hoe,ce⟩
theorem wo{TI TO:QS}{k:Nat}{x y b:QR}{Q:Option QR->QV->Prop}(D:Off z TI TO i1 i2 l1 l2)
  (hz:Tz s.heap z TI TO .none) (hi:Sr s.heap TI (.ref i1) (.ref i2)) (ho:Sr s.heap TO a b)
  (d1:Dr b1 s.heap i1 l1 k) (d2:Dr b2 s.heap i2 l2 k) (q1:Sq b1 s.heap l1 xs) (q2:Sq b2 s.heap l2 ys) (hx:xs[k]?=some x) (hy:ys[k]?=some y)
  (r:∀g,Tz g z TI TO (RH s.heap.objs.size)->Sr g TO x y->Dr b1 g i1 l1 (k+1)->Dr b2 g i2 l2 (k+1)->Sr g s.heap.objs.size x y->g.objs.size=s.heap.objs.size+1->
   (∀c o,c≠z->c≠TO->c≠i1->c≠i2->s.heap.get? c=some o->g.get? c=some o)->Q (some (.ref s.heap.objs.size)) {s with heap:=g}) :
  QX (Q3 prog w) A (R7 (.ref z)) Q E s:=by
 have hT:s.TypeIs (.ref z) "zip":=⟨_,hz,rfl⟩;unfold R7;refine QQ (RZ (Ry (name:=RP "__next__") hT UG (Rz UG hT WD ?_ (Wr _))));exact JV D hz hi ho d1 d2 q1 q2 hx hy fun g p1 p2 p3 p4 p5 p6 p7=>QU (r g p1 p2 p3 p4 p5 p6 p7)
theorem xA{TI TO:QS}{k:Nat}{b:QR}{Q:Option QR->QV->Prop}(hh:A.handled=none)(D:Off z TI TO i1 i2 l1 l2)
  (hz:Tz s.heap z TI TO .none) (hi:Sr s.heap TI (.ref i1) (.ref i2)) (ho:Sr s.heap TO a b)
  (d1:Dr b1 s.heap i1 l1 k) (d2:Dr b2 s.heap i2 l2 k) (q1:Sq b1 s.heap l1 xs) (q2:Sq b2 s.heap l2 ys) (hn:xs[k]?=none\/ys[k]?=none)
  (r:∀g,(∀c o,c≠z->c≠TO->c≠i1->c≠i2->s.heap.get? c=some o->g.get? c=some o)->Q none {s with heap:=g}):QX (Q3 prog w) A (R7 (.ref z)) Q E s:=by
 have hT:s.TypeIs (.ref z) "zip":=⟨_,hz,rfl⟩;unfold R7;refine QQ (RZ (Ry (name:=RP "__next__") hT UG (Rz UG hT WD (zEnd hh D hz hi ho d1 d2 q1 q2 hn fun g e k he=>?_) (Wr _))));obtain⟨o,he,hc⟩:=he;exact QQ (Tb (T:="StopIteration") (b:=true) ⟨o,he,hc⟩ T8 (QU (r _ k)))
end
noncomputable def nm(b:Bool):String:=if b=true then "tuple_iterator" else "list_iterator"
abbrev Z1(h:Q_)(b1:Bool)(l1:QS):Q_:=h.push { cls:=.type (nm b1),data:=.fields #[.ref l1,.int 0 0] }
abbrev Z2(h:Q_)(b1 b2:Bool)(l1 l2:QS):Q_:=(Z1 h b1 l1).push { cls:=.type (nm b2),data:=.fields #[.ref l2,.int 0 0] }
abbrev Z3(h:Q_)(b1 b2:Bool)(l1 l2:QS):Q_:=(Z2 h b1 b2 l1 l2).push { cls:=.type "tuple",data:=.seq #[.ref h.objs.size,.ref (Z1 h b1 l1).objs.size] }
abbrev Z4(h:Q_)(b1 b2:Bool)(l1 l2:QS):Q_:=(Z3 h b1 b2 l1 l2).push { cls:=.type "tuple",data:=.seq #[.none,.none] }
abbrev Z5(h:Q_)(b1 b2:Bool)(l1 l2:QS):Q_:=(Z4 h b1 b2 l1 l2).push { cls:=.type "zip",data:=.fields #[.none,.bool false,.bool false,.ref (Z2 h b1 b2 l1 l2).objs.size,.ref (Z3 h b1 b2 l1 l2).objs.size] }
theorem ED(b1 b2:Bool)(l1 l2:QS)(xs ys:Array QR) :
  Meets (RW.«zip.__new__» ⟨[.type "zip",.ref l1,.ref l2],[]⟩) (fun _ R s=>Sq b1 s.heap l1 xs/\Sq b2 s.heap l2 ys/\R (.ok (.ret (.ref (Z4 s.heap b1 b2 l1 l2).objs.size))) {s with heap:=Z5 s.heap b1 b2 l1 l2}):=
 .of_wp fun prog w A R s h=>by
  obtain⟨hp,g,d,tk,os⟩:=s;obtain⟨q1,q2,h⟩:=h;have hsub:=sub_zip;cases b1 with
  |false=>
   have p1:Wx (Ul ⟨hp,g,d,tk,os⟩) l1 xs:=q1;cases b2 with
   |false=>
    have p2:Wx (Ul ⟨hp.push { cls:=.type "list_iterator",data:=.fields #[.ref l1,.int 0 0] },g,d,tk,os⟩) l2 ys:=WE q2 _
    wp_walk using Sj p1,Sj p2
    exact⟨_,rfl,h⟩
   |true=>
    have p2:Wi (Ul ⟨hp.push { cls:=.type "list_iterator",data:=.fields #[.ref l1,.int 0 0] },g,d,tk,os⟩) l2 ys:=Ws q2 _
    wp_walk using Sj p1,Sx p2
    exact⟨_,rfl,h⟩
  |true=>
   have p1:Wi (Ul ⟨hp,g,d,tk,os⟩) l1 xs:=q1;cases b2 with
   |false=>
    have p2:Wx (Ul ⟨hp.push { cls:=.type "tuple_iterator",data:=.fields #[.ref l1,.int 0 0] },g,d,tk,os⟩) l2 ys:=WE q2 _
    wp_walk using Sx p1,Sj p2
    exact⟨_,rfl,h⟩
   |true=>
    have p2:Wi (Ul ⟨hp.push { cls:=.type "tuple_iterator",data:=.fields #[.ref l1,.int 0 0] },g,d,tk,os⟩) l2 ys:=Ws q2 _
    wp_walk using Sx p1,Sx p2
    exact⟨_,rfl,h⟩
section
variable{prog:Q5}{w:Q8}{A:Rh}{E:QR->QV->Prop}{s:QV}
theorem Bp(q1:Sq b1 s.heap l1 xs)(q2:Sq b2 s.heap l2 ys)
  (r:∀g,Tz g (s.heap.objs.size+4) (s.heap.objs.size+2) (s.heap.objs.size+3) .none->Sr g (s.heap.objs.size+2) (.ref s.heap.objs.size) (.ref (s.heap.objs.size+1))->Sr g (s.heap.objs.size+3) .none .none->
    Dr b1 g s.heap.objs.size l1 0->Dr b2 g (s.heap.objs.size+1) l2 0->g.objs.size=s.heap.objs.size+5->(∀c o,s.heap.get? c=some o->g.get? c=some o)->Q (.ref (s.heap.objs.size+4)) {s with heap:=g}) :
  QX (Q3 prog w) A (call (.type "zip") [.ref l1,.ref l2]) Q E s:=by
 refine callType_new F.called_zip (by decide) (F.typeCall_zip_2 _ _) (F.newCall_zip_2 _ _) (fun obj=>F.args_object_init_3 obj _ _) F.entry_zip_new (ED b1 b2 l1 l2 xs ys) ⟨q1,q2,?_⟩;have z1:(Z1 s.heap b1 l1).objs.size=s.heap.objs.size+1:=RG ..;have z2:(Z2 s.heap b1 b2 l1 l2).objs.size=s.heap.objs.size+2:=by rw[RG,z1]
 have z3:(Z3 s.heap b1 b2 l1 l2).objs.size=s.heap.objs.size+3:=by rw[RG,z2]
 have z4:(Z4 s.heap b1 b2 l1 l2).objs.size=s.heap.objs.size+4:=by rw[RG,z3]
 have z5:(Z5 s.heap b1 b2 l1 l2).objs.size=s.heap.objs.size+5:=by rw[RG,z4]
 have u5:∀c o,(Z4 s.heap b1 b2 l1 l2).get? c=some o->(Z5 s.heap b1 b2 l1 l2).get? c=some o:=fun c o e=>QW _ e;have u4:∀c o,(Z3 s.heap b1 b2 l1 l2).get? c=some o->(Z5 s.heap b1 b2 l1 l2).get? c=some o:=fun c o e=>u5 c o (QW _ e);have u3:∀c o,(Z2 s.heap b1 b2 l1 l2).get? c=some o->(Z5 s.heap b1 b2 l1 l2).get? c=some o:=fun c o e=>u4 c o (QW _ e);have u2:∀c o,(Z1 s.heap b1 l1).get? c=some o->(Z5 s.heap b1 b2 l1 l2).get? c=some o:=fun c o e=>u3 c o (QW _ e);have g5:(Z5 s.heap b1 b2 l1 l2).get? (Z4 s.heap b1 b2 l1 l2).objs.size=some _:=Q0 _ rfl;have g4:=u5 (Z3 s.heap b1 b2 l1 l2).objs.size _ (Q0 _ rfl);have g3:=u4 (Z2 s.heap b1 b2 l1 l2).objs.size _ (Q0 _ rfl);have g2:=u3 (Z1 s.heap b1 l1).objs.size _ (Q0 _ rfl);have g1:=u2 s.heap.objs.size _ (Q0 _ rfl);show _/\_;rw[z2,z3,z4]at g5;rw[z1,z2]at g3;rw[z3]at g4;rw[z1]at g2;rw[z4];refine⟨⟨_,g5,rfl⟩,r _ g5 g3 g4 ?_ ?_ z5 fun c o e=>u2 c o (QW _ e)⟩
 ·cases b1 with
  |true=>exact⟨_,g1,rfl,rfl⟩
  |false=>exact⟨_,g1,rfl,rfl⟩
 cases b2 with
 |true=>exact⟨_,g2,rfl,rfl⟩
 |false=>exact⟨_,g2,rfl,rfl⟩
end
end ZG
namespace L2
open PySem PySem.Spec PyProof.Rows
noncomputable def dW(env:Env):List (Str×S_)->List (Str×QS)->List (Str×QS)
 | [],cs=>cs
 |x::r,cs=>dW env r (if(x.2 == Ss)=true then(x.1,(env.cells.lookup x.1).getD 0)::cs else cs)
theorem pT{env:Env}(f:Str×S_->List (Str×QS)->Sem (ForInStep (List (Str×QS))))(hf:∀n k cs,f (n,k) cs=if(k == Ss)=true then(do let a <-cellOf env n;pure (Rg ((n,a)::cs)))else pure (Rg cs)) :
  ∀(names:List (Str×S_)) (cs:List (Str×QS)),(∀x∈names,x.2=.free->∃c,env.cells.lookup x.1=some c)->forIn names cs f=pure (dW env names cs)
 | [],cs,_=>by rw[Ph];rfl
 | (n,k)::r,cs,h=>by
  rw[O6,hf];have hr:∀x∈r,x.2=.free->∃c,env.cells.lookup x.1=some c:=fun x hx=>h x (n_ _ hx);by_cases e:(k == Ss)=true
  ·obtain⟨c,hc⟩:=h (n,k) u_ (by simpa using e);have hc':env.cells.lookup n=some c:=hc;rw[if_pos e];have q:cellOf env n=pure c:=by unfold cellOf;rw[hc']
   rw[q,pure_bind,pure_bind];show forIn r ((n,c)::cs) f=pure (dW env ((n,k)::r) cs);rw[pT f hf r _ hr];unfold dW;rw[if_pos e,hc'];cases r <;> rfl
  rw[if_neg e,pure_bind];show forIn r cs f=pure (dW env ((n,k)::r) cs);rw[pT f hf r _ hr]
  conv=>rhs;unfold dW
  rw[if_neg e]
variable {sc:R6}
theorem qP{env:Env}(h:∀x∈sc.names,x.2=.free->∃c,env.cells.lookup x.1=some c):closureFor sc env=pure (dW env sc.names []):=by
 unfold closureFor;show(forIn sc.names [] _ >>= fun cs=>pure cs)=_;rw[pT (env:=env) _ (fun n k cs=>by cases e:k == Ss <;> simp[e]) sc.names [] h]
 rfl
theorem vv{env:Env}:∀{names:List (Str×S_)}{cs:List (Str×QS)}{x:Str}{c:QS},(∀y∈names,y.2=.free->∃c,env.cells.lookup y.1=some c)->(dW env names cs).lookup x=some c->
  (env.cells.lookup x=some c/\(x,Ss)∈names)\/cs.lookup x=some c
 | [],cs,x,c,_,h=>.inr h
 | (n,k)::r,cs,x,c,hn,h=>by
  unfold dW at h;have hr:∀y∈r,y.2=.free->∃c,env.cells.lookup y.1=some c:=fun y hy=>hn y (n_ _ hy);have hh:=vv hr h;clear h;rcases hh with⟨h1,h2⟩|h
  ·exact .inl ⟨h1,n_ _ h2⟩
  by_cases e:(k == Ss)=true
  ·rw[if_pos e]at h;obtain⟨c',hc⟩:=hn (n,k) u_ (by simpa using e);have hc':env.cells.lookup n=some c':=hc;rw[hc',NH]at h;by_cases ex:(x == n)=true
   ·rw[ex]at h;have ex':x=n:=by simpa using ex
    have ek:k=Ss:=by simpa using e
    subst ex' ek;have h':c'=c:=H_ h;subst h';exact .inl ⟨hc',u_⟩
   have ex':(x == n)=false:=by simpa using ex
   rw[ex']at h;exact .inr h
  rw[if_neg e]at h;exact .inr h
theorem vX{env:Env}:∀{names:List (Str×S_)}{cs:List (Str×QS)}{x:Str}{c:QS},(∀y∈names,y.2=.free->∃c,env.cells.lookup y.1=some c)->env.cells.lookup x=some c->cs.lookup x=some c->(dW env names cs).lookup x=some c
 | [],cs,x,c,_,_,h=>h
 | (n,k)::r,cs,x,c,hn,he,h=>by
  unfold dW;refine vX (fun y hy=>hn y (n_ _ hy)) he ?_;by_cases e:(k == Ss)=true
  ·rw[if_pos e,NH];by_cases ex:(x == n)=true
   ·rw[ex];have ex':x=n:=by simpa using ex
    subst ex';show some ((env.cells.lookup x).getD 0)=some c;rw[he];rfl
   have ex':(x == n)=false:=by simpa using ex
   rw[ex'];exact h
  rw[if_neg e];exact h
theorem uy{env:Env}:∀{names:List (Str×S_)}{cs:List (Str×QS)}{x:Str}{c:QS},(∀y∈names,y.2=.free->∃c,env.cells.lookup y.1=some c)->env.cells.lookup x=some c->(x,Ss)∈names->(dW env names cs).lookup x=some c
 | (n,k)::r,cs,x,c,hn,he,hm=>by
  have hr:∀y∈r,y.2=.free->∃c,env.cells.lookup y.1=some c:=fun y hy=>hn y (n_ _ hy);unfold dW;rcases p_.mp hm with e|hm
  ·obtain⟨rfl,rfl⟩:=QJ e;rw[if_pos (by rfl)];refine vX hr he ?_;rw[NH,beq_self_eq_true];show some ((env.cells.lookup x).getD 0)=some c;rw[he];rfl
  exact uy hr he hm
noncomputable def qK(env:Env)(sc:R6):R6:={sc with names:=sc.names.map fun x=>if(x.2 == .free&&env.scope.kind == .function&&env.kindOf x.1 == some .cell)=true then(x.1,.cell)else(x.1,x.2) }
theorem mV{f:Str×S_->Bool}(x:Str):∀names:List (Str×S_),(names.map fun y=>if f y=true then(y.1,Y4)else(y.1,y.2)).lookup x=(names.lookup x).map fun k=>if f (x,k)=true then .cell else k
 | []=>rfl
 | (n,k)::r=>by
  rw[k_];by_cases ex:(x == n)=true
  ·have ex':x=n:=by simpa using ex
   subst ex';cases e:f (x,k) <;> simp[e,NH]
  have ex':(x == n)=false:=by simpa using ex
  have ih:=mV (f:=f) x r;cases e:f (n,k) <;> simp only[e,if_true,if_false,G',NH,ex',ih]
theorem ng(env:Env)(sc:R6)(x:Str):(qK env sc).names.lookup x=(sc.names.lookup x).map fun k=>if(k == .free&&env.scope.kind == .function&&env.kindOf x == some .cell)=true then .cell else k:=
 mV (f:=fun y=>(y.2 == .free&&env.scope.kind == .function&&env.kindOf y.1 == some .cell)) x sc.names
def compEnv(env:Env)(sc:R6)(L:QS):Env:={ newEnv sc L env.globals (dW env sc.names []) env.qual none .none (some env) VN with scope:=qK env sc}
variable {Q:QR->QV->Prop}{e:Q9}{gs:List U0}{newAcc:Sem QR}{pos:Pos}{scope:R6}
section
variable{M:Ts}{A:Rh}{E:QR->QV->Prop}{s:QV}{env:Env}
theorem nL{first:Sem QR}{g:U0}
  (hcl:clausesOf e=g::gs) (hs:∀x,R1 g.iter env x=pure x)
  (hc:∀x∈scope.names,x.2≠.cell) (hfr:∀x∈scope.names,x.2=.free->∃c,env.cells.lookup x.1=some c) (hkind:scope.kind=.function) (hnames:∀x∈scope.names,x.2=.local->scope.names.lookup x.1=some .local)
  (h:QX M A first (fun x s₁=>QX M A (Uh x) (fun it s₂=>QX M A newAcc (fun acc s₃=>
   ∀h4,h4.Ns s₃.heap.objs.size (fun _=>none)->(∀b o,s₃.heap.get? b=some o->h4.get? b=some o)->
    SM M A (.compStart e 0 it acc (compEnv env scope s₃.heap.objs.size)) (fun r s'=>∃m,s'.heap.Ns s₃.heap.objs.size m/\∀h',Rq s₃.heap.objs.size s'.heap h'->
     match r with | .ok _=>Q acc {s' with heap:=h'} | .error x=>False) { s₃ with heap:=h4}) E s₂) E s₁) E s) :
  QX M A (Ut e scope env pos newAcc false first) Q E s:=by
 unfold Ut;rw[qP hfr,hcl];refine QQ (RA h (fun x s₁ h₁=>QQ (Uq (QQ (Tr (hs x) (QQ (Rm (RA h₁ (fun it s₂ h₂=>
  XF (QQ (RA h₂ (fun acc s₃ h₃=>QQ (QU (QQ ?_))) fun _ _ h'=>h')))
   fun _ _ h'=>h'))))))) fun _ _ h'=>h')
 refine VY hc (fun x hx=>nomatch hx) (fun h4 hn4 hs4=>?_) hkind;have h₄:=h₃ h4 hn4 fun b o e=>hs4.extBut b o (s_ (Q1 e)) (QW _ e);dsimp only;have hv:∀x∈(scope.names.filter fun x=>(x.2 == .local || x.2 == .cell)&&x.1 !=(".0":Str)).reverse,x.2=.local->
   WX (compEnv env scope s₃.heap.objs.size) x.1=some .local:=fun x hx hl=>by
  show(qK env scope).names.lookup x.1=some .local;rw[ng,hnames x (LZ.mp (Ng.mp hx)).1 hl]
  rfl
 refine Rm (QQ (RZ (Rm (wpAny_run (S9 h₄ fun r s' hr=>?_)))));obtain⟨m,hn,hr⟩:=hr;cases r with
 |ok f=>exact QQ (Rm (WG (cenv:=compEnv env scope s₃.heap.objs.size) hkind _ s' m hv hn fun h' m' _ hs'=>QU (hr h' hs')))
 |error x=>exact(hr s'.heap (.refl ..)).elim
end
variable {elt iter target:Q9}{ifs:List Q9}
section
variable{prog:Q5}{w:Q8}{A:Rh}{R:We->QV->Prop}{s:QV}
theorem oE{it acc:QR}{env:Env}(I:Nat->QV->Prop)
  (turn:∀n s,I n s->QX (Q3 prog w) A (R7 it) (fun r s₁=>match r with
   |none=>R (.ok .next) s₁
   |some v=>QX (Q3 prog w) A (UB target it v) (fun _ s₁'=>QX (Q3 prog w) A (Ug target env v) (fun _ s₂=>
     QX (Q3 prog w) A (forIn ifs true fun c r=>if r=true then do let ok <-Wa c env (Rw c env);pure (Rg ok)else pure (Rg r)) (fun ok s₃=>
      if ok=true then QX (Q3 prog w) A (Rw elt env) (fun x s₄=>
       QX (Q3 prog w) A (call (.builtin "list.append") [acc,x]) (fun _ s₅=>∃m,m<n/\I m s₅) (fun _ _=>False) s₄) (fun _ _=>False) s₃
      else ∃m,m<n/\I m s₃) (fun _ _=>False) s₂) (fun _ _=>False) s₁') (fun _ _=>False) s₁) (fun _ _=>False) s)
  (n:Nat) (h:I n s) :
  SM (Q3 prog w) A (.compLoop (.ListComp elt [⟨target,iter,ifs,0⟩] scope pos) 0 it acc env) R s:=by
 refine codeAny_loop rfl I (fun n s hI=>?_) n h;show QX _ A ((compTurn (.ListComp elt [⟨target,iter,ifs,0⟩] scope pos) 0 it acc env).onRaise (fun x=>do noteFrame x env;theTreesLotGoes x)) _ _ s;refine wpAny_noted ?_;rw[compTurn_list];refine QQ (Uq (QQ (RA (turn n s hI) (fun r s₁ h₁=>?_) fun _ _ h'=>h'.elim)));cases r with
 |none=>exact QU h₁
 |some v=>
  refine QQ (RA h₁ (fun _ s₁' h₁'=>?_) fun _ _ h'=>h'.elim);refine QQ (RA h₁' (fun _ s₂ h₂=>QQ (RA h₂ (fun ok s₃ h₃=>?_) fun _ _ h'=>h'.elim)) fun _ _ h'=>h'.elim);cases ok with
  |false=>exact QU ⟨rfl,h₃⟩
  |true=>
   exact QQ (QQ (RA h₃ (fun x s₄ h₄=>QQ (RA h₄ (fun _ s₅ h₅=>QU (QU ⟨rfl,h₅⟩)) fun _ _ h'=>h'.elim)) fun _ _ h'=>h'.elim))
end
def b7(X:Cx)(N':List Str)(sc:R6)(s3:QV)(H3:Hp)(fp:List QS):Cx where
 prog:=X.prog
 w:=X.w
 K:=X.K
 mg:=X.mg
 base:=X.base
 A:=X.A
 N:=N'
 s₀:=s3
 H₀:=H3
 env:=compEnv X.env sc s3.heap.objs.size
 outer:=X.stack
 stack:=X.stack
 ex:=fp
 calm:=true
 fn:=fun _=>false
 pn:=[]
 xe:=fun _ _=>False
noncomputable def kN(N:List Str)(esc sc:R6)(N':List Str)(fr:List (Option Nat)):Bool:=
 sc.kind == .function&&esc.kind == .function
 && sc.names.all (fun y=>(y.2 != .cell)&&(y.2 != .free || esc.names.lookup y.1 == some .cell)&&(y.2 != .local || sc.names.lookup y.1 == some .local))
 && fr.length == N'.length
 && (B' N'.length).all (fun i=>match fr[i]? with
  |some (some j)=>match N'[i]? with
   |some x=>N[j]? == some x&&sc.names.lookup x == some .free
   |none=>false
  | _=>true)
structure CompOk (N:List Str) (esc sc:R6) (N':List Str) (fr:List (Option Nat)):Prop where
 kind:sc.kind=.function
 ekind:esc.kind=.function
 nocell:∀x∈sc.names,x.2≠.cell
 free:∀x∈sc.names,x.2=.free->esc.names.lookup x.1=some .cell
 names:∀x∈sc.names,x.2=.local->sc.names.lookup x.1=some .local
 len:fr.length=N'.length
 at_:∀(i j:Nat) (x:Str),fr[i]?=some (some j)->N'[i]?=some x->N[j]?=some x/\sc.names.lookup x=some .free
variable {N N':List Str}{esc:R6}{fr:List (Option Nat)}
theorem sf(h:kN N esc sc N' fr=true):CompOk N esc sc N' fr:=by
 unfold kN at h;simp only[Mc,beq_iff_eq,Nh,LP]at h;obtain⟨⟨⟨⟨h1,h2⟩,h3⟩,h4⟩,h5⟩:=h;refine⟨h1,h2,fun x hx=>?_,fun x hx e=>?_,fun x hx e=>?_,h4,fun i j x e1 e2=>?_⟩
 ·have:=(h3 x hx).1.1;simpa using this
 ·have:=(h3 x hx).1.2;rw[e]at this;simpa using this
 ·have:=(h3 x hx).2;rw[e]at this;simpa using this
 have hi:i<N'.length:=(c_.mp e2).1;have q:=h5 i hi;rw[e1,e2]at q;simpa using q
noncomputable def cx(fr:List (Option Nat))(σ:St):St:=fr.map fun o=>match o with
 |some j=>(σ[j]?).join
 |none=>none
variable {X:Cx}
theorem vJ{ac:List (QS×Obj)}{σ:St}{H3:Hp}{s3:QV}{fp:List QS}{h4:Q_}(I:Inv X ac σ H3 s3)(C:CompOk X.N X.env.scope sc N' fr)(hc:X.calm=true)
  (hfp:∀b∈fp,mI X ac H3 b) (hfo:∀b∈fp,∃o,s3.heap.get? b=some o) (hn:h4.Ns s3.heap.objs.size (fun _=>none)) (hk:∀b o,s3.heap.get? b=some o->h4.get? b=some o) :
  Inv (b7 X N' sc s3 H3 fp) [] (cx fr σ) H3 {s3 with heap:=h4}:=by
 have hfr:∀x∈sc.names,x.2=.free->∃c,X.env.cells.lookup x.1=some c:=fun x hx e=>I.ok.has x.1 (.inl (C.free x hx e));have clo:∀{x c},(dW X.env sc.names []).lookup x=some c->X.env.cells.lookup x=some c:=fun{x c} e=>by
  rcases vv hfr e with⟨h1,_⟩|h
  ·exact h1
  cases h
 have nfs:∀b∈fp,b ∉ frs X.stack:=fun b hb z=>by
  obtain⟨_,h1,h2,_⟩:=hfp b hb;rcases p_.mp (I.xM b z)with e|e
  ·exact h1 e
  exact h2 e
 have hfresh:H3 s3.heap.objs.size=none:=I.hok.fresh (b_ _);refine⟨⟨I.ok.mod,C.kind,I.ok.glob,I.ok.blt,b_ _,fun x y c e1 e2=>I.ok.inj x y c (clo e1) (clo e2),fun x hx=>?_,fun x c z=>(nomatch z),fun _=>I.ok.hd hc,I.ok.frames,.inl rfl,fun b hb=>⟨?_,fun x c e=>?_⟩,fun b o e=>I.bs b o e,m_ I.ok.bsz I.sz,fun b o e hb=>?_,nfs,I.stack,I.yB⟩,
  rfl,I.bare,Un.kept hk,⟨_,hn,fun i x v e1 e2 e3=>?_⟩,fun x c e=>?_,hfresh,fun x c e=>I.freeC x c (clo e),fun p hp=>(nomatch hp),I.hok.kept hk,?_⟩
 ·have hx:(qK X.env sc).names.lookup x=some .cell\/(qK X.env sc).names.lookup x=some .free:=hx;rw[ng]at hx;cases e:sc.names.lookup x with
  |none=>rw[e]at hx;rcases hx with z|z <;> cases z
  |some k=>
   have hm:(x,k)∈sc.names:=Sn e;have hk:k=.free:=by
    rw[e]at hx;cases k with
    |free=>rfl
    |cell=>exact absurd rfl (C.nocell _ hm)
    | _=>rcases hx with z|z <;>(simp at z)
   subst hk;obtain⟨c,hc'⟩:=hfr _ hm rfl;exact⟨c,uy hfr hc' hm⟩
 ·obtain⟨o,ho⟩:=hfo b hb;exact s_ (Q1 ho)
 ·exact(hfp b hb).2.2.2.2.1 x c (clo e)
 ·obtain⟨e1,_⟩:=I.ok.bs b o e;rcases(hfp b hb).2.2.2.1 with z|z
  ·exact I.ok.noex b o e z
  exact absurd (A' (Q1 e1) z) (MP _)
 ·have e2:(cx fr σ)[i]?=some (some v):=e2;unfold cx at e2;rw[B_]at e2;cases ef:fr[i]? with
  |none=>rw[ef]at e2;cases e2
  |some o=>
   rw[ef]at e2;cases o with
   |none=>cases e2
   |some j=>
    have e2':(σ[j]?).join=some v:=by simpa using e2
    have e2'':σ[j]?=some (some v):=by
     cases q:σ[j]? with
     |none=>rw[q]at e2';cases e2'
     |some z=>rw[q]at e2';exact congrArg some e2'
    obtain⟨hN,hfrx⟩:=C.at_ i j x ef e1;have hm:(x,Ss)∈sc.names:=Sn hfrx;have hcell:=C.free _ hm rfl;obtain⟨m,_,hl⟩:=I.loc;obtain⟨u,r,l⟩:=hl j x v hN e2'' (.inr (.inl hcell));refine⟨u,r,.inr ⟨.inl ?_,?_⟩⟩
    ·show(qK X.env sc).names.lookup x=some .cell;rw[ng,hfrx];have h1:X.env.kindOf x=some .cell:=hcell;have h2:X.env.scope.kind=.function:=C.ekind;simp[h1,h2]
    rcases l with⟨k,_⟩|⟨_,c,ec,ic⟩
    ·have h1:X.env.kindOf x=some .cell:=hcell;rw[h1]at k;cases k
    obtain⟨o,ho,hd⟩:=ic;exact⟨c,uy hfr ec hm,o,hk c o ho,hd⟩
 ·obtain⟨v,o,ho,hd⟩:=I.cell x c (clo e);exact⟨v,o,hk c o ho,hd⟩
 unfold cx;rw[a_];exact C.len
def PTs(X:Cx)(ifs:List Q9)(t:TT):Prop:=
 ∀(ac:List (QS×Obj)) (s:QV) (σ:St) (H:Hp) (Q:Bool->Hp->Prop),Inv X ac σ H s->t σ H Q->
  QX (Q3 X.prog X.w) X.A (forIn ifs true fun c r=>if r=true then do let ok <-Wa c X.env (Rw c X.env);pure (Rg ok)else pure (Rg r)) (TP X ac σ Q) X.xe s
noncomputable def LL:TT:=fun _ H Q=>Q true H
theorem DP:PTs X [] LL:=fun ac s σ H Q I h=>wpAny_tests_nil ⟨H,I,h⟩
theorem DR{c:Q9}{t:TT}(h:PT X c t):PTs X [c] t:=fun ac s σ H Q I q=>wpAny_tests_one (h ac s σ H Q I q)
def Jq(J:It)(fr:List (Option Nat))(g:QV->Hp->List QS->TG)(tt:QV->Hp->List QS->TT)(te:QV->Hp->List QS->TE)(σ:St)(H1:Hp)(Q:VK):Prop:=∀p,H1 p=none->∀s3 H3' fp,∃W:Nat->Nat->St->Hp->Prop,(∃m,W 0 m (cx fr σ) (upd H1 p (.lst [])))/\∀i m σ' H',W i m σ' H'->
 (J.stop i H'/\Q (.ref p) H')\/(J.go i H'/\∀x H2,J.yld i H' x H2->g s3 H3' fp x σ' H2 fun σ2 H3=>tt s3 H3' fp σ2 H3 fun b H4=>
  if b=true then te s3 H3' fp σ2 H4 fun v H5=>∃ys,H5 p=some (.lst ys)/\ys.length<sizeLine/\∃m',m'<m/\W (i+1) m' σ2 (upd H5 p (.lst (ys++[v])))else ∃m',m'<m/\W (i+1) m' σ2 H4)
def zJ(wi:TI)(fr:List (Option Nat))(g:QV->Hp->List QS->TG)(tt:QV->Hp->List QS->TT)(te:QV->Hp->List QS->TE):TE:=fun σ H Q=>wi σ H fun J H1=>Jq J fr g tt te σ H1 Q
variable {te:QV->Hp->List QS->TE}{tt:QV->Hp->List QS->TT}{wi:TI}
theorem Ew(N':List Str)(fr:List (Option Nat)){g:QV->Hp->List QS->TG}(hc:X.calm=true)(C:kN X.N X.env.scope sc N' fr=true)
  (hi:PI X target iter wi) (hg:∀s3 H3 fp,PG (b7 X N' sc s3 H3 fp) target (g s3 H3 fp)) (ht:∀s3 H3 fp,PTs (b7 X N' sc s3 H3 fp) ifs (tt s3 H3 fp)) (he:∀s3 H3 fp,PE (b7 X N' sc s3 H3 fp) elt (te s3 H3 fp))
  (hs:∀x,R1 iter X.env x=pure x:=by intro _;rfl):PE X (.ListComp elt [⟨target,iter,ifs,0⟩] sc pos) (zJ wi fr g tt te):=by
 have C:=sf C;intro ac s σ H Q I h;rw[eval_ListComp];have hfr:∀x∈sc.names,x.2=.free->∃c,X.env.cells.lookup x.1=some c:=fun x hx e=>I.ok.has x.1 (.inl (C.free x hx e));refine nL (g:=⟨target,iter,ifs,0⟩) (gs:=[]) rfl hs C.nocell hfr C.kind C.names ?_;show QX _ _ (Rw iter X.env) _ _ s;refine thn (hi ac s σ H _ I h) fun v s1 h1=>thn h1 fun itv s2 h2=>?_;obtain⟨it,fp,tn,J,H2,e,I2,T,st2,f2,k2⟩:=h2;subst e;refine Tn ?_ (by show 0<=sizeLine;decide);have hf:H2 s2.heap.objs.size=none:=I2.hok.fresh (b_ _);obtain⟨W,⟨m0,w0⟩,turn⟩:=k2 _ hf {s2 with heap:=s2.heap.push { cls:=.type "list",data:=.seq ([]:List QR).toArray} } (upd H2 s2.heap.objs.size (.lst [])) fp;have kp:∀b u,s2.heap.get? b=some u->(s2.heap.push { cls:=.type "list",data:=.seq ([]:List QR).toArray}).get? b=some u:=fun b u e=>QW _ e;have I3:Inv X ac σ (upd H2 s2.heap.objs.size (.lst [])) {s2 with heap:=s2.heap.push { cls:=.type "list",data:=.seq ([]:List QR).toArray} }:=
  I2.laid (t':=s2.toks) kp (b_ _) ⟨E_ _,[],0,.nil,Q0 _ rfl⟩
 have obj2:=T.obj 0 s2.heap st2;have fpne:∀b∈fp,b≠s2.heap.objs.size:=fun b hb=>by obtain⟨o,ho,_⟩:=obj2 b hb;exact s_ (Q1 ho)
 have f3:∀b∈fp,mI X ac (upd H2 s2.heap.objs.size (.lst [])) b:=fun b hb=>⟨by rw[aN (fpne b hb)];exact(f2 b hb).1,(f2 b hb).2⟩
 have st3:=T.keep 0 s2.heap _ st2 fun b hb o e=>kp b o e;have obj3:=T.obj 0 _ st3;intro h4 hn4 hk4;have st4:=T.keep 0 _ h4 st3 fun b hb o e=>hk4 b o e;have I4:=vJ (N':=N') (fr:=fr) (fp:=fp) I3 C hc f3 (fun b hb=>let ⟨o,ho,_⟩:=obj3 b hb;⟨o,ho⟩) hn4 hk4;have stat:∀{H':Hp},(∀b∈fp,H' b=none)->∀b∈fp,mI (b7 X N' sc {s2 with heap:=s2.heap.push { cls:=.type "list",data:=.seq ([]:List QR).toArray} } (upd H2 s2.heap.objs.size (.lst [])) fp) [] H' b:=fun hn b hb=>
  ⟨hn b hb,(I4.ok.exf b hb).1,I4.ok.exfs b hb,.inl hb,(I4.ok.exf b hb).2,fun p hp=>(nomatch hp)⟩
 have loop:SM (Q3 X.prog X.w) X.A (.compLoop (.ListComp elt [⟨target,iter,ifs,0⟩] sc pos) 0 (.ref it) (.ref s2.heap.objs.size) (compEnv X.env sc (s2.heap.push { cls:=.type "list",data:=.seq ([]:List QR).toArray}).objs.size))
   (fun r s'=>∃m,s'.heap.Ns (s2.heap.push { cls:=.type "list",data:=.seq ([]:List QR).toArray}).objs.size m/\∀h',Rq (s2.heap.push { cls:=.type "list",data:=.seq ([]:List QR).toArray}).objs.size s'.heap h'->
    match r with | .ok _=>EP X ac σ Q (.ref s2.heap.objs.size) {s' with heap:=h'} | .error x=>False) {s2 with heap:=h4}:=by
  refine oE (fun n s'=>∃i σ' H',Inv (b7 X N' sc {s2 with heap:=s2.heap.push { cls:=.type "list",data:=.seq ([]:List QR).toArray} } (upd H2 s2.heap.objs.size (.lst [])) fp) [] σ' H' s'/\tn i s'.heap/\(∀b∈fp,H' b=none)/\W i n σ' H') ?_ m0
   ⟨0,_,_,I4,st4,fun b hb=>(f3 b hb).1,w0⟩
  rintro n s5 ⟨i,σ5,H5,I5,st5,fr5,w5⟩;rcases turn i n σ5 H5 w5 with⟨stop,q⟩|⟨go,step⟩
  ·refine thn (T.done (b7 X N' sc _ _ fp) rfl rfl rfl rfl i [] s5 σ5 H5 (fun _ _=>False) I5 (stat fr5) st5 stop) ?_;rintro r s6 ⟨hr,I6⟩;subst hr;obtain⟨m6,hn6,_⟩:=id I6.loc;refine⟨m6,hn6,fun h' hs'=>?_⟩;have hL:H5 (s2.heap.push { cls:=.type "list",data:=.seq ([]:List QR).toArray}).objs.size=none:=I6.free;have hok':HOk X.prog X.w H5 h':=fun b u e=>by
    refine(I6.hok b u e).o8 (fun c v hc q=>(hs'.2 c ?_).trans q) (fun _ q=>q) fun _ _ q=>q;rintro rfl;rcases hc with rfl|hc
    ·rw[hL]at e;cases e
    rw[hL]at hc;cases hc
   have ub:=I6.base;have lt:∀b o,(s2.heap.push { cls:=.type "list",data:=.seq ([]:List QR).toArray}).get? b=some o->b≠(s2.heap.push { cls:=.type "list",data:=.seq ([]:List QR).toArray}).objs.size:=fun b o e=>s_ (Q1 e);have un:Un (frs X.stack) fp (upd H2 s2.heap.objs.size (.lst [])) H5 (s2.heap.push { cls:=.type "list",data:=.seq ([]:List QR).toArray}) h':=
    ⟨fun b o e n hb hx=>(hs'.2 b (lt b o e)).trans (ub.keep b o e n hb hx),fun b o e n hb hx=>let ⟨sl,z⟩:=ub.slot b o e n hb hx;⟨sl,(hs'.2 b (lt b o e)).trans z⟩,ub.free,
     fun b o e hx=>let ⟨o',z⟩:=ub.there b o e hx;⟨o',(hs'.2 b (lt b o e)).trans z⟩,ub.tups,ub.frzs,ub.tbls⟩
   refine⟨.ref s2.heap.objs.size,H5,I3.G0 (s':={s6 with heap:=h'}) (ch:=fp) I6.os un hok' I6.bare (fun b hb=>?_),rfl,q⟩;obtain⟨_,g1,g2,g3,g4,g5⟩:=f3 b hb;exact⟨g3,g1,g4,g5⟩
  refine thn (T.item (b7 X N' sc _ _ fp) rfl rfl rfl rfl i [] s5 σ5 H5 (fun _ _=>False) I5 (stat fr5) st5 go) ?_;rintro r s6 ⟨u,hr,h6⟩;subst hr;refine thn h6 ?_;rintro _ s7 ⟨x,H7,I7,r7,y7,st7,fr7⟩;have I7':=I7.pinned (stat fr7) (T.obj _ _ st7);have again:∀{σ8:St}{H8:Hp}{s8:QV},Inv (b7 X N' sc {s2 with heap:=s2.heap.push { cls:=.type "list",data:=.seq ([]:List QR).toArray} } (upd H2 s2.heap.objs.size (.lst [])) fp) ([]++o6 fp s7.heap) σ8 H8 s8->(∃m',m'<n/\W (i+1) m' σ8 H8)->
    ∃m,m<n/\∃i σ' H',Inv (b7 X N' sc {s2 with heap:=s2.heap.push { cls:=.type "list",data:=.seq ([]:List QR).toArray} } (upd H2 s2.heap.objs.size (.lst [])) fp) [] σ' H' s8/\tn i s8.heap/\(∀b∈fp,H' b=none)/\W i m σ' H':=fun{σ8 H8 s8} I8 ⟨m',hm,w8⟩=>by
   refine⟨m',hm,i+1,σ8,H8,I8.jc,T.keep _ _ _ st7 fun b hb o e=>(I8.pin (b,o) (r_ _ (r_ _ (cS hb e)))).1,fun b hb=>?_,w8⟩;obtain⟨o,e,d⟩:=T.obj _ _ st7 b hb;exact(I8.pin (b,o) (r_ _ (r_ _ (cS hb e)))).2.1
  refine thn (hg _ _ fp _ s7 σ5 H7 x u _ I7' r7 (step x H7 y7)) ?_;rintro _ s8 ⟨σ8,H8,I8,q8⟩;refine thn (ht _ _ fp _ s8 σ8 H8 _ I8 q8) ?_;rintro ok s9 ⟨H9,I9,q9⟩;cases ok with
  |false=>exact again I9 q9
  |true=>
   refine thn (he _ _ fp _ s9 σ8 H9 _ I9 q9) ?_;rintro y s10 ⟨v,H10,I10,r10,ys,hys,hl,q10⟩;refine thn (nr _ s10 σ8 H10 (.ref s2.heap.objs.size) [v] (.ref s2.heap.objs.size) [y] (fun _ H'=>∃m',m'<n/\W (i+1) m' σ8 H') I10 rfl (.cons r10 .nil) ⟨_,ys,v,rfl,rfl,hys,hl,q10⟩) ?_;rintro z s11 ⟨_,H11,I11,_,q11⟩;exact again I11 q11
 refine VC loop ?_;exact T.self X.A 0 _ _ _ st4 loop
def SqG(b:Bool)(K:QT)(H:Hp)(a:QS)(xs:List V):Prop:=match b with
 |true=>SqT K H a xs
 |false=>SqL K H a xs
variable {a:QS}{b:Bool}{xs:List V}
section
variable{X:Cx}{ac:List (QS×Obj)}{σ:St}{H:Hp}{s:QV}
theorem Inv.sq (I:Inv X ac σ H s)(h:SqG b X.K H a xs):∃its:List QR,Vals xs its/\ZG.Sq b s.heap a its.toArray/\xs.length<=sizeLine:=by
 cases b with
 |true=>exact I.tuple h
 |false=>
  obtain⟨its,r,p,z⟩:=I.list h;exact⟨its,r,p.isList,z⟩
theorem Inv.B8 (I:Inv X ac σ H s){ys:List V}(h:SqG b X.K H a xs)(h':SqG b X.K H a ys):xs=ys:=by
 cases b with
 |true=>exact I.jJ h h'
 |false=>exact I.wq h h'
theorem Inv.G1 (I:Inv X ac σ H s){b:QS}{u:HO}(h:Rd H a u)(f:mI X ac H b):a≠b:=by
 rintro rfl;rcases h with h|⟨o,h⟩
 ·rw[f.1]at h;cases h
 rw[f.1]at h;cases h
theorem Inv.KH (I:Inv X ac σ H s){b:QS}{o:Obj}(h:X.K.lookup a=some o)(f:mI X ac H b):a≠b:=by
 rintro rfl;have e:X.base.get? a=some o:=I.ok.mod.kin a o h;rcases f.2.2.2.1 with z|z
 ·exact I.ok.noex a o e z
 exact absurd (A' (Q1 (I.ok.bs a o e).1) z) (MP _)
theorem Inv.dH (I:Inv X ac σ H s){c:QS}(h:SqG b X.K H a xs)(f:mI X ac H c):a≠c:=by
 cases b with
 |true=>
  rcases h with h|⟨o,its,n,hk,_⟩
  ·exact I.G1 h f
  ·exact I.KH hk f
 |false=>
  rcases h with h|⟨o,its,n,hk,_⟩
  ·exact I.G1 h f
  exact I.KH hk f
end
def Itz(K:QT)(b1:Bool)(a1:QS)(b2:Bool)(a2:QS):It:=
  ⟨fun i H=>∃xs ys x y,SqG b1 K H a1 xs/\SqG b2 K H a2 ys/\xs[i]?=some x/\ys[i]?=some y,
   fun i H v H'=>∃p x y,H p=none/\v=.ref p/\H'=upd H p (.tup [x,y])/\(∀xs,SqG b1 K H a1 xs->xs[i]?=some x)/\∀ys,SqG b2 K H a2 ys->ys[i]?=some y,
   fun i H=>∃xs ys,SqG b1 K H a1 xs/\SqG b2 K H a2 ys/\(xs.length<=i\/ys.length<=i)⟩
structure Off5 (z TI TO i1 i2:QS):Prop where
 a1:TI≠z
 a2:TO≠z
 a3:i1≠z
 a4:i2≠z
 a5:TI≠TO
 a6:TI≠i1
 a7:TI≠i2
 a8:TO≠i1
 a9:TO≠i2
 b1:i1≠i2
variable {K:QT}{P:Q5}{es:List Q9}{w:Q8}
theorem CO{x1:Nat}{tp:Pos}(b1:Bool)(a1:QS)(b2:Bool)(a2 z TI TO i1 i2:QS)(D:Off5 z TI TO i1 i2) :
  Turn P w K (.Tuple es x1 tp) (Itz K b1 a1 b2 a2) [z,TI,TO,i1,i2] z (fun i h=>Tz h z TI TO .none/\Sr h TI (.ref i1) (.ref i2)/\(∃a b,Sr h TO a b)/\ZG.Dr b1 h i1 a1 i/\ZG.Dr b2 h i2 a2 i) where
 mem:=by simp
 obj:=fun i h st b hb=>by
  obtain⟨hz,hi,⟨a,c,ho⟩,d1,d2⟩:=st;have hb:b=z\/b=TI\/b=TO\/b=i1\/b=i2:=by simpa using hb
  rcases hb with rfl|rfl|rfl|rfl|rfl
  ·exact⟨_,hz,fun v e=>by cases (show Yf _=Wc v from e)⟩
  ·exact⟨_,hi,fun v e=>by cases (show XW _ _=Wc v from e)⟩
  ·exact⟨_,ho,fun v e=>by cases (show XW _ _=Wc v from e)⟩
  ·exact d1.some
  exact d2.some
 keep:=fun i h h' st k=>by obtain⟨hz,hi,⟨a,c,ho⟩,d1,d2⟩:=st;exact⟨k z (by simp) _ hz,k TI (by simp) _ hi,⟨a,c,k TO (by simp) _ ho⟩,d1.at fun o e=>k i1 (by simp) o e,d2.at fun o e=>k i2 (by simp) o e⟩
 item:=by
  intro X hP hw hK hc i ac s σ H E I hf st hg;subst hP hw hK;obtain⟨xs,ys,x,y,q1,q2,hx,hy⟩:=hg;obtain⟨its,rv,p1,z1⟩:=I.sq q1;obtain⟨jts,sv,p2,z2⟩:=I.sq q2;obtain⟨u,hu,ru⟩:=rv.get hx;obtain⟨v,hv,rw'⟩:=sv.get hy;obtain⟨hz,hi,⟨a,c,ho⟩,d1,d2⟩:=st;have fz:=hf z (by simp);have fTI:=hf TI (by simp);have fTO:=hf TO (by simp);have f1:=hf i1 (by simp);have f2:=hf i2 (by simp);have DD:ZG.Off z TI TO i1 i2 a1 a2:=⟨D.a1,D.a2,D.a3,D.a4,D.a5,D.a6,D.a7,D.a8,D.a9,D.b1,I.dH q1 fz,I.dH q1 fTO,I.dH q1 f1,I.dH q1 f2,I.dH q2 fz,I.dH q2 fTO,I.dH q2 f1,I.dH q2 f2⟩;refine ZG.wo DD hz hi ho d1 d2 p1 p2 (by simpa using hu) (by simpa using hv) fun g gz gO g1 g2 gT gs gk=>⟨_,rfl,?_⟩
  refine wpAny_letOwnedTupleGo_zip (s:={s with heap:=g}) gz fun h' hz' hs'=>?_;have hfresh:H s.heap.objs.size=none:=I.hok.fresh (b_ _);have zT:s.heap.objs.size≠z:=MU (Q1 hz);have kp:∀b o,b ∉ [z,TI,TO,i1,i2]->s.heap.get? b=some o->h'.get? b=some o:=fun b o hb e=>by
   have n:b≠z/\b≠TI/\b≠TO/\b≠i1/\b≠i2:=by simpa using hb
   exact hs'.extBut _ _ n.1 (gk b o n.1 n.2.2.1 n.2.2.2.1 n.2.2.2.2 e)
  have hT:h'.get? s.heap.objs.size=some { cls:=.type "tuple",data:=.seq #[u,v] }:=hs'.extBut _ _ zT gT;have notfp:∀b o,H b=some o->b ∉ [z,TI,TO,i1,i2]:=fun b o e hb=>by have:=(hf b hb).1;rw[e]at this;cases this
  have ne:∀b o,s.heap.get? b=some o->b≠s.heap.objs.size:=fun b o e=>s_ (Q1 e);have nt:∀b o,H b=some o->b≠s.heap.objs.size:=fun b o e=>bG e hfresh;have I1:Inv X ac σ (upd H s.heap.objs.size (.tup [x,y])) {s with heap:=h'}:=by
   refine I.step (g':=s.gens) (d':=s.drawn) (t':=s.toks) (ch:=[z,TI,TO,i1,i2]) (fun b hb=>?_) (fun b o _ _ hc e _=>kp b o hc e) (fun b o _ _ hc e _=>⟨o.slots,kp b o hc e⟩)
    (fun b o _ e n=>by rw[aN (ne b o e)];exact n) (fun b o hc e=>⟨o,kp b o hc e⟩) (fun b zs e=>by rw[aN (nt b _ e)];exact e) (fun b o u e=>by rw[aN (nt b _ e)];exact e)
    (fun b ps e=>⟨#[],by rw[aN (nt b _ e),e];simp⟩) (fun m hm=>?_) (fun b o e=>?_) I.bare
   ·obtain⟨g0,g1,g2,g3,g4,g5⟩:=hf b hb;exact⟨g3,g1,g4,g5⟩
   ·obtain⟨o,es,ep,ho',r⟩:=hm;exact⟨o,es,ep,kp _ o (fun hb=>(hf _ hb).2.1 rfl) ho',r⟩
   by_cases hb:b=s.heap.objs.size
   ·subst hb;rw[aO]at e;cases e;exact⟨by show 2<=sizeLine;decide,[u,v],.cons ru (.cons rw' .nil),_,hT,rfl,_,rfl⟩
   rw[aN hb]at e;refine(I.hok b o e).o8 (fun c' w' hc' q=>kp c' w' ?_ q) (fun c' q=>by rw[aN (nt c' _ q)];exact q) fun c' zs q=>by rw[aN (nt c' _ q)];exact q
   rcases hc' with rfl|hc'
   ·exact notfp _ _ e
   exact notfp _ _ hc'
  refine⟨.ref s.heap.objs.size,_,I1,rfl,⟨s.heap.objs.size,x,y,hfresh,rfl,rfl,fun zs hq=>by rw[I.B8 hq q1];exact hx,fun zs hq=>by rw[I.B8 hq q2];exact hy⟩,?_,fun b hb=>?_⟩
  ·exact⟨hz',hs'.extBut _ _ D.a1 (gk _ _ D.a1 D.a5 D.a6 D.a7 hi),⟨_,_,hs'.extBut _ _ D.a2 gO⟩,g1.ext hs'.extBut D.a3,g2.ext hs'.extBut D.a4⟩
  have hb0:=(hf b hb).1;have hb':b=z\/b=TI\/b=TO\/b=i1\/b=i2:=by simpa using hb
  have hlt:∃o,s.heap.get? b=some o:=by
   rcases hb' with rfl|rfl|rfl|rfl|rfl
   ·exact⟨_,hz⟩
   ·exact⟨_,hi⟩
   ·exact⟨_,ho⟩
   ·obtain⟨o,e,_⟩:=d1.some;exact⟨o,e⟩
   obtain⟨o,e,_⟩:=d2.some;exact⟨o,e⟩
  obtain⟨o,e⟩:=hlt;rw[aN (ne b o e)];exact hb0
 done:=by
  intro X hP hw hK hc i ac s σ H E I hf st hg;subst hP hw hK;obtain⟨xs,ys,q1,q2,hn⟩:=hg;obtain⟨its,rv,p1,z1⟩:=I.sq q1;obtain⟨jts,sv,p2,z2⟩:=I.sq q2;obtain⟨hz,hi,⟨a,c,ho⟩,d1,d2⟩:=st;have fz:=hf z (by simp);have fTI:=hf TI (by simp);have fTO:=hf TO (by simp);have f1:=hf i1 (by simp);have f2:=hf i2 (by simp);have DD:ZG.Off z TI TO i1 i2 a1 a2:=⟨D.a1,D.a2,D.a3,D.a4,D.a5,D.a6,D.a7,D.a8,D.a9,D.b1,I.dH q1 fz,I.dH q1 fTO,I.dH q1 f1,I.dH q1 f2,I.dH q2 fz,I.dH q2 fTO,I.dH q2 f1,I.dH q2 f2⟩;have l1:=rv.length;have l2:=sv.length;refine ZG.xA (I.ok.hd hc) DD hz hi ho d1 d2 p1 p2 (hn.elim (fun z=>.inl (by simp;omega)) fun z=>.inr (by simp;omega)) fun g gk=>⟨rfl,?_⟩
  have kp:∀b o,b ∉ [z,TI,TO,i1,i2]->s.heap.get? b=some o->g.get? b=some o:=fun b o hb e=>by
   have n:b≠z/\b≠TI/\b≠TO/\b≠i1/\b≠i2:=by simpa using hb
   exact gk b o n.1 n.2.2.1 n.2.2.2.1 n.2.2.2.2 e
  have notfp:∀b o,H b=some o->b ∉ [z,TI,TO,i1,i2]:=fun b o e hb=>by have:=(hf b hb).1;rw[e]at this;cases this
  refine I.step (g':=s.gens) (d':=s.drawn) (t':=s.toks) (ch:=[z,TI,TO,i1,i2]) (fun b hb=>?_) (fun b o _ _ hc e _=>kp b o hc e) (fun b o _ _ hc e _=>⟨o.slots,kp b o hc e⟩)
   (fun b o _ e n=>n) (fun b o hc e=>⟨o,kp b o hc e⟩) (fun b zs e=>e) (fun b o u e=>e) (fun b ps e=>⟨#[],by rw[e];simp⟩) (fun m hm=>?_) (fun b o e=>?_) I.bare
  ·obtain⟨g0,g1,g2,g3,g4,g5⟩:=hf b hb;exact⟨g3,g1,g4,g5⟩
  ·obtain⟨o,es,ep,ho',r⟩:=hm;exact⟨o,es,ep,kp _ o (fun hb=>(hf _ hb).2.1 rfl) ho',r⟩
  refine(I.hok b o e).o8 (fun c' w' hc' q=>kp c' w' ?_ q) (fun c' q=>q) fun c' zs q=>q;rcases hc' with rfl|hc'
  ·exact notfp _ _ e
  exact notfp _ _ hc'
 self:=fun _ _ _ _ _ st h=>WH st.1 h
def Lq(K:QT)(ta:TA):TI:=fun σ H R=>ta σ H fun vs H1=>∃b1 a1 b2 a2,vs=[.ref a1,.ref a2]/\(∃xs,SqG b1 K H1 a1 xs)/\(∃ys,SqG b2 K H1 a2 ys)/\R (Itz K b1 a1 b2 a2) H1
theorem GV{x1:Nat}{tp:Pos}{a b:Q9}{ta:TA}{p:Pos}(hg:Gl X "zip")(hm:X.mg "zip"=none)(ha:PA X [a,b] ta)(hs:Ra [a,b] X.env=[(false,Rw a X.env),(false,Rw b X.env)]:=by rfl)(hs2:Ra [b] X.env=[(false,Rw b X.env)]:=by rfl) :
  PI X (.Tuple es x1 tp) (.Call (.Name "zip" p) [a,b] [] pos) (Lq X.K ta):=by
 intro ac s σ H R I h;refine Call_ (dE I hg hm boot_zip (SU (thn (ha pos ac s σ H _ I h) fun us s1 ⟨vs,H1,I1,r1,q1⟩=>?_) (by rw[hs,hs2]) (by rw[hs2];rfl)));obtain⟨b1,a1,b2,a2,e,⟨xs,q1⟩,⟨ys,q2⟩,q⟩:=q1;subst e;cases r1 with
 |cons r rr=>
  cases rr with
  |cons r' rr=>
   cases rr;cases r;cases r';obtain⟨its,rv,p1,z1⟩:=I1.sq q1;obtain⟨jts,sv,p2,z2⟩:=I1.sq q2;refine ZG.Bp p1 p2 fun g gz gi go g1 g2 gs gk=>WH (s:={s1 with heap:=g}) gz ?_;have I2:Inv X ac σ H1 {s1 with heap:=g}:=I1.kept (t':=s1.toks) gk;refine⟨_,_,_,_,H1,rfl,I2,CO b1 a1 b2 a2 _ (s1.heap.objs.size+2) (s1.heap.objs.size+3) s1.heap.objs.size (s1.heap.objs.size+1) ?_,⟨gz,gi,⟨_,_,go⟩,g1,g2⟩,fun b hb=>?_,q⟩
   ·constructor <;>(show(_:Nat)≠_) <;> omega
   have hb':s1.heap.objs.size<=b:=by
    have z:b=s1.heap.objs.size+4\/b=s1.heap.objs.size+2\/b=s1.heap.objs.size+3\/b=s1.heap.objs.size\/b=s1.heap.objs.size+1:=by simpa using hb
    rcases z with z|z|z|z|z <;> rw[z] <;>(show(_:Nat)<=_) <;> omega
   exact I1.wJ hb' (I1.hok.fresh hb')
noncomputable def bools(bs:List Bool):List V:=bs.map V.bl
variable {i:Nat}
theorem Am{bs:List Bool}{us:List QR}(r:Vals (bools bs) us){u:QR}(h:us[i]?=some u):∃b,bs[i]?=some b/\u=.bool b:=by
 have hl:=r.length;have hi:i<us.length:=(c_.mp h).1;have hb:i<bs.length:=by rw[<-hl]at hi;simpa[bools]using hi
 have e:(bools bs)[i]?=some (.bl bs[i]):=by unfold bools;rw[B_,d_ hb];rfl
 obtain⟨u',h',ru⟩:=r.get e;rw[h]at h';cases h';exact⟨bs[i],d_ hb,ru⟩
theorem xK(bs:List Bool):((B' bs.length).all fun i=>(bs[i]?).getD true)=bs.all id:=by
 have e:bs=(B' bs.length).map fun i=>(bs[i]?).getD true:=by
  apply Qb
  ·simp
  intro i h1 h2;simp[h1]
 conv=>rhs;rw[e,NV]
 rfl
section
variable{X:Cx}
theorem BI(hc:X.calm=true):bE X (.builtin "all") (fun xs H Q=>∃a bs,xs=[.ref a]/\SqL X.K H a (bools bs)/\Q (.bl (bs.all id)) H):=by
 intro ac s σ H xs us Q I r h;obtain⟨a,bs,rfl,hq,q⟩:=h;obtain⟨u,rfl,ru⟩:=vals1 r;cases ru;obtain⟨its,rv,p,z⟩:=I.list hq;have hl:=p.isList;have hlt:a<s.heap.objs.size:=by obtain⟨_,e,_⟩:=hl;exact Q1 e
 have hlen:its.toArray.size=bs.length:=by rw[o_,<-rv.length];simp[bools]
 refine call_all_walk (Sj hl ⟨s.heap.objs.size,[s.heap.objs.size,a],[s.heap.objs.size],its.toArray.size,_,_,fun i=>(bs[i]?).getD true,rfl,Yq (A:=X.A.in1) (I.ok.hd hc) _ a (s_ hlt) its.toArray,⟨⟨_,Q0 _ rfl,rfl,rfl⟩,hl.push _⟩,fun i v s' Q' E' hP hQ=>?_,fun h' tk hk=>?_⟩)
 ·obtain⟨b,e,rfl⟩:=Am rv (i:=i) (u:=v) (by simpa using hP);simp only[e,Option.getD_some]at hQ;exact SE hQ
 rw[hlen,xK];exact⟨.bl (bs.all id),H,I.kept (t':=tk) (LSm.kept_iter hk),rfl,q⟩
end
inductive Ty where
 |non|bl|int|str|lst|tup|dct
 deriving DecidableEq
noncomputable def Ty.nm:Ty->String
 | .non=>"NoneType"
 | .bl=>"bool"
 | .int=>"int"
 | .str=>"str"
 | .lst=>"list"
 | .tup=>"tuple"
 | .dct=>"dict"
noncomputable def isA(t c:Ty):Bool:=decide (t=c) || (decide (t=.bl)&&decide (c=.int))
inductive TyG (K:QT) (H:Hp):V->Ty->Prop where
 |non:TyG K H .non .non
 |bl (b:Bool):TyG K H (.bl b) .bl
 |int (i:Int):TyG K H (.int i) .int
 |str (x:Str):TyG K H (.str x) .str
 |lst {a:QS}{xs:List V} (h:SqL K H a xs):TyG K H (.ref a) .lst
 |tup {a:QS}{xs:List V} (h:SqT K H a xs):TyG K H (.ref a) .tup
 |dct {a:QS}{kvs:List (Key×V)} (h:Rd H a (.dK kvs)):TyG K H (.ref a) .dct
theorem yN(K:QT)(t c:Ty):PySem.W.kitOne K (.type t.nm) (.type c.nm)=some (isA t c):=by cases t <;> cases c <;> kernel_rfl
theorem zg(K:QT)(t:Ty):∀cs:List Ty,Xh K (.type t.nm) (cs.map fun c=>R5 c.nm)=some (cs.any (isA t))
 | []=>rfl
 |c::r=>by
  rw[k_,OG];unfold Xh;rw[yN];cases isA t c with
  |true=>rfl
  |false=>exact zg K t r
section
variable{X:Cx}{ac:List (QS×Obj)}{σ:St}{H:Hp}{s:QV}{A:Rh}{E:QR->QV->Prop}{Q:QR->QV->Prop}
theorem Vals.tys:∀{cs:List Ty}{us:List QR},Vals (cs.map fun c=>V.ty c.nm) us->us=cs.map fun c=>R5 c.nm
 | [],_,.nil=>rfl
 |c::r,_,.cons h t=>by have e:_=R5 c.nm:=h;rw[k_,<-Vals.tys t,e]
def yW(K:QT)(H:Hp)(y:V)(cs:List Ty):Prop:=(∃c,y=.ty c.nm/\cs=[c])\/∃p,y=.ref p/\H p=some (.tup (cs.map fun c=>V.ty c.nm))
theorem CB{x y:V}{u v:QR}{t:Ty}{cs:List Ty}(I:Inv X ac σ H s)(rx:RelV x u)(ry:RelV y v)(ty:TyG X.K H x t)(ka:yW X.K H y cs)(h:∀tk,Q (.bool (cs.any (isA t))) {s with toks:=tk}) :
  QX (Q3 X.prog X.w) A (call (.builtin "isinstance") [u,v]) Q E s:=by
 have go:∀{P:Q_->Prop},PySem.W.KitX X.K u (.type t.nm) P->P s.heap->u≠.builtin "__main__.__loader__#opaque"->QX (Q3 X.prog X.w) A (call (.builtin "isinstance") [u,v]) Q E s:=fun{P} Z p hx=>by
  rcases ka with⟨c,rfl,rfl⟩|⟨q,rfl,hq⟩
  ·cases (show v=R5 c.nm from ry);have e:([c].any (isA t))=isA t c:=by simp
   exact PySem.W.kia_one Z I.kIn p (yN X.K t c) hx (fun tk=>by rw[<-e];exact h tk)
  cases (show v=Rx q from ry);obtain⟨_,its,rv,o,ho,hc,n,hd⟩:=(show b6 X.prog X.w H s.heap q (.tup _)from I.hok q _ hq);have e:=rv.tys;subst e;obtain⟨c,dd,dt,sl⟩:=o;cases (show c=_ from hc);cases (show dt=_ from hd);exact PySem.W.kia_tup Z I.kIn p ho (zg X.K t cs) hx h
 cases ty with
 |non=>cases (show u=Rn from rx);exact go PySem.W.kitx_none SO (fun z=>nomatch z)
 |bl y=>cases (show u=T5 y from rx);exact go PySem.W.kitx_bool SO (fun z=>nomatch z)
 |int i=>obtain⟨t,q⟩:=(show ∃t,u=SQ i t from rx);cases q;exact go PySem.W.kitx_int SO (fun z=>nomatch z)
 |str y=>obtain⟨t,q⟩:=(show ∃t,u=V_ y t from rx);cases q;exact go PySem.W.kitx_str SO (fun z=>nomatch z)
 | @lst a xs hq=>
  cases (show u=Rx a from rx);obtain⟨_,_,p,_⟩:=I.list hq;obtain⟨o,h1,h2,_⟩:=p.isList;exact go PySem.W.kitx_list ⟨o,h1,h2⟩ (fun z=>nomatch z)
 | @tup a xs hq=>
  cases (show u=Rx a from rx);obtain⟨_,_,p,_⟩:=I.tuple hq;obtain⟨o,h1,h2,_⟩:=p;exact go PySem.W.kitx_tuple ⟨o,h1,h2⟩ (fun z=>nomatch z)
 | @dct a kvs hq=>
  cases (show u=Rx a from rx);obtain⟨_,_,vs,_,p⟩:=(show b6 X.prog X.w H s.heap a (.dK kvs)from hq.ok I.hok);obtain⟨o,es,ep,h1,h2,_⟩:=p;exact go PySem.W.kitx_dict ⟨o,h1,h2.1⟩ (fun z=>nomatch z)
theorem oC:bE X (.builtin "isinstance") (fun xs H Q=>∃x y t cs,xs=[x,y]/\TyG X.K H x t/\yW X.K H y cs/\Q (.bl (cs.any (isA t))) H):=by
 intro ac s σ H xs us Q I r h;obtain⟨x,y,t,cs,rfl,ty,ka,q⟩:=h;cases r with
 |cons r rr=>
  cases rr with
  |cons r' rr=>
   cases rr;exact CB I r r' ty ka fun tk=>⟨.bl (cs.any (isA t)),H,I.tok tk,rfl,q⟩
end
variable {H H':Hp}
theorem SqL.same (e:bz H H')(h:SqL K H a xs):SqL K H' a xs:=e.seq h
theorem SqT.same (e:bz H H')(h:SqT K H a xs):SqT K H' a xs:=by
 rcases h with (h|⟨o,h⟩)|h
 ·exact .inl (.inl (e _ _ h))
 ·exact .inl (.inr ⟨o,e _ _ h⟩)
 exact .inr h
theorem SqG.same (e:bz H H')(h:SqG b K H a xs):SqG b K H' a xs:=by
 cases b with
 |true=>exact SqT.same e h
 |false=>exact SqL.same e h
structure Cal (P:Q5) (w:Q8) (K:QT) (mg:Str->Option QR) (base:Q_) (k:Nat) (x:Str) (ps:List Str) (sp:Sp):Prop where
 ex:∃(f:QS) (fd:Rj),FnOk P w K mg base CX0 k f fd ps sp/\mg x=some (.ref f)/\T6 K (.ref f)=true/\Binds K fd ps []
variable {ps:List Str}{sp:Sp}{x:Str}
theorem Ic{j k:Nat}{t:TA}{p:Pos}(D:Cal X.prog X.w X.K X.mg X.base j x ps sp)(hr:Room k X.A)(hg:Gl X x)(ha:PA X (e::es) t)(hjk:j<=k:=by omega)(hdb:(x ==("__debug__":Str))=false:=by decide)
  (he:Ra (e::es) X.env=(false,Rw e X.env)::Ra es X.env:=by rfl) (hpl:(Tv pos (Ra es X.env)).any (·.1)=false:=by rfl):PE X (.Call (.Name x p) (e::es) [] pos) (C9 sp [] E0 t):=by
 obtain⟨f,fd,F,hm,hk,hb⟩:=D.ex;exact F8 F (hr.mono hjk) hg hm hk hb .nil KL ha hdb he hpl
variable {mg:Str->Option QR}
theorem Cal.imp {base:Q_}{k:Nat}{sp':Sp}(D:Cal P w K mg base k x ps sp)(h:∀vs H Q E,sp' vs H Q E->sp vs H Q E):Cal P w K mg base k x ps sp':=by obtain⟨f,fd,F,r⟩:=D.ex;exact⟨f,fd,F.imp h,r⟩
structure Dfn (K:QT) (mg:Str->Option QR) (x:Str) (st:RC) (ps:List Str):Prop where
 ex:∃(f:QS) (fd:Rj),Fun K x x st f fd/\mg x=some (.ref f)/\Binds K fd ps []
theorem Dfn.cal {base:Q_}{k:Nat}{st:RC}(D:Dfn K mg x st ps)(h:∀f fd,Fun K x x st f fd->FnOk P w K mg base CX0 k f fd ps sp):Cal P w K mg base k x ps sp:=by obtain⟨f,fd,F,hm,hb⟩:=D.ex;exact⟨f,fd,h f fd F,hm,F.kp,hb⟩
theorem bz.bY :bz H H:=fun _ _ e=>e
variable {H1:Hp}
theorem bz.trans' {H2:Hp}(a:bz H H1)(b:bz H1 H2):bz H H2:=fun c o e=>b c o (a c o e)
variable {p:QS}
theorem bL(h:H p=none)(o:HO):bz H (upd H p o):=fun b u q=>by rw[aN (bG q h)];exact q
theorem bz.none {H H':Hp}(a:bz H H'){p:QS}(h:H' p=none):H p=none:=by
 cases e:H p with
 |none=>rfl
 |some o=>rw[a p o e]at h;cases h
noncomputable def Kp(a c:QS)(H H':Hp):Prop:=∀b o,H b=some o->b≠a->b≠c->H' b=some o
variable {n:Nat}
theorem yA{i:Int}(h0:0<=i)(h1:i<(n:Int)):ixN n i=some i.toNat:=by unfold ixN;rw[if_pos h0,if_pos h1]
theorem ER{α:Type}{xs:List α}{i:Int}{v:α}(h0:0<=i)(hv:xs[i.toNat]?=some v):atI xs i=some v:=by have h1:i.toNat<xs.length:=(c_.mp hv).1;unfold atI;rw[yA h0 (by omega)];exact hv
variable {ns:List Int}
theorem BW{i:Int}(h0:0<=i)(h1:i<(ns.length:Int)):atI (ns.map V.int) i=some (.int (ns.getD i.toNat 0)):=by
 have h2:i.toNat<ns.length:=by omega
 refine ER h0 ?_;rw[B_,d_ h2,J_,d_ h2]
 rfl
theorem HF{i:Int}{v:V}{Q:VK}(h:SqG b K H p xs)(hv:atI xs i=some v)(q:Q v H):rIx K (.ref p) (.int i) H Q:=by
 cases b with
 |true=>exact .inr (.inl ⟨p,xs,i,v,rfl,rfl,h,hv,q⟩)
 |false=>exact .inl ⟨p,xs,i,v,rfl,rfl,h,hv,q⟩
theorem KS{A B:Prop}(h1:b=true->A)(h2:b=false->B):if b=true then A else B:=by
 cases b with
 |true=>exact Ll (h1 rfl)
 |false=>exact Lo (h2 rfl)
theorem Ca(S:FnScope N ps esc)(N':List Str)(fr:List (Option Nat))(nd:N'.Nodup){g:QV->Hp->List QS->TG}(C:kN N esc sc N' fr=true)
  (hi:PI X target iter wi) (hg:∀s3 H3 fp,PG (b7 X N' sc s3 H3 fp) target (g s3 H3 fp)) (ht:∀s3 H3 fp,PTs (b7 X N' sc s3 H3 fp) ifs (tt s3 H3 fp)) (he:∀s3 H3 fp,PE (b7 X N' sc s3 H3 fp) elt (te s3 H3 fp))
  (hc:X.calm=true:=by rfl) (hN:X.N=N:=by rfl) (hS:X.env.scope=esc:=by rfl) (hs:∀x,R1 iter X.env x=pure x:=by intro _;rfl):PE X (.ListComp elt [⟨target,iter,ifs,0⟩] sc pos) (zJ wi fr g tt te):=
 Ew N' fr hc (by rw[hN,hS];exact C) hi hg ht he hs
def Its(K:QT)(b:Bool)(a:QS):It:=match b with
 |true=>Itt K a
 |false=>Itl K a
def iSq(K:QT)(tl:TE):TI:=fun σ H R=>tl σ H fun x H1=>∃b a xs,x=.ref a/\SqG b K H1 a xs/\R (Its K b a) H1
theorem IY{tg l:Q9}{tl:TE}(hl:PE X l tl):PI X tg l (iSq X.K tl):=by
 intro ac s σ H R I h;refine thn (hl ac s σ H _ I h) ?_;rintro v s1 ⟨x,H1,I1,r1,q1⟩;obtain⟨b,a,xs,rfl,hq,q⟩:=q1;cases r1;cases b with
 |true=>
  obtain⟨its,rv,p,hz⟩:=I1.tuple hq;refine Sx (show s1.heap.IsTuple a its.toArray from p) ⟨s1.heap.objs.size,[s1.heap.objs.size],_,_,H1,rfl,I1.kept (t':=s1.toks) fun b o e=>QW _ e,x4 a _,⟨_,Q0 _ rfl,rfl,rfl⟩,fun b hb=>?_,q⟩;have e:b=s1.heap.objs.size:=by simpa using hb
  subst e;exact I1.wJ (b_ _) (I1.hok.fresh (b_ _))
 |false=>
  obtain⟨its,rv,p,hz⟩:=I1.list hq;refine Sj p.isList ⟨s1.heap.objs.size,[s1.heap.objs.size],_,_,H1,rfl,I1.kept (t':=s1.toks) fun b o e=>QW _ e,Ao a _,⟨_,Q0 _ rfl,rfl,rfl⟩,fun b hb=>?_,q⟩;have e:b=s1.heap.objs.size:=by simpa using hb
  subst e;exact I1.wJ (b_ _) (I1.hok.fresh (b_ _))
theorem FA{H2:Hp}{v:V}(h1:SqG b K H1 a xs)(s:bz H1 H')(h:(Its K b a).yld i H' v H2):H2=H'/\xs[i]?=some v:=by
 cases b with
 |true=>exact⟨h.1,h.2 xs (SqG.same s h1)⟩
 |false=>exact⟨h.1,h.2 xs (SqG.same s h1)⟩
theorem Ho(h1:SqG b K H1 a xs)(hx:xs.length=n):∀i H',bz H1 H'->i<n->(Its K b a).go i H':=fun i H' s hi=>by
 cases b with
 |true=>exact⟨xs,xs[i]'(by lia),SqT.same s h1,d_ _⟩
 |false=>exact⟨xs,xs[i]'(by lia),SqL.same s h1,d_ _⟩
theorem DI(h1:SqG b K H1 a xs)(hx:xs.length=n):∀H',bz H1 H'->(Its K b a).stop n H':=fun H' s=>by
 cases b with
 |true=>exact⟨xs,SqT.same s h1,by lia⟩
 |false=>exact⟨xs,SqL.same s h1,by lia⟩
def New(o:HO)(H:Hp)(Q:VK):Prop:=∀p H',H p=none->bz H H'->H' p=some o->Q (.ref p) H'
theorem New.at {o:HO}{Q:VK}(h:New o H Q)(hp:H p=none):Q (.ref p) (upd H p o):=h p _ hp (bL hp o) aO
section
variable{X:Cx}{es:List Q9}{t:TA}{pos:Pos}
def Jl(t:TA):TE:=fun σ H Q=>t σ H fun xs H1=>xs.length<=sizeLine/\New (.tup xs) H1 Q
def JO(t:TA):TE:=fun σ H Q=>t σ H fun xs H1=>xs.length<=sizeLine/\New (.lst xs) H1 Q
theorem DU{x1}(h:PA X es t):PE X (.Tuple es x1 pos) (Jl t):=by intro ac s σ H Q I hq;refine wpAny_Tuple_spliced (thn (h pos ac s σ H _ I hq) fun us s1 ⟨xs,H1,I1,r,z,q⟩=>⟨by rw[<-r.length];exact z,?_⟩);refine⟨.ref s1.heap.objs.size,upd H1 s1.heap.objs.size (.tup xs),I1.laid (t':=s1.toks) (fun b u e=>QW _ e) (b_ _) ⟨z,us,r,⟨_,Q0 _ rfl,rfl,_,rfl⟩⟩,rfl,q.at (I1.hok.fresh (b_ _))⟩
theorem FF(h:PA X es t):PE X (.List es pos) (JO t):=by intro ac s σ H Q I hq;refine Wd (thn (h pos ac s σ H _ I hq) fun us s1 ⟨xs,H1,I1,r,z,q⟩=>⟨by rw[<-r.length];exact z,?_⟩);refine⟨.ref s1.heap.objs.size,upd H1 s1.heap.objs.size (.lst xs),I1.laid (t':=s1.toks) (fun b u e=>QW _ e) (b_ _) ⟨z,us,0,r,Q0 _ rfl⟩,rfl,q.at (I1.hok.fresh (b_ _))⟩
theorem bE.imp {f:QR}{r r':List V->Hp->VK->Prop}(h:bE X f r)(k:∀vs H Q,r' vs H Q->r vs H Q):bE X f r':=fun ac s σ H xs us Q I rv q=>h ac s σ H xs us Q I rv (k _ _ _ q)
theorem OpR.imp {f:QR->QR->Sem QR}{r r':R2}(h:OpR X f r)(k:∀x y H Q,r' x y H Q->r x y H Q):OpR X f r':=fun ac s σ H x y v u Q I rx ry q=>h ac s σ H x y v u Q I rx ry (k _ _ _ _ q)
theorem vU:bE X (.type "tuple") (fun xs H Q=>∃p ys,xs=[.ref p]/\SqL X.K H p ys/\New (.tup ys) H Q):=rg.imp (by rintro vs H Q ⟨p,ys,e,h,q⟩;exact⟨p,ys,e,.inl ⟨h,fun l hl=>q.at hl⟩⟩)
theorem Ab:bE X (.builtin "len") (fun xs H Q=>∃b p ys,xs=[.ref p]/\SqG b X.K H p ys/\Q (.int ys.length) H):=mD.imp fun vs H Q ⟨b,p,ys,e,h,q⟩=>by
 refine⟨p,ys,e,?_,q⟩;cases b with
 |true=>exact .inr h
 |false=>exact .inl h
def L6(K:QT):R2:=fun x y H Q=>∃b p xs i v,x=.ref p/\y=.int i/\SqG b K H p xs/\atI xs i=some v/\Q v H
theorem L5:IxR X (L6 X.K):=by rintro value slice ac s σ H x y v u Q I rx ry ⟨b,p,xs,i,z,e1,e2,hq,ha,q⟩ hs;subst e1 e2;exact Ik value slice ac s σ H (.ref p) (.int i) v u Q I rx ry (HF hq ha q) hs
end
noncomputable def iO(ns:List Int)(r:Int):Prop:=r∈ns/\∀x∈ns,r<=x
noncomputable def iL(ns:List Int)(r:Int):Prop:=r∈ns/\∀x∈ns,x<=r
theorem cg:∀{ns:List Int}{us:List QR},Vals (ns.map V.int) us->∃ps:List (Int×Tok),us=ps.map (fun p=>SQ p.1 p.2)/\ps.map (·.1)=ns
 | [],_,.nil=>⟨[],rfl,rfl⟩
 |n::r,_,.cons h t=>by obtain⟨ps,e1,e2⟩:=cg t;obtain⟨tk,e⟩:=h;exact⟨(n,tk)::ps,by rw[e,e1];rfl,by rw[<-e2];rfl⟩
theorem cN{ps:List (Int×Tok)}(e:ps.map (·.1)=ns)(hi:i<ns.length):Tg ps.toArray i=ns[i]:=by
 subst e;have h2:i<ps.length:=by simpa using hi
 simp[Tg,h2]
section
variable{X:Cx}
theorem A4(hc:X.calm=true):bE X (.builtin "min") (fun xs H Q=>∃a ns,xs=[.ref a]/\SqL X.K H a (ns.map V.int)/\ns≠[]/\∀r,iO ns r->Q (.int r) H):=by
 intro ac s σ H xs us Q I r h;obtain⟨a,ns,rfl,hq,hne,q⟩:=h;obtain⟨u,rfl,ru⟩:=vals1 r;cases ru;obtain⟨its,rv,p,z⟩:=I.list hq;obtain⟨ps,e1,e2⟩:=cg rv;subst e1;have hl:s.heap.IsList a (RL ps.toArray):=by
  have e:RL ps.toArray=(ps.map fun p=>SQ p.1 p.2).toArray:=by simp[RL]
  rw[e];exact p.isList
 have hlen:ps.length=ns.length:=by rw[<-e2];simp
 have hpos:0<ns.length:=Ml fun z=>hne (Mf z);refine min_intList (I.ok.hd hc) hl (by simp;lia) fun v h' tk hv hk=>?_
 obtain⟨tv,rfl⟩:=Um hv;obtain⟨b1,b2⟩:=argBest_lt (Tg ps.toArray) (ps.toArray.size-1);have hi:Xi (fun i j=>decide (Tg ps.toArray i<Tg ps.toArray j)) (ps.toArray.size-1)<ns.length:=by simp at b1 ⊢;lia
 refine⟨.int _,H,I.kept (t':=tk) hk,⟨tv,rfl⟩,q _ ⟨?_,fun x hx=>?_⟩⟩
 ·rw[cN e2 hi];exact MQ hi
 obtain⟨j,hj,rfl⟩:=Mg.mp hx;have:=b2 j (by simp;lia);rw[cN e2 hj]at this;exact this
theorem Ap(hc:X.calm=true):bE X (.builtin "max") (fun xs H Q=>∃a ns,xs=[.ref a]/\SqL X.K H a (ns.map V.int)/\ns≠[]/\∀r,iL ns r->Q (.int r) H):=by
 intro ac s σ H xs us Q I r h;obtain⟨a,ns,rfl,hq,hne,q⟩:=h;obtain⟨u,rfl,ru⟩:=vals1 r;cases ru;obtain⟨its,rv,p,z⟩:=I.list hq;obtain⟨ps,e1,e2⟩:=cg rv;subst e1;have hl:s.heap.IsList a (RL ps.toArray):=by
  have e:RL ps.toArray=(ps.map fun p=>SQ p.1 p.2).toArray:=by simp[RL]
  rw[e];exact p.isList
 have hlen:ps.length=ns.length:=by rw[<-e2];simp
 have hpos:0<ns.length:=Ml fun z=>hne (Mf z);refine max_intList (I.ok.hd hc) hl (by simp;lia) fun v h' tk hv hk=>?_
 obtain⟨tv,rfl⟩:=Um hv;obtain⟨b1,b2⟩:=argBest_gt (Tg ps.toArray) (ps.toArray.size-1);have hi:Xi (fun i j=>decide (Tg ps.toArray i > Tg ps.toArray j)) (ps.toArray.size-1)<ns.length:=by simp at b1 ⊢;lia
 refine⟨.int _,H,I.kept (t':=tk) hk,⟨tv,rfl⟩,q _ ⟨?_,fun x hx=>?_⟩⟩
 ·rw[cN e2 hi];exact MQ hi
 obtain⟨j,hj,rfl⟩:=Mg.mp hx;have:=b2 j (by simp;lia);rw[cN e2 hj]at this;exact this
theorem AN(hc:X.calm=true):bE X (.builtin "max") (fun xs H Q=>∃i j k,xs=[.int i,.int j,.int k]/\∀r,i<=r->j<=r->k<=r->(r=i\/r=j\/r=k)->Q (.int r) H):=by
 intro ac s σ H xs us Q I r h;obtain⟨i,j,k,rfl,q⟩:=h;cases r with
 |cons r1 rr=>
  cases rr with
  |cons r2 rr=>
   cases rr with
   |cons r3 rr=>
    cases rr;obtain⟨t1,rfl⟩:=r1;obtain⟨t2,rfl⟩:=r2;obtain⟨t3,rfl⟩:=r3;refine max_three_ints (I.ok.hd hc) fun h' tk hk=>?_;have fin:∀(r:Int) (t:Tok),i<=r->j<=r->k<=r->(r=i\/r=j\/r=k)->EP X ac σ Q (.int r t) {s with heap:=h',toks:=tk}:=fun r t a b c d=>⟨.int r,H,I.kept (t':=tk) hk,⟨t,rfl⟩,q r a b c d⟩;split
    ·split
     ·exact fin _ _ (by lia) (by lia) (by lia) (by lia)
     exact fin _ _ (by lia) (by lia) (by lia) (by lia)
    split
    ·exact fin _ _ (by lia) (by lia) (by lia) (by lia)
    exact fin _ _ (by lia) (by lia) (by lia) (by lia)
theorem A7(hc:X.calm=true):bE X (.builtin "min") (fun xs H Q=>∃i j k,xs=[.int i,.int j,.int k]/\∀r,r<=i->r<=j->r<=k->(r=i\/r=j\/r=k)->Q (.int r) H):=by
 intro ac s σ H xs us Q I r h;obtain⟨i,j,k,rfl,q⟩:=h;cases r with
 |cons r1 rr=>
  cases rr with
  |cons r2 rr=>
   cases rr with
   |cons r3 rr=>
    cases rr;obtain⟨t1,rfl⟩:=r1;obtain⟨t2,rfl⟩:=r2;obtain⟨t3,rfl⟩:=r3;refine min_three_ints (I.ok.hd hc) fun h' tk hk=>?_;have fin:∀(r:Int) (t:Tok),r<=i->r<=j->r<=k->(r=i\/r=j\/r=k)->EP X ac σ Q (.int r t) {s with heap:=h',toks:=tk}:=fun r t a b c d=>⟨.int r,H,I.kept (t':=tk) hk,⟨t,rfl⟩,q r a b c d⟩;split
    ·split
     ·exact fin _ _ (by lia) (by lia) (by lia) (by lia)
     exact fin _ _ (by lia) (by lia) (by lia) (by lia)
    split
    ·exact fin _ _ (by lia) (by lia) (by lia) (by lia)
    exact fin _ _ (by lia) (by lia) (by lia) (by lia)
end
section
variable{X:Cx}{a b c d:Q9}{ta tb tc td:TE}{pos:Pos}
theorem BO:SlR X (fun x lo hi H Q=>∃a xs,x=.ref a/\SqL X.K H a xs/\New (.lst (iV xs lo hi)) H Q):=by rintro ac s σ H x v vl vu lo hi sl Q I rx hs pl pu ⟨a,xs,e,h,q⟩;exact yQ ac s σ H x v vl vu lo hi sl Q I rx hs pl pu ⟨a,xs,e,h,fun p hp=>q.at hp⟩
theorem yr:SlR X (fun x lo hi H Q=>∃a xs,x=.ref a/\SqT X.K H a xs/\¬(HT.sIx xs.length 0 lo=0/\HT.sIx xs.length xs.length hi=xs.length)/\New (.tup (iV xs lo hi)) H Q):=by rintro ac s σ H x v vl vu lo hi sl Q I rx hs pl pu ⟨a,xs,e,h,hw,q⟩;exact IC ac s σ H x v vl vu lo hi sl Q I rx hs pl pu ⟨a,xs,e,h,hw,fun p hp=>q.at hp⟩
end
structure Put (H:Hp) (p:QS) (o:HO) (H':Hp):Prop where
 at_:H' p=some o
 else_:∀b,b≠p->H' b=H b
theorem Put.up {o:HO}:Put H p o (upd H p o):=⟨aO,fun b h=>aN h⟩
section
variable{X:Cx}
theorem xn.imp {t t':Fy}(h:xn X t)(k:∀o i v H Q,t' o i v H Q->t o i v H Q):xn X t':=fun ac s σ H o i v ov iv u Q I r1 r2 r3 q=>h ac s σ H o i v ov iv u Q I r1 r2 r3 (k _ _ _ _ _ q)
theorem Al:xn X (fun o i v H Q=>∃p xs k j,o=.ref p/\i=.int k/\H p=some (.lst xs)/\ixN xs.length k=some j/\∀H',Put H p (.lst (xs.set j v)) H'->Q H'):=set_list.imp (by rintro o i v H Q ⟨p,xs,k,j,e1,e2,h,hj,q⟩;exact⟨p,xs,k,j,e1,e2,h,hj,q _ Put.up⟩)
end
section
variable{M:Ts}{A:Rh}{E:QR->QV->Prop}{s:QV}{env:Env}
theorem mR{first:Sem QR}{g:U0}{u:QR->Sem Unit}
  (hcl:clausesOf e=g::gs) (hs:∀x,R1 g.iter env x=pure x)
  (hc:∀x∈scope.names,x.2≠.cell) (hfr:∀x∈scope.names,x.2=.free->∃c,env.cells.lookup x.1=some c) (hkind:scope.kind=.function) (hnames:∀x∈scope.names,x.2=.local->scope.names.lookup x.1=some .local)
  (h:QX M A first (fun x s₁=>QX M A (Uh x) (fun it s₂=>QX M A newAcc (fun acc s₃=>
   ∀h4,h4.Ns s₃.heap.objs.size (fun _=>none)->(∀b o,s₃.heap.get? b=some o->h4.get? b=some o)->
    SM M A (.compStart e 0 it acc (L2.compEnv env scope s₃.heap.objs.size)) (fun r s'=>match r with
     | .ok _=>QX M A (u acc) (fun _ s''=>∃m,s''.heap.Ns s₃.heap.objs.size m/\∀h',Rq s₃.heap.objs.size s''.heap h'->Q .none {s'' with heap:=h'}) E s'
     | .error x=>False) { s₃ with heap:=h4}) E s₂) E s₁) E s) :
  QX M A (Ut e scope env pos newAcc false first (some u)) Q E s:=by
 unfold Ut;rw[qP hfr,hcl];refine QQ (RA h (fun x s₁ h₁=>QQ (Uq (QQ (Tr (hs x) (QQ (Rm (RA h₁ (fun it s₂ h₂=>
  XF (QQ (RA h₂ (fun acc s₃ h₃=>QQ (QU (QQ ?_))) fun _ _ h'=>h'))) fun _ _ h'=>h'))))))) fun _ _ h'=>h')
 refine VY hc (fun x hx=>nomatch hx) (fun h4 hn4 hs4=>?_) hkind;have h₄:=h₃ h4 hn4 fun b o e=>hs4.extBut b o (s_ (Q1 e)) (QW _ e);dsimp only;have hv:∀x∈(scope.names.filter fun x=>(x.2 == .local || x.2 == .cell)&&x.1 !=(".0":Str)).reverse,x.2=.local->
   WX (L2.compEnv env scope s₃.heap.objs.size) x.1=some .local:=fun x hx hl=>by
  show(qK env scope).names.lookup x.1=some .local;rw[ng,hnames x (LZ.mp (Ng.mp hx)).1 hl]
  rfl
 have hv':∀x∈(scope.names.filter fun x=>(x.2 == .local || x.2 == .cell)&&x.1 !=(".0":Str)).reverse.drop 1++(scope.names.filter fun x=>(x.2 == .local || x.2 == .cell)&&x.1 !=(".0":Str)).reverse.take 1,
   x.2=.local->WX (L2.compEnv env scope s₃.heap.objs.size) x.1=some .local:=fun x hx hl=>
  (x_.mp hx).elim (fun z=>hv x (NI z) hl) fun z=>hv x (Mu z) hl
 refine Rm (QQ (RZ (Rm (wpAny_run (S9 h₄ fun r s' hr=>?_)))));cases r with
 |ok f=>
  refine QQ (Sy (QQ (Rm (RA hr (fun _ s'' hr'=>?_) fun _ _ h'=>h'))));obtain⟨m,hn,hr'⟩:=hr';exact QQ (WG (cenv:=L2.compEnv env scope s₃.heap.objs.size) hkind _ s'' m hv' hn fun h' m' _ hs'=>QU (hr' h' hs'))
 |error x=>exact hr.elim
end
theorem Fi(S:FnScope N ps esc){pos':Pos}(N':List Str)(fr:List (Option Nat))(nd:N'.Nodup){pos2:Pos}{g:QV->Hp->List QS->TG}(C:kN N esc sc N' fr=true)
  (hi:X.N[i]?=some x) (hx:Loc X.env.scope x) (hit:PI X target iter wi) (hg:∀s3 H3 fp,PG (b7 X N' sc s3 H3 fp) target (g s3 H3 fp)) (ht:∀s3 H3 fp,PTs (b7 X N' sc s3 H3 fp) ifs (tt s3 H3 fp)) (he:∀s3 H3 fp,PE (b7 X N' sc s3 H3 fp) elt (te s3 H3 fp))
  (hsw:Uv (.ListComp elt [⟨target,iter,ifs,0⟩] sc pos2) (some (.Name x pos')) pos.line X.env=pure true) (hf:X.fn x=true:=by rfl)
  (hc:X.calm=true:=by rfl) (hN:X.N=N:=by rfl) (hS:X.env.scope=esc:=by rfl) (hs:∀x,R1 iter X.env x=pure x:=by intro _;rfl):PS X (.Assign [.Name x pos'] (.ListComp elt [⟨target,iter,ifs,0⟩] sc pos2) pos) (DY (zJ wi fr g tt te) (yz i)):=by
 have C:CompOk X.N X.env.scope sc N' fr:=sf (by rw[hN,hS];exact C);have hNd:X.N.Nodup:=by rw[hN];exact S.nd
 intro ac s σ H D I h;rw[exec_Assign_Name_used _ _ _ _ hsw];refine QQ (Uq (QQ ?_));show QX _ X.A (do let _ <-Ut (.ListComp elt [⟨target,iter,ifs,0⟩] sc pos2) sc X.env _ (newList []) false (Rw iter X.env) (some (Ug (.Name x pos') X.env))) _ _ s;have hfr:∀x∈sc.names,x.2=.free->∃c,X.env.cells.lookup x.1=some c:=fun x hx e=>I.ok.has x.1 (.inl (C.free x hx e));refine QQ (RA (mR (g:=⟨target,iter,ifs,0⟩) (gs:=[]) (Q:=fun _ s'=>SP X ac D .next s') rfl hs C.nocell hfr C.kind C.names ?_) (fun _ s' hq=>QU (QU hq)) fun _ _ e=>e);refine thn (hit ac s σ H _ I h) fun v s1 h1=>thn h1 fun itv s2 h2=>?_;obtain⟨it,fp,tn,J,H2,e,I2,T,st2,f2,k2⟩:=h2;subst e;refine Tn ?_ (by show 0<=sizeLine;decide);have hfree:H2 s2.heap.objs.size=none:=I2.hok.fresh (b_ _);obtain⟨W,⟨m0,w0⟩,turn⟩:=k2 _ hfree {s2 with heap:=s2.heap.push { cls:=.type "list",data:=.seq ([]:List QR).toArray} } (upd H2 s2.heap.objs.size (.lst [])) fp;have kp:∀b u,s2.heap.get? b=some u->(s2.heap.push { cls:=.type "list",data:=.seq ([]:List QR).toArray}).get? b=some u:=fun b u e=>QW _ e;have I3:Inv X ac σ (upd H2 s2.heap.objs.size (.lst [])) {s2 with heap:=s2.heap.push { cls:=.type "list",data:=.seq ([]:List QR).toArray} }:=
  I2.laid (t':=s2.toks) kp (b_ _) ⟨E_ _,[],0,.nil,Q0 _ rfl⟩
 have obj2:=T.obj 0 s2.heap st2;have fpne:∀b∈fp,b≠s2.heap.objs.size:=fun b hb=>by obtain⟨o,ho,_⟩:=obj2 b hb;exact s_ (Q1 ho)
 have f3:∀b∈fp,mI X ac (upd H2 s2.heap.objs.size (.lst [])) b:=fun b hb=>⟨by rw[aN (fpne b hb)];exact(f2 b hb).1,(f2 b hb).2⟩
 have st3:=T.keep 0 s2.heap _ st2 fun b hb o e=>kp b o e;have obj3:=T.obj 0 _ st3;intro h4 hn4 hk4;have st4:=T.keep 0 _ h4 st3 fun b hb o e=>hk4 b o e;have I4:=vJ (N':=N') (fr:=fr) (fp:=fp) I3 C hc f3 (fun b hb=>let ⟨o,ho,_⟩:=obj3 b hb;⟨o,ho⟩) hn4 hk4;have stat:∀{H':Hp},(∀b∈fp,H' b=none)->∀b∈fp,mI (b7 X N' sc {s2 with heap:=s2.heap.push { cls:=.type "list",data:=.seq ([]:List QR).toArray} } (upd H2 s2.heap.objs.size (.lst [])) fp) [] H' b:=fun hn b hb=>
  ⟨hn b hb,(I4.ok.exf b hb).1,I4.ok.exfs b hb,.inl hb,(I4.ok.exf b hb).2,fun p hp=>(nomatch hp)⟩
 have loop:SM (Q3 X.prog X.w) X.A (.compLoop (.ListComp elt [⟨target,iter,ifs,0⟩] sc pos2) 0 (.ref it) (.ref s2.heap.objs.size) (L2.compEnv X.env sc (s2.heap.push { cls:=.type "list",data:=.seq ([]:List QR).toArray}).objs.size))
   (fun r s'=>match r with
    | .ok _=>QX (Q3 X.prog X.w) X.A (Ug (.Name x pos') X.env (.ref s2.heap.objs.size)) (fun _ s''=>∃m,s''.heap.Ns (s2.heap.push { cls:=.type "list",data:=.seq ([]:List QR).toArray}).objs.size m/\∀h',Rq (s2.heap.push { cls:=.type "list",data:=.seq ([]:List QR).toArray}).objs.size s''.heap h'->SP X ac D .next {s'' with heap:=h'}) X.xe s'
    | .error x=>False) {s2 with heap:=h4}:=by
  refine oE (fun n s'=>∃i σ' H',Inv (b7 X N' sc {s2 with heap:=s2.heap.push { cls:=.type "list",data:=.seq ([]:List QR).toArray} } (upd H2 s2.heap.objs.size (.lst [])) fp) [] σ' H' s'/\tn i s'.heap/\(∀b∈fp,H' b=none)/\W i n σ' H') ?_ m0
   ⟨0,_,_,I4,st4,fun b hb=>(f3 b hb).1,w0⟩
  rintro n s5 ⟨j,σ5,H5,I5,st5,fr5,w5⟩;rcases turn j n σ5 H5 w5 with⟨stop,q⟩|⟨go,step⟩
  ·refine thn (T.done (b7 X N' sc _ _ fp) rfl rfl rfl rfl j [] s5 σ5 H5 (fun _ _=>False) I5 (stat fr5) st5 stop) ?_;rintro r s6 ⟨hr,I6⟩;subst hr;obtain⟨m6,hn6,_⟩:=id I6.loc;have hL:H5 (s2.heap.push { cls:=.type "list",data:=.seq ([]:List QR).toArray}).objs.size=none:=I6.free;have I7:Inv X ac σ H5 s6:=I3.G0 (s':=s6) (ch:=fp) I6.os I6.base I6.hok I6.bare (fun b hb=>by obtain⟨_,g1,g2,g3,g4,g5⟩:=f3 b hb;exact⟨g3,g1,g4,g5⟩)
   have Lne:(s2.heap.push { cls:=.type "list",data:=.seq ([]:List QR).toArray}).objs.size≠X.env.locals:=MU I3.lt;have cne:∀y c,X.env.cells.lookup y=some c->c≠(s2.heap.push { cls:=.type "list",data:=.seq ([]:List QR).toArray}).objs.size:=fun y c e=>by obtain⟨v',z⟩:=I3.cell y c e;exact s_ z.lt
   refine Wq (rP (v:=.ref s2.heap.objs.size) I7 hNd hi hx rfl (fun s8 I8 ⟨a8,sb8,ha8⟩=>?_) (.inl hf));refine⟨m6,hn6.sameBut sb8 (fun z=>ha8.elim (fun w'=>Lne (z.trans w')) fun w'=>cne _ _ w' z.symm),fun h' hs'=>⟨_,H5,?_,q⟩⟩;refine I8.turned (it:=(s2.heap.push { cls:=.type "list",data:=.seq ([]:List QR).toArray}).objs.size) (t':=s8.toks) (fun b o hb e=>(hs'.2 b hb).trans e) hL Lne (.inr I3.sz) cne fun p hp z=>?_;have lt:=Q1 (I3.pin p hp).1;rw[z]at lt;exact MP _ lt
  refine thn (T.item (b7 X N' sc _ _ fp) rfl rfl rfl rfl j [] s5 σ5 H5 (fun _ _=>False) I5 (stat fr5) st5 go) ?_;rintro r s6 ⟨u,hr,h6⟩;subst hr;refine thn h6 ?_;rintro _ s7 ⟨y,H7,I7,r7,y7,st7,fr7⟩;have I7':=I7.pinned (stat fr7) (T.obj _ _ st7);have again:∀{σ8:St}{H8:Hp}{s8:QV},Inv (b7 X N' sc {s2 with heap:=s2.heap.push { cls:=.type "list",data:=.seq ([]:List QR).toArray} } (upd H2 s2.heap.objs.size (.lst [])) fp) ([]++o6 fp s7.heap) σ8 H8 s8->(∃m',m'<n/\W (j+1) m' σ8 H8)->
    ∃m,m<n/\∃i σ' H',Inv (b7 X N' sc {s2 with heap:=s2.heap.push { cls:=.type "list",data:=.seq ([]:List QR).toArray} } (upd H2 s2.heap.objs.size (.lst [])) fp) [] σ' H' s8/\tn i s8.heap/\(∀b∈fp,H' b=none)/\W i m σ' H':=fun{σ8 H8 s8} I8 ⟨m',hm,w8⟩=>by
   refine⟨m',hm,j+1,σ8,H8,I8.jc,T.keep _ _ _ st7 fun b hb o e=>(I8.pin (b,o) (r_ _ (r_ _ (cS hb e)))).1,fun b hb=>?_,w8⟩;obtain⟨o,e,d⟩:=T.obj _ _ st7 b hb;exact(I8.pin (b,o) (r_ _ (r_ _ (cS hb e)))).2.1
  refine thn (hg _ _ fp _ s7 σ5 H7 y u _ I7' r7 (step y H7 y7)) ?_;rintro _ s8 ⟨σ8,H8,I8,q8⟩;refine thn (ht _ _ fp _ s8 σ8 H8 _ I8 q8) ?_;rintro ok s9 ⟨H9,I9,q9⟩;cases ok with
  |false=>exact again I9 q9
  |true=>
   refine thn (he _ _ fp _ s9 σ8 H9 _ I9 q9) ?_;rintro y s10 ⟨v,H10,I10,r10,ys,hys,hl,q10⟩;refine thn (nr _ s10 σ8 H10 (.ref s2.heap.objs.size) [v] (.ref s2.heap.objs.size) [y] (fun _ H'=>∃m',m'<n/\W (j+1) m' σ8 H') I10 rfl (.cons r10 .nil) ⟨_,ys,v,rfl,rfl,hys,hl,q10⟩) ?_;rintro z s11 ⟨_,H11,I11,_,q11⟩;exact again I11 q11
 refine VC loop ?_;exact T.self X.A 0 _ _ _ st4 loop
section
variable{X:Cx}
theorem MtM.imp {id:String}{r r':V->List V->Hp->VK->Prop}(h:MtM X id r)(k:∀x xs H Q,r' x xs H Q->r x xs H Q):MtM X id r':=fun ac s σ H x xs v us Q I r1 r2 q=>h ac s σ H x xs v us Q I r1 r2 (k _ _ _ _ q)
theorem yb:MtM X "list.extend" (fun x vs H Q=>∃l b xs zs,x=.ref l/\vs=[.ref b]/\H l=some (.lst xs)/\H b=some (.lst zs)/\xs.length+zs.length<=sizeLine/\∀H',Put H l (.lst (xs++zs)) H'->Q .non H'):=Au.imp (by rintro x vs H Q ⟨l,b,xs,zs,e1,e2,h1,h2,hz,q⟩;exact⟨l,b,xs,zs,e1,e2,h1,h2,hz,q _ Put.up⟩)
theorem wM:MtM X "list.append" (fun x vs H Q=>∃l xs y,x=.ref l/\vs=[y]/\H l=some (.lst xs)/\xs.length<sizeLine/\∀H',Put H l (.lst (xs++[y])) H'->Q .non H'):=nr.imp (by rintro x vs H Q ⟨l,xs,y,e1,e2,h1,hz,q⟩;exact⟨l,xs,y,e1,e2,h1,hz,q _ Put.up⟩)
end
end L2
namespace ZG
open PySem
open Sem (wp)
variable {Q:Option QR->QV->Prop}{d:QS}{ep:Nat}{es:Array RX}{o:Obj}
section
variable{prog:Q5}{w:Q8}{A:Rh}{E:QR->QV->Prop}{s:QV}
theorem Gw{Q:QR->QV->Prop}(hd:(d == RS)=false)(ho:s.heap.get? d=some o)(hc:o.ExactDict)(hdat:o.data=.dict es ep)
  (hQ:Q (.ref s.heap.objs.size) {s with heap:=s.heap.push { cls:=.type "dict_keyiterator",data:=.fields #[.ref d,.int 0 0,.int es.size 0,.int ep 0] } }):QX (Q3 prog w) A (Uh (.ref d)) Q E s:=by
 have hT:s.TypeIs (.ref d) "dict":=⟨o,ho,hc.1⟩;refine Uc hT WI (Rz WI hT F.entry_dict_iter ?_ (F.args_dict_iter_1 _));unfold RW.«dict.__iter__» XO;refine QQ (QQ (Uw hT (show QX _ _ (pure (Rx d)) _ _ s from QU (show QX _ _ (Tw d >>= _) _ _ s from ?_))));unfold Tw;rw[if_neg (by rw[hd];exact LY)];exact QQ (QU (QQ (SF ho hdat (QQ (To ho hdat (QQ (Ri (QU ⟨_,rfl,"dict_keyiterator",_,⟨_,Q0 _ rfl,rfl⟩,Sf.lookup,by simpa[RH]using hQ⟩))))))))
theorem G9{it:QS}{i:Nat}{e:RX}(hit:s.heap.IsKeyIter it d i es.size ep)(hod:s.heap.get? d=some o)(hdd:o.data=.dict es ep)(hx:es[i]?=some e)
  (hQ:∀h',h'.IsKeyIter it d (i+1) es.size ep->Rq it s.heap h'->Q (some e.key) {s with heap:=h'}):QX (Q3 prog w) A (R7 (.ref it)) Q E s:=by
 obtain⟨oi,ho,hc,hd⟩:=id hit;unfold R7;refine QQ (RZ (Ry (name:=RP "__next__") hit.typeIs Sf (Rz Sf hit.typeIs UL ?_ (UH _))));refine QQ (QU (QQ (QQ ?_)));refine QQ (SJ hit.typeIs (QU (QQ (Tx ho hd ?_))));simp only[show Sh "dict_keyiterator"=false by decide,G',if_false];show QX _ _ (if(Rx d == Rn)=true then _ else _) _ _ s;rw[if_neg (show ¬(Rx d == Rn)=true from fun z=>LY z)];refine QQ (QU (QQ (SF hod hdd ?_)));rw[if_neg (show ¬_ by simp)];refine QQ (QU (QQ (To hod hdd ?_)));rw[if_neg (show ¬_ by simp)];refine QU ?_;simp only[show ¬(i:Int)<0 by lia,if_false,LR,hx];refine QQ (QQ (SJ hit.typeIs (QU (QQ (VI hit.typeIs ?_)))));show QX _ _ (WJ (.ref it) 1 (RH ((i:Int)+1)) >>= _) _ _ s;refine QQ (R0 ho hd (by simp) ?_);have hit':(s.heap.update it (TF (·.setIfInBounds 1 (RH ((i:Int)+1))))).IsKeyIter it d (i+1) es.size ep:=
  ⟨_,Rr _ ho (Sw (RD hd _)),(Tt ..).trans hc,by rw[RD hd];simp[RH]⟩
 exact QQ (Rm (QQ (VI (s:={s with heap:=s.heap.update it (TF (·.setIfInBounds 1 (RH ((i:Int)+1)))) }) hit'.typeIs (show QX _ _ (pure e.key) _ _ _ from QU (QU ⟨_,rfl,QU (hQ _ hit' (RF ..))⟩)))))
theorem Kn{it:QS}{i:Nat}(hh:A.handled=none)(hit:s.heap.IsKeyIter it d i es.size ep)(hod:s.heap.get? d=some o)(hdd:o.data=.dict es ep)(hx:es[i]?=none)
  (hQ:∀h',Tq it s.heap h'->Q none {s with heap:=h'}):QX (Q3 prog w) A (R7 (.ref it)) Q E s:=by
 obtain⟨oi,ho,hc,hd⟩:=id hit;unfold R7;refine QQ (RZ (Ry (name:=RP "__next__") hit.typeIs Sf (Rz Sf hit.typeIs UL ?_ (UH _))));refine QQ (QU (QQ (QQ ?_)));refine QQ (SJ hit.typeIs (QU (QQ (Tx ho hd ?_))));simp only[show Sh "dict_keyiterator"=false by decide,G',if_false];show QX _ _ (if(Rx d == Rn)=true then _ else _) _ _ s;rw[if_neg (show ¬(Rx d == Rn)=true from fun z=>LY z)];refine QQ (QU (QQ (SF hod hdd ?_)));rw[if_neg (show ¬_ by simp)];refine QQ (QU (QQ (To hod hdd ?_)));rw[if_neg (show ¬_ by simp)];refine QU ?_;simp only[show ¬(i:Int)<0 by lia,if_false,LR,hx];refine QQ (QQ (SJ hit.typeIs (QU ?_)));show QX _ _ (WJ (.ref it) 0 .none >>= _) _ _ s;refine QQ (R0 ho hd (by simp) (show QX _ _ (UD (.type "StopIteration") [] >>= _) _ _ _ from QQ ?_));simp only[UD,VU];refine QQ (Ri (QQ (m:=Sd _ _) (Tr (a:=Rn) (by first|rfl|(simp only[Sd];rfl)) (Ri ?_ (by size_fits)))) (by size_fits));simp only[VX];refine QQ (Us ?_);rw[show A.in1.handled=none from hh];refine QQ (QU (UT ?_));refine QQ (Tb (T:="StopIteration") (b:=true) (by exact⟨_,Q0 _ rfl,rfl⟩) T8 (QU ?_));exact hQ _ (((RF ..).extBut.push _).push _)
end
open Sem (wp)
theorem oI:WK Yr "dict.update.loop"=some RW.«dict.update.loop»:=WL (by kernel_rfl)
theorem fg:plainId "dict.update.loop"=true:=by rfl'
section
variable{prog:Q5}{w:Q8}{Kk:Type}[DecidableEq Kk]{knd:KeyKind prog w Kk}{A:Rh}{E:QR->QV->Prop}{R:We->QV->Prop}{s:QV}
noncomputable def o7(knd:KeyKind prog w Kk)(h:Q_)(v:QR)(x:List Kk×QS×QR):Prop:=∃p o n,v=.ref p/\h.get? p=some o/\o.cls=.type "tuple"/\o.data=.seq #[.ref x.2.1,x.2.2] n/\IsTupleKey knd h x.1 x.2.1
theorem o7.at {h h':Q_}{v:QR}{x:List Kk×QS×QR}(q:o7 knd h v x)(k:∀b o,(∃y n,o.data=.seq y n)->h.get? b=some o->h'.get? b=some o):o7 knd h' v x:=by obtain⟨p,o,n,e,h1,h2,h3,o2,its,n2,g1,g2,g3,g4⟩:=q;exact⟨p,o,n,e,k _ _ ⟨_,_,h3⟩ h1,h2,h3,o2,its,n2,k _ _ ⟨_,_,g3⟩ g1,g2,g3,g4⟩
noncomputable def putAll(xs:List (List Kk×QS×QR)):List (List Kk×QS×QR):=xs.foldl (fun a x=>T7 a x.1 x.2.1 x.2.2) []
theorem putAll_snoc(xs:List (List Kk×QS×QR))(x:List Kk×QS×QR):putAll (xs++[x])=T7 (putAll xs) x.1 x.2.1 x.2.2:=by
 unfold putAll;rw[List.foldl_append]
 rfl
theorem vm(xs:List (List Kk×QS×QR))(k:List Kk)(a:QS)(v:QR):(T7 xs k a v).length<=xs.length+1:=by
 unfold T7;split
 ·rw[a_];lia
 rw[e_];exact b_ _
theorem x6(xs:List (List Kk×QS×QR)):(putAll xs).length<=xs.length:=by
 have g:∀(ys acc:List (List Kk×QS×QR)),(ys.foldl (fun a x=>T7 a x.1 x.2.1 x.2.2) acc).length<=acc.length+ys.length:=by
  intro ys;induction ys with
  |nil=>intro acc;exact b_ _
  |cons y r ih=>
   intro acc;rw[NR,h_];have h1:=ih (T7 acc y.1 y.2.1 y.2.2);have h2:=vm acc y.1 y.2.1 y.2.2;lia
 have:=g xs [];simpa[putAll]using this
theorem ya(I l d:QS)(kvs:List (List Kk×QS×QR))(items:Array QR)(hz:kvs.length<=sizeLine)(hu:A.in1.units<cLine)(hh:A.in1.handled=none)(hsz:items.size=kvs.length) :
  ∀(k i:Nat) (s:QV),kvs.length-i=k->i<=kvs.length->s.heap.IsListIter I l i->s.heap.IsList l items->(∀(j:Nat) x v,kvs[j]?=some x->items[j]?=some v->o7 knd s.heap v x)->s.heap.DictOfH (Sl knd) d (putAll (kvs.take i))->
   (∀s':QV,(∀b o,b≠d->b≠I->s.heap.get? b=some o->s'.heap.get? b=some o)->s'.gens=s.gens->s'.drawn=s.drawn->s'.os=s.os->s'.heap.DictOfH (Sl knd) d (putAll kvs)->R (.ok (.ret .none)) s')->
   SM (Q3 prog w) A (.builtin "dict.update.loop" ⟨[.ref d,.ref I,RH i,.none],[]⟩) R s:=by
 intro k;induction k with
 |zero=>
  intro i s hk hi hit hl hp hd hR;have hin:i=kvs.length:=by lia
  subst hin;refine R8 oI ?_;rw[RT fg _];show QX _ A.in1 (R7 (.ref I) >>= _) _ _ s;have dI:d≠I:=by obtain⟨od,es,ep,h1,_,h3,_⟩:=hd;obtain⟨oi,g1,_,g3⟩:=hit;intro z;rw[z,g1]at h1;cases h1;rw[g3]at h3;cases h3
  refine QQ (VF hh hit hl (by rw[Mh];lia) fun h' he=>?_);show QX _ A.in1 (XX d [] >>= _) _ _ _;refine QQ (QU (QU (hR _ (fun b o n1 n2 e=>he b o n2 e) rfl rfl rfl ?_)));rw[w_]at hd;obtain⟨o,es,ep,h1,h2,h3,h4,h5,h6⟩:=hd;refine⟨o,es,ep,he d o dI h1,h2,h3,h4,fun x hx=>?_,h6⟩;obtain⟨o2,its,n2,g1,g2,g3,g4⟩:=h5 x hx;refine⟨o2,its,n2,he _ _ (fun z=>?_) g1,g2,g3,g4⟩;obtain⟨oi,k1,_,k3⟩:=hit;rw[z,k1]at g1;cases g1;rw[k3]at g3;cases g3
 |succ k ih=>
  intro i s hk hi hit hl hp hd hR;have hlt:i<kvs.length:=by lia
  refine R8 oI ?_;rw[RT fg _];show QX _ A.in1 (R7 (.ref I) >>= _) _ _ s;have hv:items[i]?=some items[i]:=j_ (by lia);have hx:kvs[i]?=some kvs[i]:=d_ hlt;have seqI:∀b o,(∃y n,o.data=.seq y n)->s.heap.get? b=some o->b≠I:=fun b o ⟨y,n,q⟩ e z=>by obtain⟨oi,k1,_,k3⟩:=hit;rw[z,k1]at e;cases e;rw[k3]at q;cases q
  have seqD:∀b o,(∃y n,o.data=.seq y n)->s.heap.get? b=some o->b≠d:=fun b o ⟨y,n,q⟩ e z=>by obtain⟨od,es,ep,h1,_,h3,_⟩:=hd;rw[z,h1]at e;cases e;rw[h3]at q;cases q
  have dI:d≠I:=by obtain⟨od,es,ep,h1,_,h3,_⟩:=hd;obtain⟨oi,g1,_,g3⟩:=hit;intro z;rw[z,g1]at h1;cases h1;rw[g3]at h3;cases h3
  have lI:l≠I:=by obtain⟨ol,h1,h2,n,h3⟩:=hl;exact seqI l ol ⟨_,_,h3⟩ h1
  have lD:l≠d:=by obtain⟨ol,h1,h2,n,h3⟩:=hl;exact seqD l ol ⟨_,_,h3⟩ h1
  refine QQ (Vy hit hl hv fun h' hit' hs'=>?_);have hp':=hp;obtain⟨p,o,n,ev,g1,g2,g3,gk⟩:=hp i _ _ hx hv;have k1:h'.get? p=some o:=(hs'.2 p (seqI p o ⟨_,_,g3⟩ g1)).trans g1;show QX _ A.in1 (TJ [items[i]] _ >>= _) _ _ _;refine QQ (Rm ?_);rw[ev];have hT:({s with heap:=h'}:QV).TypeIs (.ref p) "tuple":=⟨o,k1,g2⟩;refine QQ (wpAny_tryCatch ?_);unfold Yl;refine QQ (TV hT ?_);rw[if_pos (by decide)];unfold Vt;refine QQ (QQ (VP k1 ?_));rw[g3];refine QU (QU ?_);show QX _ A.in1 (TJ [.ref kvs[i].2.1,kvs[i].2.2] (dictSet d (.ref kvs[i].2.1) kvs[i].2.2)) _ _ _;have hd':h'.DictOfH (Sl knd) d (putAll (kvs.take i)):=by obtain⟨o,es,ep,h1,h2,h3,h4,h5,h6⟩:=hd;refine⟨o,es,ep,(hs'.2 d dI).trans h1,h2,h3,h4,fun x hx=>?_,h6⟩;obtain⟨o2,its,n2,g1,g2,g3,g4⟩:=h5 x hx;exact⟨o2,its,n2,(hs'.2 _ (seqI _ _ ⟨_,_,g3⟩ g1)).trans g1,g2,g3,g4⟩
  have gk':IsTupleKey knd h' kvs[i].1 kvs[i].2.1:=by obtain⟨o2,its,n2,g1,g2,g3,g4⟩:=gk;exact⟨o2,its,n2,(hs'.2 _ (seqI _ _ ⟨_,_,g3⟩ g1)).trans g1,g2,g3,g4⟩
  have hlen:(putAll (kvs.take i)).length<=sizeLine:=by have:=x6 (kvs.take i);rw[C']at this;lia
  refine Rm (wpAny_dictSet_heap (knd:=Sl knd) (s:={s with heap:=h'}) (hsz:=hlen) hu gk' hd' fun h2 hd2 hs2=>?_);refine QU ⟨SH fg _,?_⟩;have et:kvs.take (i+1)=kvs.take i++[kvs[i]]:=by rw[LU,hx];rfl
  have ei:(RH ((i:Int)+1))=RH ((i+1:Nat):Int):=by push_cast;rfl
  have kk:∀b ob,b≠d->b≠I->s.heap.get? b=some ob->h2.get? b=some ob:=fun b ob n1 n2 e=>(hs2.2 b n1).trans ((hs'.2 b n2).trans e);show SM _ A (.builtin "dict.update.loop" ⟨[.ref d,.ref I,RH ((i:Int)+1),.none],[]⟩) R _;rw[ei];refine ih (i+1) _ (by lia) hlt ?_ ?_ (fun j x v e1 e2=>(hp j x v e1 e2).at fun b ob q e=>kk b ob (seqD b ob q e) (seqI b ob q e) e) (by rw[et,putAll_snoc];exact hd2) fun s' kp eg ed eo dd=>?_
  ·obtain⟨oi,q1,q2,q3⟩:=hit';exact⟨oi,(hs2.2 I dI.symm).trans q1,q2,q3⟩
  ·obtain⟨ol,q1,q2,q3⟩:=hl;exact⟨ol,kk l ol lD lI q1,q2,q3⟩
  exact hR s' (fun b ob n1 n2 e=>kp b ob n1 n2 (kk b ob n1 n2 e)) eg ed eo dd
end
open Sem (wp)
section
variable{prog:Q5}{w:Q8}{A:Rh}{E:QR->QV->Prop}{s:QV}
theorem A5:WR (.type "list") "keys"=pure none:=by rw[Vu,Ux];kernel_rfl
theorem B3{a:QS}{xs:Array QR}{k:Nat}(hx:s.heap.get? a=some o)(hc:o.cls=.type "list")(hdat:o.data=.seq xs k)(hd:o.dict=none)(hA:A.handled=none)
  (h:∀h' tk e,Heap.NewExcOf s.heap h' e "AttributeError"->Q none {s with heap:=h',toks:=tk}):QX (Q3 prog w) A (getAttr? (.ref a) "keys") Q E s:=by
 obtain⟨cl,dct,dat,sl⟩:=o;simp only at hc hdat hd;subst hc hdat hd;obtain⟨hp,gg,dr,tk,os⟩:=s;have hT:∀tk1,(⟨hp,gg,dr,tk1,os⟩:QV).TypeIs (.ref a) "list":=fun _=>⟨_,hx,rfl⟩;have f1:=sub_AttributeError;have f3:=T1.lookup;have f4:=T1.bind (.ref a);have f5:=am_list_getattr_none;unfold getAttr? getAttrBy? getAttrBy
 repeat (any_goals (first|assumption|exact hT _|((with_reducible show QX _ _ (call (Value.builtin "list.__getattribute__") _ _) _ _ _);refine U7 T1 (hT _) am_entry_list_getattribute (F.args_list_getattribute_2 _ _) (meets_getattribute_miss_list a xs k sl "keys" _ A5 (by rfl') (by rfl')) ⟨hx,hA,fun h' tk' e hx'=>?_⟩)|wp_step))
 obtain⟨tt1,uu1,hee⟩:=hx'.there;refine(show QX _ _ (Wj _ _ _ _ _ _ _) _ _ _ from ?_);unfold Wj;repeat (any_goals (first|assumption|wp_step))
 exact h _ _ _ hx'.of
end
open Sem (wp)
section
variable{prog:Q5}{w:Q8}{Kk:Type}[DecidableEq Kk]{knd:KeyKind prog w Kk}{A:Rh}{E:QR->QV->Prop}{s:QV}
theorem Dq{l:QS}{n:Nat}{kvs:List (List Kk×QS×QR)}{items:Array QR}{Q:QR->QV->Prop}(hx:s.heap.get? l=some o)(hc:o.cls=.type "list")(hdat:o.data=.seq items n)(hd:o.dict=none)(hA:A.handled=none)
  (hu:A.units+20<cLine) (hz:kvs.length<=sizeLine) (hsz:items.size=kvs.length) (hp:∀(j:Nat) x v,kvs[j]?=some x->items[j]?=some v->o7 knd s.heap v x)
  (h:∀h' tk,(∀b o,s.heap.get? b=some o->h'.get? b=some o)->h'.DictOfH (Sl knd) s.heap.objs.size (putAll kvs)->Q (.ref s.heap.objs.size) {s with heap:=h',toks:=tk}) :
  QX (Q3 prog w) A (call (.type "dict") [.ref l]) Q E s:=by
 refine Xj (Q₁:=fun obj s₁=>obj=.ref s.heap.objs.size/\s₁={s with heap:=s.heap.push { cls:=.type "dict",data:=.dict #[] } }) F.kt_called_dict (F.kt_typeCall_dict_1 _) F.entry_dict_init (kt_code_dict_new _ ⟨rfl,rfl⟩) ?_;rintro obj s₁ ⟨rfl,rfl⟩;have k1:∀b ob,s.heap.get? b=some ob->(s.heap.push { cls:=.type "dict",data:=.dict #[] }).get? b=some ob:=fun b ob e=>QW _ e;have hnew:(s.heap.push { cls:=.type "dict",data:=.dict #[] }).DictOfH (Sl knd) s.heap.objs.size []:=YS s.heap;refine⟨hnew.typeIs,F.args_dict_init_2 _ _,?_⟩;unfold RW.«dict.__init__» XY;refine QQ (QQ (Uw hnew.typeIs (show QX _ _ (pure (s.heap.objs.size,[Rx l])) _ _ _ from QU ?_)));show QX _ _ (Vl "dict.__init__" s.heap.objs.size (.ref l) [] .none) _ _ _;unfold Vl;have hT:({s with heap:=s.heap.push { cls:=.type "dict",data:=.dict #[] } }:QV).TypeIs (.ref l) "list":=⟨o,k1 _ _ hx,hc⟩;refine QQ (TV hT ?_);rw[if_pos (by decide)];refine QQ (B3 (s:={s with heap:=s.heap.push { cls:=.type "dict",data:=.dict #[] } }) (k1 _ _ hx) hc hdat hd (by simp[hA]) fun h2 tk2 e2 hx2=>?_);have k2:∀b ob,(s.heap.push { cls:=.type "dict",data:=.dict #[] }).get? b=some ob->h2.get? b=some ob:=hx2.keeps;have hl2:({s with heap:=h2,toks:=tk2}:QV).heap.IsList l items:=⟨o,k2 _ _ (k1 _ _ hx),hc,n,hdat⟩;refine QQ (Sy ?_);refine QQ (Sj hl2 ?_);refine QU ⟨SH fg _,?_⟩;have k3:∀b ob,h2.get? b=some ob->(h2.push { cls:=.type "list_iterator",data:=.fields #[.ref l,.int 0 0] }).get? b=some ob:=fun b ob e=>QW _ e;refine ya (knd:=knd) h2.objs.size l s.heap.objs.size kvs items hz (by simp;lia) (by simp[hA]) hsz (kvs.length-0) 0 _ rfl (E_ _) ⟨_,Q0 _ rfl,rfl,rfl⟩ (hl2.push _)
  (fun j x v e1 e2=>(hp j x v e1 e2).at fun b ob _ e=>k3 _ _ (k2 _ _ (k1 _ _ e))) ?_ fun s' kp eg ed eo dd=>?_
 ·obtain⟨o',es,ep,h1,h2',h3,h4,h5,h6⟩:=hnew;exact⟨o',es,ep,k3 _ _ (k2 _ _ h1),h2',h3,h4,fun x hx=>absurd (show x∈([]:List (List Kk×QS×QR))from hx) (by simp),h6⟩
 obtain⟨h',g',d',tk',os'⟩:=s';simp only at eg ed eo;subst eg ed eo;refine⟨rfl,h h' tk' (fun b ob e=>kp b ob ?_ ?_ (k3 _ _ (k2 _ _ (k1 _ _ e)))) dd⟩
 ·exact s_ (Q1 e)
 exact s_ (Q1 (k2 _ _ (k1 _ _ e)))
end
end ZG
namespace L2
open PySem PySem.Spec PyProof.Rows
noncomputable def kI(ns:List Int):List Key:=ns.map U_
theorem Lb(ns:List Int):(kI ns).map kV=ns.map V.int:=by
 unfold kI;rw[z_]
 rfl
theorem IU{ns ms:List Int}(h:kI ns=kI ms):ns=ms:=(List.map_inj_right fun _ _ z=>Yb z).mp h
def yV(kvs:List (List Key×V)):List (List Key×V):=kvs.foldl (fun a x=>putK a x.1 x.2) []
abbrev wH(H:Hp):List V->List (List Key×V)->Prop:=S8 fun v x=>∃a b,v=.ref a/\H a=some (.tup [.ref b,x.2])/\H b=some (.tup (x.1.map kV))
variable {H:Hp}
theorem AG:∀{kvs:List (List Key×V)}{xs:List (List Key×QS×QR)}{k0:List (List Key×V)}{x0:List (List Key×QS×QR)},KT H k0 x0->KT H kvs xs->
  KT H (kvs.foldl (fun a x=>putK a x.1 x.2) k0) (xs.foldl (fun a x=>T7 a x.1 x.2.1 x.2.2) x0):=by
 intro kvs xs k0 x0 r x;induction x generalizing k0 x0 with
 |nil=>exact r
 | @cons p q _ _ h t ih=>
  obtain⟨h1,h2,h3⟩:=h;refine ih (k0:=putK _ p.1 p.2) (x0:=T7 _ q.1 q.2.1 q.2.2) ?_;rw[<-h1];exact r.put p.1 h2 h3
theorem As(kvs:List (List Key×V)):(yV kvs).length<=kvs.length:=by
 have g:∀(ys acc:List (List Key×V)),(ys.foldl (fun a x=>putK a x.1 x.2) acc).length<=acc.length+ys.length:=by
  intro ys;induction ys with
  |nil=>intro acc;exact b_ _
  |cons y r ih=>
   intro acc;rw[NR,h_];have h1:=ih (putK acc y.1 y.2);have h2:=eY acc y.1 y.2;lia
 have:=g kvs [];simpa[yV]using this
section
variable{X:Cx}{ac:List (QS×Obj)}{σ:St}{H:Hp}{s:QV}
theorem AR(I:Inv X ac σ H s):∀{ys:List V}{us:List QR}{kvs:List (List Key×V)},Vals ys us->wH H ys kvs->∃xs:List (List Key×QS×QR),KT H kvs xs/\xs.length=kvs.length/\us.length=kvs.length/\∀(j:Nat) x v,xs[j]?=some x->us[j]?=some v->ZG.o7 (b8 X.prog X.w) s.heap v x:=by
 intro ys us kvs x;induction x generalizing kvs with
 |nil=>intro y;cases y;exact⟨[],.nil,rfl,rfl,fun j x v e=>by simp at e⟩
 |cons hv tv ih=>
  intro y;rcases y with _|⟨hp,tp⟩;rename_i p kvs;obtain⟨xs,k,l1,l2,q⟩:=ih tp;obtain⟨a,b,e,ha,hb⟩:=hp;subst e;cases hv;obtain⟨_,its,r,o,h1,h2,n,h3⟩:=(show b6 X.prog X.w H s.heap a (.tup [.ref b,p.2])from I.hok a _ ha);obtain⟨u1,u2,eu,r1,r2⟩:=Vals.two r;cases r1;subst eu;have ky:=t5 I.hok hb;refine⟨(p.1,b,u2)::xs,.cons ⟨rfl,hb,r2⟩ k,by rw[h_,h_,l1],by rw[h_,h_,l2],fun j x v e1 e2=>?_⟩;cases j with
  |zero=>
   simp only[MX,N6]at e1 e2;subst e1 e2;exact⟨a,o,n,rfl,h1,h2,h3,ky⟩
  |succ j=>
   simp only[MJ]at e1 e2;exact q j x v e1 e2
theorem y0(hc:X.calm=true)(hu:X.A.units+20<cLine):bE X (.type "dict") (fun xs H Q=>∃l ys kvs,xs=[.ref l]/\H l=some (.lst ys)/\wH H ys kvs/\New (.dT (yV kvs)) H Q):=by
 intro ac s σ H xs us Q I r h;obtain⟨l,ys,kvs,rfl,hl,hp,q⟩:=h;obtain⟨u,rfl,ru⟩:=vals1 r;cases ru;obtain⟨hz,its,n,rv,ho⟩:=(show b6 X.prog X.w H s.heap l (.lst ys)from I.hok l _ hl);obtain⟨xs,kt,l1,l2,pr⟩:=AR I rv hp;have hyl:=rv.length;have hz':xs.length<=sizeLine:=by lia
 refine ZG.Dq (knd:=b8 X.prog X.w) (kvs:=xs) ho rfl rfl rfl (I.ok.hd hc) hu hz' (by simp;lia) (fun j x v e1 e2=>pr j x v e1 (by simpa using e2)) fun h' tk kp dd=>?_
 obtain⟨o,es,ep,h1,h2,h3,h4,h5,h6⟩:=dd;refine⟨.ref s.heap.objs.size,_,I.laid (t':=tk) (a:=s.heap.objs.size) (o:=.dT (yV kvs)) kp (b_ _) ⟨?_,beq_eq_false_iff_ne.mpr (SK (s_ I.big)),_,(AG .nil kt).keeps fun c zs ec=>?_,o,es,ep,h1,h2,h3,h4,h6⟩,rfl,q.at (I.hok.fresh (b_ _))⟩
 ·have:=As kvs;lia
 rw[aN (bG ec (I.hok.fresh (b_ _)))];exact ec
end
theorem qx{α β:Type}{F:α->β->Prop}:∀{l:List α}{m:List β}{i:Nat}{b:β},S8 F l m->m[i]?=some b->∃a,l[i]?=some a/\F a b
 | _,_,_,_,.nil,e=>by simp at e
 | _,_,0,_,.cons h t,e=>by simp only[MX,N6]at e;subst e;exact⟨_,rfl,h⟩
 | _,_,i+1,_,.cons h t,e=>by simp only[MJ]at e ⊢;exact qx t e
theorem E7{X:Cx}{ac:List (QS×Obj)}{σ:St}{s:QV}{o:Obj}{d:QS}{kvs:List (List Key×V)}(I:Inv X ac σ H s)(e:H d=some (.frz o (.dT kvs))) :
  s.heap.get? d=some o/\(d == RS)=false/\∃xs es ep,KT H kvs xs/\o.ExactDict/\o.data=.dict es ep/\es.toList=xs.map (U6 (Sl (b8 X.prog X.w)))/\es.size=kvs.length:=by
 obtain⟨h0,h1,h2,xs,kt,o',es,ep,g1,g2,g3,g4,g5⟩:=(show b6 X.prog X.w H s.heap d (.frz o (.dT kvs))from I.hok d _ e);rw[h0]at g1;cases g1;refine⟨h0,h2,xs,es,ep,kt,g2,g3,g4,?_⟩;rw[<-g_,g4,a_];exact(R' kt).symm
section
variable{X:Cx}
theorem Av(hc:X.calm=true):bE X (.builtin "min") (fun xs H Q=>∃a ns,xs=[.ref a]/\SqT X.K H a (ns.map V.int)/\ns≠[]/\∀r,iO ns r->Q (.int r) H):=by
 intro ac s σ H xs us Q I r h;obtain⟨a,ns,rfl,hq,hne,q⟩:=h;obtain⟨u,rfl,ru⟩:=vals1 r;cases ru;obtain⟨its,rv,p,z⟩:=I.tuple hq;obtain⟨ps,e1,e2⟩:=cg rv;have ei:RL ps.toArray=its.toArray:=by simp[RL,e1]
 have hT:s.heap.IsTuple a (RL ps.toArray):=by rw[ei];exact p
 have hlen:ps.length=ns.length:=by rw[<-e2];simp
 have hpos:0<ns.length:=Ml fun z=>hne (Mf z);have hlt:a<s.heap.objs.size:=by obtain⟨o,e,_⟩:=p;exact Q1 e
 have hh:X.A.in1.handled=none:=I.ok.hd hc;have W1:=Ym (prog:=X.prog) (w:=X.w) hh s.heap.objs.size a (s_ hlt) (RL ps.toArray);refine call_min_walk (Sx hT ⟨s.heap.objs.size,_,_,_,_,_,_,rfl,W1,?_,fun b hb=>?_,?_,CmpOf.ints_lt (Tg ps.toArray) (fun i v hv=>Um hv),fun v h' tk hv hk=>?_⟩)
 ·refine⟨⟨_,Q0 _ rfl,rfl,rfl⟩,?_⟩;obtain⟨o,e,r⟩:=hT;exact⟨o,QW _ e,r⟩
 ·show b<(s.heap.push _).objs.size;have e:(s.heap.push { cls:=.type "tuple_iterator",data:=.fields #[.ref a,.int 0 0] }).objs.size=s.heap.objs.size+1:=by simp[Uy]
  rcases p_.mp hb with hb|hb
  ·rw[hb];simp[Uy]
  rw[A_.mp hb];exact A' hlt (by simp[Uy])
 ·simp[RL];lia
 obtain⟨tv,rfl⟩:=Um hv;obtain⟨b1,b2⟩:=argBest_lt (Tg ps.toArray) ((RL ps.toArray).size-1);have es:(RL ps.toArray).size=ns.length:=by simp[RL,hlen]
 have hi:Xi (fun i j=>decide (Tg ps.toArray i<Tg ps.toArray j)) ((RL ps.toArray).size-1)<ns.length:=by rw[es]at b1 ⊢;lia
 obtain⟨f0,f1,f2,f3,f4,f5⟩:=I.wJ (b:=s.heap.objs.size) (b_ _) (I.hok.fresh (b_ _));have kk:∀b o,s.heap.get? b=some o->h'.get? b=some o:=fun b o e=>hk b o (fun z=>s_ (Q1 e) (A_.mp z)) (QW _ e);refine⟨.int _,H,I.kept (t':=tk) kk,⟨tv,rfl⟩,q _ ⟨?_,fun x hx=>?_⟩⟩
 ·rw[cN e2 hi];exact MQ hi
 obtain⟨j,hj,rfl⟩:=Mg.mp hx;have:=b2 j (by rw[es];lia);rw[cN e2 hj]at this;exact this
theorem Aq(hc:X.calm=true):bE X (.builtin "max") (fun xs H Q=>∃a ns,xs=[.ref a]/\SqT X.K H a (ns.map V.int)/\ns≠[]/\∀r,iL ns r->Q (.int r) H):=by
 intro ac s σ H xs us Q I r h;obtain⟨a,ns,rfl,hq,hne,q⟩:=h;obtain⟨u,rfl,ru⟩:=vals1 r;cases ru;obtain⟨its,rv,p,z⟩:=I.tuple hq;obtain⟨ps,e1,e2⟩:=cg rv;have ei:RL ps.toArray=its.toArray:=by simp[RL,e1]
 have hT:s.heap.IsTuple a (RL ps.toArray):=by rw[ei];exact p
 have hlen:ps.length=ns.length:=by rw[<-e2];simp
 have hpos:0<ns.length:=Ml fun z=>hne (Mf z);have hlt:a<s.heap.objs.size:=by obtain⟨o,e,_⟩:=p;exact Q1 e
 have hh:X.A.in1.handled=none:=I.ok.hd hc;have W1:=Ym (prog:=X.prog) (w:=X.w) hh s.heap.objs.size a (s_ hlt) (RL ps.toArray);refine call_max_walk (Sx hT ⟨s.heap.objs.size,_,_,_,_,_,_,rfl,W1,?_,fun b hb=>?_,?_,CmpOf.ints_gt (Tg ps.toArray) (fun i v hv=>Um hv),fun v h' tk hv hk=>?_⟩)
 ·refine⟨⟨_,Q0 _ rfl,rfl,rfl⟩,?_⟩;obtain⟨o,e,r⟩:=hT;exact⟨o,QW _ e,r⟩
 ·show b<(s.heap.push _).objs.size;have e:(s.heap.push { cls:=.type "tuple_iterator",data:=.fields #[.ref a,.int 0 0] }).objs.size=s.heap.objs.size+1:=by simp[Uy]
  rcases p_.mp hb with hb|hb
  ·rw[hb];simp[Uy]
  rw[A_.mp hb];exact A' hlt (by simp[Uy])
 ·simp[RL];lia
 obtain⟨tv,rfl⟩:=Um hv;obtain⟨b1,b2⟩:=argBest_gt (Tg ps.toArray) ((RL ps.toArray).size-1);have es:(RL ps.toArray).size=ns.length:=by simp[RL,hlen]
 have hi:Xi (fun i j=>decide (Tg ps.toArray i > Tg ps.toArray j)) ((RL ps.toArray).size-1)<ns.length:=by rw[es]at b1 ⊢;lia
 obtain⟨f0,f1,f2,f3,f4,f5⟩:=I.wJ (b:=s.heap.objs.size) (b_ _) (I.hok.fresh (b_ _));have kk:∀b o,s.heap.get? b=some o->h'.get? b=some o:=fun b o e=>hk b o (fun z=>s_ (Q1 e) (A_.mp z)) (QW _ e);refine⟨.int _,H,I.kept (t':=tk) kk,⟨tv,rfl⟩,q _ ⟨?_,fun x hx=>?_⟩⟩
 ·rw[cN e2 hi];exact MQ hi
 obtain⟨j,hj,rfl⟩:=Mg.mp hx;have:=b2 j (by rw[es];lia);rw[cN e2 hj]at this;exact this
end
theorem Un.more {fs ex:List QS}{H':Hp}{h h':Q_}(k:∀b u,h.get? b=some u->h'.get? b=some u)(e:bz H H')(low:∀b,b<h.objs.size->H' b=H b):Un fs ex H H' h h' where
 keep:=fun b u q _ _ _=>k b u q
 slot:=fun b u q _ _ _=>⟨u.slots,k b u q⟩
 free:=fun b u q n _=>by rw[low b (Q1 q)];exact n
 there:=fun b u q _=>⟨u,k b u q⟩
 tups:=fun b xs q=>e _ _ q
 frzs:=fun b u xs q=>e _ _ q
 tbls:=fun b ps q=>⟨#[],by rw[e _ _ q];simp⟩
theorem HOk.more {P:Q5}{w:Q8}{H':Hp}{h h':Q_}(x:HOk P w H h)(k:∀b u,h.get? b=some u->h'.get? b=some u)(e:bz H H')(new:∀b o,H b=none->H' b=some o->b6 P w H' h' b o):HOk P w H' h':=fun b o q=>by
 cases hb:H b with
 |none=>exact new b o hb q
 |some u=>
  rw[e _ _ hb]at q;cases q;exact(x b o hb).o8 (fun c v _ q=>k c v q) (fun c q=>e _ _ q) fun c xs q=>e _ _ q
noncomputable def lzH(H:Hp)(S n0:QS)(xs ys:List V):Hp:=fun b=>if b=S then some (.lst ((NN n0 xs.length).map V.ref))else
 if n0<=b then(match xs[b-n0]?,ys[b-n0]? with
  |some x,some y=>some (.tup [x,y])
  | _,_=>H b)else H b
section
variable{X:Cx}
theorem nC:∀(ns:List Nat),Vals (ns.map V.ref) (ns.map Rx)
 | []=>.nil
 | _::r=>.cons rfl (nC r)
end
end L2
namespace ZS
open PySem PyProof.Rows
noncomputable def gal:Bool->Keyed->Array Keyed->Nat->Nat->Nat->StateT SortSt Sem (Option Nat):=sortPriv% PySem.Builtin.gallop
noncomputable def mLo:Array Keyed->Array Keyed->StateT SortSt Sem (Array Keyed):=sortPriv% PySem.Builtin.mergeLo
noncomputable def mHi:Array Keyed->Array Keyed->StateT SortSt Sem (Array Keyed):=sortPriv% PySem.Builtin.mergeHi
noncomputable def bey(lf:Bool)(ky:QY)(ar:Array QY)(b0 i:Nat):StateT Q4 Sem (Option Bool):=do
 let xx <-RN ar (b0+i)
 if lf then lt' xx ky else return (<-lt' ky xx).map (!·)
def jA(lf:Bool)(ky:QY)(ar:Array QY)(b0 n l0 h0:Nat):StateT Q4 Sem (Option Nat):=do
 let mut l:=l0
 let mut h:=h0
 for _ in [0:n]do
  if l>=h then break
  let m:=l+(h-l)/2
  let some mo <-bey lf ky ar b0 m | return none
  if mo then l:=m+1 else h:=m
 return some h
def Gi(lf:Bool)(ky:QY)(ar:Array QY)(b0 n h0:Nat):StateT Q4 Sem (Option Nat):=do
 let mut la:=0
 let mut of:=1
 for _ in [0:n]do
  if of>=n-h0 then break
  let some mo <-bey lf ky ar b0 (h0+of) | return none
  if !mo then break
  la:=of
  of:=2*of+1
 jA lf ky ar b0 n (h0+la+1) (h0+min of (n-h0))
def yS(lf:Bool)(ky:QY)(ar:Array QY)(b0 n h0:Nat):StateT Q4 Sem (Option Nat):=do
 let mut la:=0
 let mut of:=1
 for _ in [0:n]do
  if of>=h0+1 then break
  let some fo <-bey lf ky ar b0 (h0-of) | return none
  if fo then break
  la:=of
  of:=2*of+1
 jA lf ky ar b0 n (h0+1-min of (h0+1)) (h0-la)
theorem Hv(lf:Bool)(ky:QY)(ar:Array QY)(b0 n h0:Nat):gal lf ky ar b0 n h0=(do
 let some rt <-bey lf ky ar b0 h0 | return none
 if rt then Gi lf ky ar b0 n h0 else yS lf ky ar b0 n h0):=rfl
variable {Q:Option Nat->Q4->Prop}{ar:Array QY}{b0 n:Nat}{ky:QY}{lf:Bool}{st:Q4}
section
variable{M:Ts}{A:Rh}{E:QR->QV->Prop}{s:QV}
theorem Ih{h0:Nat}{bd:Nat->Bool}(hh:h0<n)(hb:∀(i:Nat) (R:Option Bool->Q4->Prop),i<n->R (some (bd i)) st->wpS M A E s (bey lf ky ar b0 i) R st)
  (mono:∀i j,i<=j->j<n->bd j=true->bd i=true) (h:∀k,k<=n->(∀i,i<k->bd i=true)->(∀i,k<=i->i<n->bd i=false)->Q (some k) st):wpS M A E s (gal lf ky ar b0 n h0) Q st:=by
 rw[Hv];have last:∀(l hi:Nat),l<=hi->hi<=n->(∀i,i<l->bd i=true)->(∀i,hi<=i->i<n->bd i=false)->wpS M A E s (jA lf ky ar b0 n l hi) Q st:=fun l hi h1 h2 h3 h4=>by
  unfold jA;dsimp only;refine Q2 (RM (I:=fun x c st'=>st'=st/\∃l hi,c=(none,l,hi)/\l<=hi/\hi<=n/\hi-l<=n-x/\(∀i,i<l->bd i=true)/\(∀i,hi<=i->i<n->bd i=false)) ?_ ?_ ⟨rfl,l,hi,rfl,h1,h2,by lia,h3,h4⟩)
  ·rintro x c st' _ hx ⟨rfl,l,hi,rfl,g1,g2,g3,g4,g5⟩;dsimp only;by_cases z:l>=hi
   ·rw[if_pos z];have e:l=hi:=by lia
    subst e;exact Q7 (Q7 (h l g2 g4 g5))
   rw[if_neg z];have m1:l<=l+(hi-l)/2:=M1 ..;have m2:l+(hi-l)/2<hi:=by omega
   generalize l+(hi-l)/2=m at m1 m2 ⊢;have m3:=A' m2 g2;refine Q2 (hb _ _ m3 ?_);dsimp only;cases e:bd m with
   |true=>
    simp only[if_true];exact Q7 ⟨rfl,_,_,rfl,m2,g2,by lia,fun i hi'=>mono i _ (N7 hi') m3 e,g5⟩
   |false=>
    simp only[G',if_false];refine Q7 ⟨rfl,_,_,rfl,m1,LQ m3,by lia,g4,fun i h1 h2=>?_⟩;cases e2:bd i with
    |false=>rfl
    |true=>rw[mono _ i h1 h2 e2]at e;cases e
  rintro c st' ⟨rfl,l,hi,rfl,g1,g2,g3,g4,g5⟩;have e:l=hi:=by lia
  subst e;exact Q7 (h l g2 g4 g5)
 have up:∀la of,la<of->h0+la<n->bd (h0+la)=true->(n-h0<=of\/bd (h0+of)=false)->wpS M A E s (jA lf ky ar b0 n (h0+la+1) (h0+min of (n-h0))) Q st:=fun la of g1 g3 g4 g5=>by
  have k1:h0+min of (n-h0)<=n:=by lia
  refine last _ _ (by lia) k1 (fun i hi=>mono i _ (N7 hi) g3 g4) (fun i h1 h2=>?_);rcases g5 with g5|g5
  ·rw[OU g5]at h1;lia
  cases e2:bd i with
  |false=>rfl
  |true=>rw[mono (h0+of) i (by lia) h2 e2]at g5;cases g5
 have dwn:∀la of,la<of->la<=h0->bd (h0-la)=false->(h0+1<=of\/of<=h0/\bd (h0-of)=true)->wpS M A E s (jA lf ky ar b0 n (h0+1-min of (h0+1)) (h0-la)) Q st:=fun la of g1 g3 g4 g5=>by
  refine last _ _ (by omega) (m_ (Mv ..) (LQ hh)) (fun i hi=>?_) (fun i h1 h2=>?_)
  ·rcases g5 with g5|⟨g5,g6⟩
   ·rw[OU g5,Ni]at hi;exact absurd hi (Qk _)
   rw[O7 (N8 g5)]at hi;exact mono i _ (by lia) (MR (Mv ..) hh) g6
  cases e2:bd i with
  |false=>rfl
  |true=>rw[mono (h0-la) i h1 h2 e2]at g4;cases g4
 refine Q2 (hb _ _ hh ?_);dsimp only;cases e0:bd h0 with
 |true=>
  simp only[if_true];unfold Gi;dsimp only;refine Q2 (RM (I:=fun x c st'=>st'=st/\∃la of,c=(none,la,of)/\la<of/\x+1<=of/\h0+la<n/\bd (h0+la)=true) ?_ ?_ ⟨rfl,0,1,rfl,Nu,b_ _,hh,e0⟩)
  ·rintro x c st' _ hx ⟨rfl,la,of,rfl,g1,g2,g3,g4⟩;dsimp only;by_cases z:of>=n-h0
   ·rw[if_pos z];exact Q7 (up la of g1 g3 g4 (.inl z))
   rw[if_neg z];refine Q2 (hb _ _ (by lia) ?_);dsimp only;cases e:bd (h0+of)with
   |false=>
    simp only[Pj,if_true];exact Q7 (up la of g1 g3 g4 (.inr e))
   |true=>
    simp only[Py,G',if_false];exact Q7 ⟨rfl,_,_,rfl,by lia,by lia,by lia,e⟩
  ·rintro c st' ⟨rfl,la,of,rfl,g1,g2,g3,g4⟩;exact up la of g1 g3 g4 (.inl (by lia))
 |false=>
  simp only[G',if_false];unfold yS;dsimp only;refine Q2 (RM (I:=fun x c st'=>st'=st/\∃la of,c=(none,la,of)/\la<of/\x+1<=of/\la<=h0/\bd (h0-la)=false) ?_ ?_ ⟨rfl,0,1,rfl,Nu,b_ _,E_ _,e0⟩)
  ·rintro x c st' _ hx ⟨rfl,la,of,rfl,g1,g2,g3,g4⟩;dsimp only;by_cases z:of>=h0+1
   ·rw[if_pos z];exact Q7 (dwn la of g1 g3 g4 (.inl z))
   rw[if_neg z];have z:=Nat.lt_succ_iff.mp (OV z);refine Q2 (hb _ _ (MR (Mv ..) hh) ?_);dsimp only;cases e:bd (h0-of)with
   |true=>
    simp only[if_true];exact Q7 (dwn la of g1 g3 g4 (.inr ⟨z,e⟩))
   |false=>
    simp only[G',if_false];exact Q7 ⟨rfl,_,_,rfl,by lia,by lia,z,e⟩
  rintro c st' ⟨rfl,la,of,rfl,g1,g2,g3,g4⟩;exact dwn la of g1 g3 g4 (.inl (by lia))
end
noncomputable def setG(g:Nat):StateT Q4 Sem Unit:=modify fun s=>Su (kindOf s) (QZ s) (Rc s) g (RJ s)
noncomputable def dn(a b out:Array QY)(i j:Nat):Array QY:=out++a.extract i a.size++b.extract j b.size
noncomputable def jQ(a b out:Array QY)(i j:Nat):Array QY:=out++b.extract j b.size++a.extract i a.size
theorem Hl(a b:Array QY):mLo a b=(do
 rule "list.sort.merge-lo"
 let mut out:Array QY:=#[<-RN b 0]
 let mut i:=0
 let mut j:=1
 if j == b.size then return dn a b out i j
 if i+1 == a.size then return jQ a b out i j
 let mut mg:=Vf (<-get)
 for _ in [0:a.size+b.size]do
  let mut ca:=0
  let mut cb:=0
  for _ in [0:a.size+b.size]do
   let some bw <-lt' (<-RN b j) (<-RN a i) | return dn a b out i j
   if bw then
    out:=out.push (<-RN b j);j:=j+1;cb:=cb+1;ca:=0
    if j == b.size then return dn a b out i j
    if cb>=mg then break
   else
    out:=out.push (<-RN a i);i:=i+1;ca:=ca+1;cb:=0
    if i+1 == a.size then return jQ a b out i j
    if ca>=mg then break
  rule "list.sort.gallop"
  mg:=mg+1
  for _ in [0:a.size+b.size]do
   if mg > 1 then mg:=mg-1
   setG mg
   let some k <-gal false (<-RN b j) a i (a.size-i) 0 | return dn a b out i j
   ca:=k
   if k > 0 then
    out:=out++a.extract i (i+k);i:=i+k
    if i+1 == a.size then return jQ a b out i j
    if i == a.size then return dn a b out i j
   out:=out.push (<-RN b j);j:=j+1
   if j == b.size then return dn a b out i j
   let some k <-gal true (<-RN a i) b j (b.size-j) 0 | return dn a b out i j
   cb:=k
   if k > 0 then
    out:=out++b.extract j (j+k);j:=j+k
    if j == b.size then return dn a b out i j
   out:=out.push (<-RN a i);i:=i+1
   if i+1 == a.size then return jQ a b out i j
   if ca<7&&cb<7 then break
  mg:=mg+1
  setG mg
 unsupported "internal:list.sort.merge-bound"):=rfl
abbrev GS:=Option (Array QY)×Array QY×Nat×Nat×Nat×Nat×Nat
abbrev FS:=Option (Array QY)×Array QY×Nat×Nat×Nat×Nat
abbrev OS:=Option (Array QY)×Array QY×Nat×Nat×Nat
def g3(a b out:Array QY)(i j mg ca cb:Nat):StateT Q4 Sem (ForInStep GS):=do
 let y <-RN a i
 if(i+1+1 == a.size)=true then pure (Q6 (some (jQ a b (out.push y) (i+1) j),out.push y,i+1,j,mg,ca,cb))
 else if(decide (ca<7)&&decide (cb<7))=true then pure (Q6 (none,out.push y,i+1,j,mg,ca,cb))
 else pure (Rg (none,out.push y,i+1,j,mg,ca,cb))
def g2(a b out:Array QY)(i j mg ca cb:Nat):StateT Q4 Sem (ForInStep GS):=do
 let y <-RN b j
 if(j+1 == b.size)=true then pure (Q6 (some (dn a b (out.push y) i (j+1)),out.push y,i,j+1,mg,ca,cb))
 else do
  let z <-RN a i
  let some k <-gal true z b (j+1) (b.size-(j+1)) 0 | pure (Q6 (some (dn a b (out.push y) i (j+1)),out.push y,i,j+1,mg,ca,cb))
  if k > 0 then
    if(j+1+k == b.size)=true then pure (Q6 (some (dn a b (out.push y++b.extract (j+1) (j+1+k)) i (j+1+k)),out.push y++b.extract (j+1) (j+1+k),i,j+1+k,mg,ca,k))
    else g3 a b (out.push y++b.extract (j+1) (j+1+k)) i (j+1+k) mg ca k
  else g3 a b (out.push y) i (j+1) mg ca k
def g1(a b out:Array QY)(i j mg ca cb:Nat):StateT Q4 Sem (ForInStep GS):=do
 setG mg
 let y <-RN b j
 let some k <-gal false y a i (a.size-i) 0 | pure (Q6 (some (dn a b out i j),out,i,j,mg,ca,cb))
 if k > 0 then
   if(i+k+1 == a.size)=true then pure (Q6 (some (jQ a b (out++a.extract i (i+k)) (i+k) j),out++a.extract i (i+k),i+k,j,mg,k,cb))
   else if(i+k == a.size)=true then pure (Q6 (some (dn a b (out++a.extract i (i+k)) (i+k) j),out++a.extract i (i+k),i+k,j,mg,k,cb))
   else g2 a b (out++a.extract i (i+k)) (i+k) j mg k cb
 else g2 a b out i j mg k cb
def f1(a b out:Array QY)(i j ca cb mg:Nat):StateT Q4 Sem (ForInStep FS):=do
 let y <-RN b j
 let z <-RN a i
 let some bw <-lt' y z | pure (Q6 (some (dn a b out i j),out,i,j,ca,cb))
 if bw=true then do
   let y <-RN b j
   if(j+1 == b.size)=true then pure (Q6 (some (dn a b (out.push y) i (j+1)),out.push y,i,j+1,0,cb+1))
   else if cb+1>=mg then pure (Q6 (none,out.push y,i,j+1,0,cb+1))else pure (Rg (none,out.push y,i,j+1,0,cb+1))
 else do
   let z <-RN a i
   if(i+1+1 == a.size)=true then pure (Q6 (some (jQ a b (out.push z) (i+1) j),out.push z,i+1,j,ca+1,0))
   else if ca+1>=mg then pure (Q6 (none,out.push z,i+1,j,ca+1,0))else pure (Rg (none,out.push z,i+1,j,ca+1,0))
def oLo(a b:Array QY)(c:OS):StateT Q4 Sem (ForInStep OS):=do
 let r <-forIn [0:a.size+b.size] ((none,c.2.1,c.2.2.1,c.2.2.2.1,0,0):FS) fun _ d=>f1 a b d.2.1 d.2.2.1 d.2.2.2.1 d.2.2.2.2.1 d.2.2.2.2.2 c.2.2.2.2
 match r.1 with
 |some q=>pure (Q6 (some q,r.2.1,r.2.2.1,r.2.2.2.1,c.2.2.2.2))
 |none=>do
  liftM (rule "list.sort.gallop")
  let e <-forIn [0:a.size+b.size] ((none,r.2.1,r.2.2.1,r.2.2.2.1,c.2.2.2.2+1,r.2.2.2.2.1,r.2.2.2.2.2):GS) fun _ d=>
   if d.2.2.2.2.1 > 1 then g1 a b d.2.1 d.2.2.1 d.2.2.2.1 (d.2.2.2.2.1-1) d.2.2.2.2.2.1 d.2.2.2.2.2.2 else g1 a b d.2.1 d.2.2.1 d.2.2.2.1 d.2.2.2.2.1 d.2.2.2.2.2.1 d.2.2.2.2.2.2
  match e.1 with
  |some q=>pure (Q6 (some q,e.2.1,e.2.2.1,e.2.2.2.1,e.2.2.2.2.1))
  |none=>do
   setG (e.2.2.2.2.1+1)
   pure (Rg (none,e.2.1,e.2.2.1,e.2.2.2.1,e.2.2.2.2.1+1))
set_option maxHeartbeats 2000000 in
theorem En(a b:Array QY):mLo a b=(do
  liftM (rule "list.sort.merge-lo")
  let y <-RN b 0
  if(1 == b.size)=true then pure (dn a b #[y] 0 1)
  else if(0+1 == a.size)=true then pure (jQ a b #[y] 0 1)
  else do
   let st <-get
   let r <-forIn [0:a.size+b.size] ((none,#[y],0,1,Vf st):OS) fun _ c=>oLo a b c
   match r.1 with
   |some q=>pure q
   |none=>liftM (unsupported "internal:list.sort.merge-bound":Sem (Array QY))):=by
 rw[Hl];unfold oLo;refine congrArg (bind _) (funext fun _=>?_);refine congrArg (bind _) (funext fun y=>?_);refine ite_congr rfl (fun _=>rfl) (fun _=>?_);refine ite_congr rfl (fun _=>rfl) (fun _=>?_);refine congrArg (bind _) (funext fun st=>?_);refine congr (congrArg bind (congrArg (forIn _ _) (funext fun _=>funext fun c=>?_))) ?_
 ·refine congr (congrArg bind (congrArg (forIn _ _) (funext fun _=>funext fun d=>?_))) ?_
  ·unfold f1
   rfl
  funext r;obtain⟨r1,r2⟩:=r;cases r1 with
  |some q=>rfl
  |none=>
   refine congrArg (bind _) (funext fun _=>?_);refine congr (congrArg bind (congrArg (forIn _ _) (funext fun _=>funext fun d=>?_))) ?_
   ·
    unfold g1;refine ite_congr rfl (fun _=>?_) (fun _=>?_)
    all_goals
     refine congrArg (bind _) (funext fun _=>?_);refine congrArg (bind _) (funext fun y=>?_);refine congrArg (bind _) (funext fun r=>?_);cases r with
     |none=>rfl
     |some k=>
      refine ite_congr rfl (fun _=>?_) (fun _=>?_)
      ·refine ite_congr rfl (fun _=>rfl) (fun _=>?_);refine ite_congr rfl (fun _=>rfl) (fun _=>?_);unfold g2
       rfl
      unfold g2
      rfl
   funext e;obtain⟨e1,e2⟩:=e;cases e1 <;> rfl
 funext e;obtain⟨e1,e2⟩:=e;cases e1 <;> rfl
noncomputable def cP(M:Ts)(A:Rh)(E:QR->QV->Prop)(s:QV)(kd:R3)(rk:QY->Nat)(S:QY->Prop):Prop:=
 ∀(x y:QY) (st:Q4) (Q:Option Bool->Q4->Prop),S x->S y->kindOf st=kd->Q (some (decide (rk x<rk y))) st->wpS M A E s (lt' x y) Q st
structure Keep (st st':Q4):Prop where
 k:kindOf st'=kindOf st
 a:QZ st'=QZ st
 p:Rc st'=Rc st
 f:RJ st'=RJ st
theorem Keep.bY :Keep st st:=⟨rfl,rfl,rfl,rfl⟩
theorem Keep.g {st st':Q4}(h:Keep st st')(g:Nat):Keep st (Su (kindOf st') (QZ st') (Rc st') g (RJ st')):=⟨h.k,h.a,h.p,h.f⟩
variable {a b:List QY}{i j:Nat}{y:QY}
section
variable{rk:QY->Nat}
abbrev Srt(rk:QY->Nat)(l:List QY):Prop:=l.Pairwise fun x y=>rk x<=rk y
structure MS (rk:QY->Nat) (a b out:List QY) (i j:Nat):Prop where
 perm:out.Perm (a.take i++b.take j)
 srt:Srt rk out
 le:∀x∈out,(∀y∈a.drop i,rk x<=rk y)/\∀y∈b.drop j,rk x<=rk y
noncomputable def Res(rk:QY->Nat)(a b r:List QY):Prop:=r.Perm (a++b)/\Srt rk r
theorem MS.tF {out:List QY}{k:Nat}(h:MS rk a b out i j)(sa:Srt rk a)(hc:∀y∈(a.drop i).take k,∀z∈b.drop j,rk y<=rk z):MS rk a b (out++(a.drop i).take k) (i+k) j:=by
 have sd:Srt rk (a.drop i):=Mj (Nz _ _) sa;have split:a.drop i=(a.drop i).take k++a.drop (i+k):=by rw[<-N3];exact(G_ k (a.drop i)).symm
 refine⟨?_,?_,fun x hx=>?_⟩
 ·rw[OH];refine(h.perm.append_right _).trans ?_;rw[l_,l_];exact Mk _ MB
 ·refine D_.mpr ⟨h.srt,Mj (Ny _ _) sd,fun x hx y hy=>(h.le x hx).1 y (Mu hy)⟩
 rcases x_.mp hx with hx|hx
 ·refine⟨fun y hy=>(h.le x hx).1 y ?_,(h.le x hx).2⟩;rw[split];exact r_ _ hy
 refine⟨fun y hy=>?_,hc x hx⟩;rw[split]at sd;exact(D_.mp sd).2.2 x hx y hy
theorem MS.uF {out:List QY}{k:Nat}(h:MS rk a b out i j)(sb:Srt rk b)(hc:∀y∈(b.drop j).take k,∀z∈a.drop i,rk y<=rk z):MS rk a b (out++(b.drop j).take k) i (j+k):=by
 have sd:Srt rk (b.drop j):=Mj (Nz _ _) sb;have split:b.drop j=(b.drop j).take k++b.drop (j+k):=by rw[<-N3];exact(G_ k (b.drop j)).symm
 refine⟨?_,?_,fun x hx=>?_⟩
 ·rw[OH,<-l_];exact h.perm.append_right _
 ·refine D_.mpr ⟨h.srt,Mj (Ny _ _) sd,fun x hx y hy=>(h.le x hx).2 y (Mu hy)⟩
 rcases x_.mp hx with hx|hx
 ·refine⟨(h.le x hx).1,fun y hy=>(h.le x hx).2 y ?_⟩;rw[split];exact r_ _ hy
 refine⟨hc x hx,fun y hy=>?_⟩;rw[split]at sd;exact(D_.mp sd).2.2 x hx y hy
theorem MS.all {out:List QY}(h:MS rk a b out i j)(h1:a.length<=i)(h2:b.length<=j):Res rk a b out:=by have:=h.perm;rw[Mx h1,Mx h2]at this;exact⟨this,h.srt⟩
theorem mP{l:List QY}(i:Nat):(l.drop i).take l.length=l.drop i:=Mx (by rw[K_];lia)
theorem MS.done {out:List QY}(h:MS rk a b out i j)(sa:Srt rk a)(sb:Srt rk b)(e:a.length<=i\/b.length<=j):Res rk a b (out++a.drop i++b.drop j):=by
 have h1:=h.tF (k:=a.length) sa fun y hy z hz=>by
  rcases e with e|e
  ·rw[MM e]at hy;simp at hy
  rw[MM e]at hz;simp at hz
 have h2:=h1.uF (k:=b.length) sb fun y hy z hz=>by rw[MM (by lia)]at hz;simp at hz
 rw[mP,mP]at h2;exact h2.all (by lia) (by lia)
theorem MS.last {out:List QY}(h:MS rk a b out i j)(sa:Srt rk a)(sb:Srt rk b)(e:∀y∈b.drop j,∀z∈a.drop i,rk y<=rk z):Res rk a b (out++b.drop j++a.drop i):=by
 have h1:=h.uF (k:=b.length) sb fun y hy z hz=>e y (Mu hy) z hz;have h2:=h1.tF (k:=a.length) sa fun y hy z hz=>by rw[MM (by lia)]at hz;simp at hz
 rw[mP,mP]at h2;exact h2.all (by lia) (by lia)
theorem pq(a:Array QY)(i:Nat):(a.extract i a.size).toList=a.toList.drop i:=by rw[NJ,Nb];exact Mx (by rw[K_,g_];exact b_ _)
theorem ni(a:Array QY)(i k:Nat):(a.extract i (i+k)).toList=(a.toList.drop i).take k:=by rw[NJ,Nb,MY]
theorem drop_one{l:List QY}(h:l[i]?=some y):(l.drop i).take 1=[y]:=by obtain⟨hl,e⟩:=c_.mp h;rw[NS hl,List.take_succ_cons,List.take_zero,e]
theorem vI{l:List QY}(h:l[i]?=some y)(s:Srt rk l):∀z∈l.drop i,rk y<=rk z:=by
 obtain⟨hl,e⟩:=c_.mp h;intro z hz;have sd:Srt rk (l.drop i):=Mj (Nz _ _) s;rw[NS hl,e]at sd hz;rcases p_.mp hz with rfl|hz
 ·exact b_ _
 exact(Mt.mp sd).1 z hz
theorem qF{l:List QY}(s:Srt rk l){x:QY}(hij:i<=j)(hx:l[i]?=some x)(hy:l[j]?=some y):rk x<=rk y:=by refine vI hx s y ?_;rw[NC];exact⟨j-i,by rw[M6,show i+(j-i)=j by lia];exact hy⟩
theorem dD{l:List QY}{k:Nat}(h:y∈(l.drop i).take k):∃j,j<k/\l[i+j]?=some y:=by
 obtain⟨j,hj⟩:=NC.mp h;rw[Nr]at hj;split at hj
 ·next hlt=>exact⟨j,hlt,by rw[M6]at hj;exact hj⟩
 cases hj
theorem jy{l:List QY}(h:y∈l.drop i):∃j,l[i+j]?=some y:=by obtain⟨j,hj⟩:=NC.mp h;exact⟨j,by rw[M6]at hj;exact hj⟩
end
variable {p:QY}
section
variable{M:Ts}{A:Rh}{E:QR->QV->Prop}{s:QV}{kd:R3}{rk:QY->Nat}{S:QY->Prop}
theorem aX{Q:QY->Q4->Prop}(h:ar[i]?=some p)(q:Q p st):wpS M A E s (RN ar i) Q st:=by rw[elem'_eq,h];exact Q7 q
theorem IK{Q:Option Bool->Q4->Prop}(L:cP M A E s kd rk S)(hk:kindOf st=kd)(hp:ar[b0+i]?=some p)(Sp:S p)(Sk:S ky)
  (q:Q (some (if lf=true then decide (rk p<rk ky)else !decide (rk ky<rk p))) st):wpS M A E s (bey lf ky ar b0 i) Q st:=by
 unfold bey;refine Q2 (aX hp ?_);cases lf with
 |true=>exact L p ky st _ Sp Sk hk q
 |false=>exact Q2 (L ky p st _ Sk Sp hk (Q7 q))
theorem jH{h0:Nat}(L:cP M A E s kd rk S)(hk:kindOf st=kd)(hh:h0<n)(hsz:b0+n<=ar.size)(Sa:∀(i:Nat) p,ar[i]?=some p->S p)(Sk:S ky)
  (srt:∀(i j:Nat) p q,i<=j->j<n->ar[b0+i]?=some p->ar[b0+j]?=some q->rk p<=rk q)
  (h:∀k,k<=n->(∀(i:Nat) p,i<k->ar[b0+i]?=some p->if lf=true then rk p<rk ky else rk p<=rk ky)->(∀(i:Nat) p,k<=i->i<n->ar[b0+i]?=some p->if lf=true then rk ky<=rk p else rk ky<rk p)->Q (some k) st) :
  wpS M A E s (gal lf ky ar b0 n h0) Q st:=by
 have get:∀i,i<n->ar[b0+i]?=some (ar.getD (b0+i) (Rn,Rn)):=fun i hi=>by
  rw[M7,j_ (by lia)]
  rfl
 refine Ih (bd:=fun i=>if lf=true then decide (rk (ar.getD (b0+i) (Rn,Rn))<rk ky)else !decide (rk ky<rk (ar.getD (b0+i) (Rn,Rn)))) hh (fun i R hi r=>IK L hk (get i hi) (Sa _ _ (get i hi)) Sk r) ?_ ?_
 ·intro i j hij hj hb;have:=srt i j _ _ hij hj (get i (by lia)) (get j hj);cases lf with
  |true=>
   simp only[if_true,decide_eq_true_eq]at hb ⊢;lia
  |false=>
   simp only[G',if_false,Bool.not_eq_true',decide_eq_false_iff_not]at hb ⊢;lia
 intro k hk' h1 h2;refine h k hk' (fun i p hi hp=>?_) (fun i p h3 h4 hp=>?_)
 ·have e:=get i (by lia);rw[hp]at e;cases e;have:=h1 i hi;cases lf with
  |true=>simpa using this
  |false=>simpa using this
 have e:=get i h4;rw[hp]at e;cases e;have:=h2 i h3 h4;cases lf with
 |true=>simpa using this
 |false=>simpa using this
theorem oX{g:Nat}{Q:Unit->Q4->Prop}(q:Q () (Su (kindOf st) (QZ st) (Rc st) g (RJ st))):wpS M A E s (setG g) Q st:=UI q
end
variable {ca cb lo mg:Nat}{out:Array QY}{st':Q4}
section
variable{M:Ts}{A:Rh}{E:QR->QV->Prop}{s:QV}{kd:R3}{rk:QY->Nat}{S:QY->Prop}{a b:Array QY}
structure LoOk (rk:QY->Nat) (S:QY->Prop) (a b:Array QY):Prop where
 sa:Srt rk a.toList
 sb:Srt rk b.toList
 Sa:∀(i:Nat) p,a[i]?=some p->S p
 Sb:∀(i:Nat) p,b[i]?=some p->S p
 pa:0<a.size
 pb:0<b.size
 first:∀p,b[0]?=some p->∀z∈a.toList,rk p<=rk z
 last:∀p,a[a.size-1]?=some p->∀z∈b.toList,rk z<=rk p
theorem LoOk.oW (h:LoOk rk S a b)(m:MS rk a.toList b.toList out.toList i j)(e:i+1=a.size):Res rk a.toList b.toList (jQ a b out i j).toList:=by
 unfold jQ;rw[LW,LW,pq,pq];refine m.last h.sa h.sb fun y hy z hz=>?_;obtain⟨k,hk⟩:=jy hz;have hk':i+k<a.toList.length:=(c_.mp hk).1;rw[g_]at hk';have k0:k=0:=by lia
 subst k0;refine h.last z ?_ y (NI hy);rw[<-gV,show a.size-1=i+0 by lia];exact hk
theorem LoOk.mf (h:LoOk rk S a b)(m:MS rk a.toList b.toList out.toList i j)(e:a.size<=i\/b.size<=j):Res rk a.toList b.toList (dn a b out i j).toList:=by unfold dn;rw[LW,LW,pq,pq];exact m.done h.sa h.sb (by rw[g_,g_];exact e)
structure LI (rk:QY->Nat) (a b out:Array QY) (i j:Nat):Prop where
 m:MS rk a.toList b.toList out.toList i j
 i:i+1<a.size
 j:j<b.size
theorem MS.nY (m:MS rk a.toList b.toList out.toList i j)(H:LoOk rk S a b)(hy:b[j]?=some y)(hc:∀z∈a.toList.drop i,rk y<=rk z):MS rk a.toList b.toList (out.push y).toList i (j+1):=by
 have hy':b.toList[j]?=some y:=by rw[gV];exact hy
 have:=m.uF (k:=1) H.sb (by rw[drop_one hy'];intro w hw;rw[A_.mp hw];exact hc);rw[drop_one hy']at this;rw[MV];exact this
theorem MS.nO (m:MS rk a.toList b.toList out.toList i j)(H:LoOk rk S a b)(hy:a[i]?=some y)(hc:∀z∈b.toList.drop j,rk y<=rk z):MS rk a.toList b.toList (out.push y).toList (i+1) j:=by
 have hy':a.toList[i]?=some y:=by rw[gV];exact hy
 have:=m.tF (k:=1) H.sa (by rw[drop_one hy'];intro w hw;rw[A_.mp hw];exact hc);rw[drop_one hy']at this;rw[MV];exact this
theorem mH{l:Array QY}(srt:Srt rk l.toList)(hy:l[i]?=some y):∀z∈l.toList.drop i,rk y<=rk z:=vI (by rw[gV];exact hy) srt
def i9(rk:QY->Nat)(a b:Array QY)(lo:Nat)(st:Q4)(r:Option (Array QY))(out:Array QY)(i j:Nat)(st':Q4):Prop:=
 Keep st st'/\match r with
 |some q=>Res rk a.toList b.toList q.toList
 |none=>LI rk a b out i j/\lo<i+j
theorem JI{Q:ForInStep FS->Q4->Prop}(L:cP M A E s kd rk S)(H:LoOk rk S a b)(hk:kindOf st=kd)(K:Keep st st')(I:LI rk a b out i j)
  (h:∀(d:Bool) (c:FS),i9 rk a b (i+j) st c.1 c.2.1 c.2.2.1 c.2.2.2.1 st'->(d=false->c.1=none)->Q (if d=true then Q6 c else Rg c) st'):wpS M A E s (f1 a b out i j ca cb mg) Q st':=by
 have hi:i<a.size:=by have:=I.i;lia
 obtain⟨y,hy⟩:∃y,b[j]?=some y:=⟨_,j_ I.j⟩;obtain⟨z,hz⟩:∃z,a[i]?=some z:=⟨_,j_ hi⟩;unfold f1;refine Q2 (aX hy (Q2 (aX hz (Q2 (L y z st' _ (H.Sb _ _ hy) (H.Sa _ _ hz) (K.k.trans hk) ?_)))));dsimp only;by_cases w:rk y<rk z
 ·rw[decide_eq_true w,if_pos rfl];have m:=I.m.nY H hy fun u hu=>m_ (LQ w) (mH H.sa hz u hu);refine Q2 (aX hy ?_);by_cases e:j+1=b.size
  ·rw[if_pos (by rw[e];exact beq_self_eq_true _)];exact Q7 (h true _ ⟨K,H.mf m (.inr (by lia))⟩ (fun z=>nomatch z))
  rw[if_neg (by simpa using e)];have I2:LI rk a b (out.push y) i (j+1):=⟨m,I.i,by have:=I.j;lia⟩;split
  ·exact Q7 (h true _ ⟨K,I2,by dsimp only;lia⟩ (fun z=>nomatch z))
  exact Q7 (h false _ ⟨K,I2,by dsimp only;lia⟩ (fun _=>rfl))
 rw[decide_eq_false w,if_neg (by simp)];have m:=I.m.nO H hz fun u hu=>m_ (by lia) (mH H.sb hy u hu)
 refine Q2 (aX hz ?_);by_cases e:i+1+1=a.size
 ·rw[if_pos (by rw[e];exact beq_self_eq_true _)];exact Q7 (h true _ ⟨K,H.oW m e⟩ (fun z=>nomatch z))
 rw[if_neg (by simpa using e)];have I2:LI rk a b (out.push z) (i+1) j:=⟨m,by have:=I.i;lia,I.j⟩;split
 ·exact Q7 (h true _ ⟨K,I2,by dsimp only;lia⟩ (fun z=>nomatch z))
 exact Q7 (h false _ ⟨K,I2,by dsimp only;lia⟩ (fun _=>rfl))
theorem FZ{Q:ForInStep GS->Q4->Prop}(H:LoOk rk S a b)(K:Keep st st')(I:LI rk a b out i j)(hc:∀z,a[i]?=some z->∀u∈b.toList.drop j,rk z<=rk u)(hl:lo<=i+j)
  (h:∀(d:Bool) (c:GS),i9 rk a b lo st c.1 c.2.1 c.2.2.1 c.2.2.2.1 st'->(d=false->c.1=none)->Q (if d=true then Q6 c else Rg c) st'):wpS M A E s (g3 a b out i j mg ca cb) Q st':=by
 have hi:i<a.size:=by have:=I.i;lia
 obtain⟨z,hz⟩:∃z,a[i]?=some z:=⟨_,j_ hi⟩;unfold g3;have m:=I.m.nO H hz (hc z hz);refine Q2 (aX hz ?_);by_cases e:i+1+1=a.size
 ·rw[if_pos (by rw[e];exact beq_self_eq_true _)];exact Q7 (h true _ ⟨K,H.oW m e⟩ (fun z=>nomatch z))
 rw[if_neg (by simpa using e)];have I2:LI rk a b (out.push z) (i+1) j:=⟨m,by have:=I.i;lia,I.j⟩;split
 ·exact Q7 (h true _ ⟨K,I2,by dsimp only;lia⟩ (fun z=>nomatch z))
 exact Q7 (h false _ ⟨K,I2,by dsimp only;lia⟩ (fun _=>rfl))
theorem Gz{Q:ForInStep GS->Q4->Prop}(L:cP M A E s kd rk S)(H:LoOk rk S a b)(hk:kindOf st=kd)(K:Keep st st')(I:LI rk a b out i j)(hc:∀y,b[j]?=some y->∀u∈a.toList.drop i,rk y<=rk u)(hl:lo<=i+j)
  (h:∀(d:Bool) (c:GS),i9 rk a b lo st c.1 c.2.1 c.2.2.1 c.2.2.2.1 st'->(d=false->c.1=none)->Q (if d=true then Q6 c else Rg c) st'):wpS M A E s (g2 a b out i j mg ca cb) Q st':=by
 have hi:i<a.size:=by have:=I.i;lia
 obtain⟨y,hy⟩:∃y,b[j]?=some y:=⟨_,j_ I.j⟩;obtain⟨z,hz⟩:∃z,a[i]?=some z:=⟨_,j_ hi⟩;unfold g2;have m:=I.m.nY H hy (hc y hy);refine Q2 (aX hy ?_);by_cases e:j+1=b.size
 ·rw[if_pos (by rw[e];exact beq_self_eq_true _)];exact Q7 (h true _ ⟨K,H.mf m (.inr (by lia))⟩ (fun z=>nomatch z))
 rw[if_neg (by simpa using e)];have hj:j+1<b.size:=by have:=I.j;lia
 refine Q2 (aX hz (Q2 (jH L (K.k.trans hk) (by lia) (by lia) H.Sb (H.Sa _ _ hz) (fun p q x w h1 h2 h3 h4=>qF H.sb (i:=j+1+p) (j:=j+1+q) (by(clear h4 h3 h2 hj e m hz hy hi h hl hc I K hk H L;lia)) (by rw[gV];exact h3) (by rw[gV];exact h4)) fun k k1 k2 k3=>?_)));dsimp only;have after:∀u∈b.toList.drop (j+1+k),rk z<=rk u:=fun u hu=>by obtain⟨p,hp⟩:=jy hu;rw[gV]at hp;have hlt:j+1+k+p<b.size:=(M_.mp hp).1;have:=k3 (k+p) u (by lia) (by(clear hp hu k3 k2 k1 hj e m hz hy hi h hl hc I K hk H L;lia)) (by rw[show j+1+(k+p)=j+1+k+p by(clear hlt hp hu k3 k2 k1 hj e m hz hy hi h hl hc I K hk H L;lia)];exact hp);simpa using this
 by_cases pk:k > 0
 ·rw[if_pos pk];have m2:MS rk a.toList b.toList (out.push y++b.extract (j+1) (j+1+k)).toList i (j+1+k):=by rw[LW,ni];refine m.uF H.sb fun u hu w hw=>?_;obtain⟨p,hp1,hp⟩:=dD hu;rw[gV]at hp;have:=k2 p u hp1 hp;simp only[if_true]at this;exact m_ (LQ this) (mH H.sa hz w hw)
  by_cases e2:j+1+k=b.size
  ·rw[if_pos (by rw[e2];exact beq_self_eq_true _)];exact Q7 (h true _ ⟨K,H.mf m2 (.inr (by(clear m2 pk after k3 k2 k1 hj e m hz hy hi h hl hc I K hk H L;lia)))⟩ (fun z=>nomatch z))
  rw[if_neg (by simpa using e2)];refine FZ H K ⟨m2,I.i,by(clear m2 after k3 k2 hj e m hz hy hi h hl hc I K hk H L;lia)⟩ (fun z' hz'=>?_) (by(clear e2 m2 pk after k3 k2 k1 hj e m hz hy hi h hc I K hk H L;lia)) h;rw[hz]at hz';cases hz';exact after
 rw[if_neg pk];have k0:k=0:=by lia
 subst k0;refine FZ H K ⟨m,I.i,by(clear pk after k3 k2 k1 e m hz hy hi h hl hc I K hk H L;omega)⟩ (fun z' hz'=>?_) (by lia) h;rw[hz]at hz';cases hz';exact after
theorem Jo{Q:ForInStep GS->Q4->Prop}(L:cP M A E s kd rk S)(H:LoOk rk S a b)(hk:kindOf st=kd)(K:Keep st st')(I:LI rk a b out i j)
  (h:∀(d:Bool) (c:GS) (st2:Q4),i9 rk a b (i+j) st c.1 c.2.1 c.2.2.1 c.2.2.2.1 st2->(d=false->c.1=none)->Q (if d=true then Q6 c else Rg c) st2):wpS M A E s (g1 a b out i j mg ca cb) Q st':=by
 have hi:i<a.size:=by have:=I.i;lia
 obtain⟨y,hy⟩:∃y,b[j]?=some y:=⟨_,j_ I.j⟩;unfold g1;refine Q2 (oX (Q2 (aX hy ?_)));have K2:=K.g mg;revert K2;generalize Su (kindOf st') (QZ st') (Rc st') mg (RJ st')=st2;intro K2;refine Q2 (jH L (K2.k.trans hk) (by lia) (by lia) H.Sa (H.Sb _ _ hy) (fun p q x w h1 h2 h3 h4=>qF H.sa (i:=i+p) (j:=i+q) (by lia) (by rw[gV];exact h3) (by rw[gV];exact h4)) fun k k1 k2 k3=>?_);dsimp only;have after:∀u∈a.toList.drop (i+k),rk y<=rk u:=fun u hu=>by obtain⟨p,hp⟩:=jy hu;rw[gV]at hp;have hlt:i+k+p<a.size:=(M_.mp hp).1;have:=k3 (k+p) u (by lia) (by lia) (by rw[show i+(k+p)=i+k+p by lia];exact hp);simp at this;lia
 by_cases pk:k > 0
 ·rw[if_pos pk];have m2:MS rk a.toList b.toList (out++a.extract i (i+k)).toList (i+k) j:=by rw[LW,ni];refine I.m.tF H.sa fun u hu w hw=>?_;obtain⟨p,hp1,hp⟩:=dD hu;rw[gV]at hp;have:=k2 p u hp1 hp;simp at this;exact m_ this (mH H.sb hy w hw)
  by_cases e1:i+k+1=a.size
  ·rw[if_pos (by rw[e1];exact beq_self_eq_true _)];exact Q7 (h true _ _ ⟨K2,H.oW m2 e1⟩ (fun z=>nomatch z))
  rw[if_neg (by simpa using e1)];by_cases e2:i+k=a.size
  ·rw[if_pos (by rw[e2];exact beq_self_eq_true _)];exact Q7 (h true _ _ ⟨K2,H.mf m2 (.inl (by lia))⟩ (fun z=>nomatch z))
  rw[if_neg (by simpa using e2)];refine Gz L H hk K2 ⟨m2,by(clear m2 after k3 k2 K2 hy hi h I K hk H L;lia),I.j⟩ (fun y' hy'=>?_) (by lia) fun d c x1 x2=>h d c _ x1 x2
  rw[hy]at hy';cases hy';exact after
 rw[if_neg pk];have k0:k=0:=by lia
 subst k0;refine Gz L H hk K2 I (fun y' hy'=>?_) (b_ _) fun d c x1 x2=>h d c _ x1 x2;rw[hy]at hy';cases hy';exact after
theorem J2{Q:Array QY->Q4->Prop}(L:cP M A E s kd rk S)(H:LoOk rk S a b)(hk:kindOf st=kd)(h:∀r st',Keep st st'->Res rk a.toList b.toList r.toList->Q r st')(hr:∀x,QX M A (rule x) (fun _ s'=>s'=s) E s):wpS M A E s (mLo a b) Q st:=by
 rw[En];obtain⟨y,hy⟩:∃y,b[0]?=some y:=⟨_,j_ H.pb⟩;have rl:∀{x:String}{R:Unit->Q4->Prop}{st':Q4},R () st'->wpS M A E s (liftM (rule x):StateT Q4 Sem Unit) R st':=fun{x R st'} q=>Vg (RA (hr x) (fun _ _ z=>⟨z,q⟩) fun _ _ z=>z);refine Q2 (rl (Q2 (aX hy ?_)));have m0:MS rk a.toList b.toList (#[]:Array QY).toList 0 0:=⟨by simp,N5,fun x hx=>by simp at hx⟩;have m1:MS rk a.toList b.toList (#[y]:Array QY).toList 0 1:=m0.nY H hy fun z hz=>H.first y hy z (by simpa using hz)
 by_cases e1:1=b.size
 ·rw[if_pos (by rw[<-e1];rfl)];exact Q7 (h _ _ .bY (H.mf m1 (.inr (by lia))))
 rw[if_neg (by simpa using e1)];by_cases e2:0+1=a.size
 ·rw[if_pos (by rw[<-e2];rfl)];exact Q7 (h _ _ .bY (H.oW m1 e2))
 rw[if_neg (by simpa using e2)];refine Q2 (TM ?_);have pa:=H.pa;have pb:=H.pb;refine Q2 (R_ (RM (I:=fun x (c:OS) st'=>c.1=none/\Keep st st'/\LI rk a b c.2.1 c.2.2.1 c.2.2.2.1/\x<c.2.2.1+c.2.2.2.1) (Q:=fun(c:OS) st'=>∃q,c.1=some q/\Keep st st'/\Res rk a.toList b.toList q.toList) ?_ ?_ ⟨rfl,.bY,⟨m1,by dsimp only;lia,by dsimp only;lia⟩,by show 0<0+1;lia⟩) ?_)
 ·rintro x ⟨c1,out,i,j,mg⟩ st1 _ hx ⟨rfl,K1,I1,px⟩;unfold oLo;dsimp only at I1 px ⊢;refine Q2 (R_ (RM (I:=fun x (c:FS) st'=>c.1=none/\Keep st st'/\LI rk a b c.2.1 c.2.2.1 c.2.2.2.1/\i+j+x<=c.2.2.1+c.2.2.2.1) (Q:=fun(c:FS) st'=>i9 rk a b (i+j) st c.1 c.2.1 c.2.2.1 c.2.2.2.1 st') ?_ ?_ ⟨rfl,K1,I1,b_ _⟩) ?_)
  ·rintro x2 ⟨d1,out2,i2,j2,ca,cb⟩ st2 _ hx2 ⟨rfl,K2,I2,p2⟩;dsimp only at I2 p2 ⊢;refine JI L H hk K2 I2 fun d c hs hn=>?_;cases d with
   |true=>
    show i9 _ _ _ _ _ _ _ _ _ _;refine⟨hs.1,?_⟩;have h2:=hs.2;cases e:c.1 with
    |some q=>rw[e]at h2;exact h2
    |none=>rw[e]at h2;exact⟨h2.1,by have:=h2.2;(clear e h2 hn hs I2 K2 hx2 px I1 K1 hx pb pa e2 e1 m1 m0 rl hy hr h hk H L;lia)⟩
   |false=>
    have h2:=hs.2;rw[hn rfl]at h2;exact⟨hn rfl,hs.1,h2.1,by have:=h2.2;(clear h2 hn hs I2 K2 hx2 px I1 K1 hx pb pa e2 e1 m1 m0 rl hy hr h hk H L;lia)⟩
  ·rintro⟨c1,out2,i2,j2,ca,cb⟩ st2 ⟨rfl,K2,I2,p2⟩;dsimp only at I2 p2 ⊢;have:=I2.i;have:=I2.j
   (clear I2 K2 px I1 K1 hx pb pa e2 e1 m1 m0 rl hy hr h hk H L;lia)
  rintro⟨c1,out2,i2,j2,ca,cb⟩ st2 ⟨K2,h2⟩;cases c1 with
  |some q=>exact Q7 ⟨q,rfl,K2,h2⟩
  |none=>
   obtain⟨I2,p2⟩:=h2;dsimp only at I2 p2 ⊢;refine Q2 (rl ?_);refine Q2 (R_ (RM (I:=fun _ (c:GS) st'=>c.1=none/\Keep st st'/\LI rk a b c.2.1 c.2.2.1 c.2.2.2.1/\i+j<c.2.2.1+c.2.2.2.1) (Q:=fun(c:GS) st'=>i9 rk a b (i+j) st c.1 c.2.1 c.2.2.1 c.2.2.2.1 st') ?_ ?_ ⟨rfl,K2,I2,p2⟩) ?_)
   ·rintro x3 ⟨d1,out3,i3,j3,mg3,ca3,cb3⟩ st3 _ hx3 ⟨rfl,K3,I3,p3⟩;dsimp only at I3 p3 ⊢;have go:∀mg',wpS M A E s (g1 a b out3 i3 j3 mg' ca3 cb3) (fun r st'=>match r with | .done c'=>i9 rk a b (i+j) st c'.1 c'.2.1 c'.2.2.1 c'.2.2.2.1 st' | .yield c'=>c'.1=none/\Keep st st'/\LI rk a b c'.2.1 c'.2.2.1 c'.2.2.2.1/\i+j<c'.2.2.1+c'.2.2.2.1) st3:=fun mg'=>by
     refine Jo L H hk K3 I3 fun d c st4 hs hn=>?_;cases d with
     |true=>
      show i9 _ _ _ _ _ _ _ _ _ _;refine⟨hs.1,?_⟩;have h2:=hs.2;cases e:c.1 with
      |some q=>rw[e]at h2;exact h2
      |none=>rw[e]at h2;exact⟨h2.1,by have:=h2.2;(clear e h2 hn hs I3 K3 hx3 p2 I2 K2 px I1 K1 hx pb pa e2 e1 m1 m0 rl hy hr h hk H L;lia)⟩
     |false=>
      have h2:=hs.2;rw[hn rfl]at h2;exact⟨hn rfl,hs.1,h2.1,by have:=h2.2;(clear h2 hn hs I3 K3 hx3 p2 I2 K2 px I1 K1 hx pb pa e2 e1 m1 m0 rl hy hr h hk H L;lia)⟩
    split
    ·exact R_ (go _) fun r st' h=>by cases r <;> exact h
    exact R_ (go _) fun r st' h=>by cases r <;> exact h
   ·rintro⟨c1,out3,i3,j3,mg3,ca3,cb3⟩ st3 ⟨rfl,K3,I3,p3⟩;exact⟨K3,I3,p3⟩
   rintro⟨c1,out3,i3,j3,mg3,ca3,cb3⟩ st3 ⟨K3,h3⟩;cases c1 with
   |some q=>exact Q7 ⟨q,rfl,K3,h3⟩
   |none=>
    obtain⟨I3,p3⟩:=h3;refine Q2 (oX (Q7 ⟨rfl,K3.g _,I3,?_⟩));dsimp only at p3 ⊢;lia
 ·rintro⟨c1,out,i,j,mg⟩ st1 ⟨rfl,K1,I1,px⟩;have h1:=I1.i;have h2:=I1.j;dsimp only at h1 h2 px
  (clear I1 K1 pb pa e2 e1 m1 m0 rl hy hr h hk H L;lia)
 rintro⟨c1,out,i,j,mg⟩ st1 ⟨q,e,K1,r⟩;dsimp only at e;subst e;exact Q7 (h q st1 K1 r)
end
noncomputable def dnH(a b out:Array QY)(i j:Nat):Array QY:=a.extract 0 i++b.extract 0 j++out.reverse
noncomputable def fk(a b out:Array QY)(i j:Nat):Array QY:=b.extract 0 j++a.extract 0 i++out.reverse
theorem HA(a b:Array QY):mHi a b=(do
 rule "list.sort.merge-hi"
 let mut i:=a.size-1
 let mut j:=b.size
 let mut out:Array QY:=#[<-RN a i]
 if i == 0 then return dnH a b out i j
 if j == 1 then return fk a b out i j
 let mut mg:=Vf (<-get)
 for _ in [0:a.size+b.size]do
  let mut ca:=0
  let mut cb:=0
  for _ in [0:a.size+b.size]do
   let some aw <-lt' (<-RN b (j-1)) (<-RN a (i-1)) | return dnH a b out i j
   if aw then
    i:=i-1;out:=out.push (<-RN a i);ca:=ca+1;cb:=0
    if i == 0 then return dnH a b out i j
    if ca>=mg then break
   else
    j:=j-1;out:=out.push (<-RN b j);cb:=cb+1;ca:=0
    if j == 1 then return fk a b out i j
    if cb>=mg then break
  rule "list.sort.gallop"
  mg:=mg+1
  for _ in [0:a.size+b.size]do
   if mg > 1 then mg:=mg-1
   setG mg
   let some at' <-gal false (<-RN b (j-1)) a 0 i (i-1) | return dnH a b out i j
   let k:=i-at'
   ca:=k
   if k > 0 then
    out:=out++(a.extract at' i).reverse;i:=at'
    if i == 0 then return dnH a b out i j
   j:=j-1;out:=out.push (<-RN b j)
   if j == 1 then return fk a b out i j
   let some at' <-gal true (<-RN a (i-1)) b 0 j (j-1) | return dnH a b out i j
   let k:=j-at'
   cb:=k
   if k > 0 then
    out:=out++(b.extract at' j).reverse;j:=at'
    if j == 1 then return fk a b out i j
    if j == 0 then return dnH a b out i j
   i:=i-1;out:=out.push (<-RN a i)
   if i == 0 then return dnH a b out i j
   if ca<7&&cb<7 then break
  mg:=mg+1
  setG mg
 unsupported "internal:list.sort.merge-bound"):=rfl
abbrev GT:=Option (Array QY)×Nat×Nat×Array QY×Nat×Nat×Nat
abbrev FT:=Option (Array QY)×Nat×Nat×Array QY×Nat×Nat
abbrev OT:=Option (Array QY)×Nat×Nat×Array QY×Nat
def k3(a b out:Array QY)(i j mg ca cb:Nat):StateT Q4 Sem (ForInStep GT):=do
 let y <-RN a (i-1)
 if(i-1 == 0)=true then pure (Q6 (some (dnH a b (out.push y) (i-1) j),i-1,j,out.push y,mg,ca,cb))
 else if(decide (ca<7)&&decide (cb<7))=true then pure (Q6 (none,i-1,j,out.push y,mg,ca,cb))
 else pure (Rg (none,i-1,j,out.push y,mg,ca,cb))
def k2(a b out:Array QY)(i j mg ca cb:Nat):StateT Q4 Sem (ForInStep GT):=do
 let y <-RN b (j-1)
 if(j-1 == 1)=true then pure (Q6 (some (fk a b (out.push y) i (j-1)),i,j-1,out.push y,mg,ca,cb))
 else do
  let z <-RN a (i-1)
  let some at' <-gal true z b 0 (j-1) (j-1-1) | pure (Q6 (some (dnH a b (out.push y) i (j-1)),i,j-1,out.push y,mg,ca,cb))
  if j-1-at' > 0 then
    if(at' == 1)=true then pure (Q6 (some (fk a b (out.push y++(b.extract at' (j-1)).reverse) i at'),i,at',out.push y++(b.extract at' (j-1)).reverse,mg,ca,j-1-at'))
    else if(at' == 0)=true then pure (Q6 (some (dnH a b (out.push y++(b.extract at' (j-1)).reverse) i at'),i,at',out.push y++(b.extract at' (j-1)).reverse,mg,ca,j-1-at'))
    else k3 a b (out.push y++(b.extract at' (j-1)).reverse) i at' mg ca (j-1-at')
  else k3 a b (out.push y) i (j-1) mg ca (j-1-at')
def k1(a b out:Array QY)(i j mg ca cb:Nat):StateT Q4 Sem (ForInStep GT):=do
 setG mg
 let y <-RN b (j-1)
 let some at' <-gal false y a 0 i (i-1) | pure (Q6 (some (dnH a b out i j),i,j,out,mg,ca,cb))
 if i-at' > 0 then
   if(at' == 0)=true then pure (Q6 (some (dnH a b (out++(a.extract at' i).reverse) at' j),at',j,out++(a.extract at' i).reverse,mg,i-at',cb))
   else k2 a b (out++(a.extract at' i).reverse) at' j mg (i-at') cb
 else k2 a b out i j mg (i-at') cb
def e1(a b out:Array QY)(i j ca cb mg:Nat):StateT Q4 Sem (ForInStep FT):=do
 let y <-RN b (j-1)
 let z <-RN a (i-1)
 let some aw <-lt' y z | pure (Q6 (some (dnH a b out i j),i,j,out,ca,cb))
 if aw=true then do
   let z <-RN a (i-1)
   if(i-1 == 0)=true then pure (Q6 (some (dnH a b (out.push z) (i-1) j),i-1,j,out.push z,ca+1,0))
   else if ca+1>=mg then pure (Q6 (none,i-1,j,out.push z,ca+1,0))else pure (Rg (none,i-1,j,out.push z,ca+1,0))
 else do
   let y <-RN b (j-1)
   if(j-1 == 1)=true then pure (Q6 (some (fk a b (out.push y) i (j-1)),i,j-1,out.push y,0,cb+1))
   else if cb+1>=mg then pure (Q6 (none,i,j-1,out.push y,0,cb+1))else pure (Rg (none,i,j-1,out.push y,0,cb+1))
def oHi(a b:Array QY)(c:OT):StateT Q4 Sem (ForInStep OT):=do
 let r <-forIn [0:a.size+b.size] ((none,c.2.1,c.2.2.1,c.2.2.2.1,0,0):FT) fun _ d=>e1 a b d.2.2.2.1 d.2.1 d.2.2.1 d.2.2.2.2.1 d.2.2.2.2.2 c.2.2.2.2
 match r.1 with
 |some q=>pure (Q6 (some q,r.2.1,r.2.2.1,r.2.2.2.1,c.2.2.2.2))
 |none=>do
  liftM (rule "list.sort.gallop")
  let e <-forIn [0:a.size+b.size] ((none,r.2.1,r.2.2.1,r.2.2.2.1,c.2.2.2.2+1,r.2.2.2.2.1,r.2.2.2.2.2):GT) fun _ d=>
   if d.2.2.2.2.1 > 1 then k1 a b d.2.2.2.1 d.2.1 d.2.2.1 (d.2.2.2.2.1-1) d.2.2.2.2.2.1 d.2.2.2.2.2.2 else k1 a b d.2.2.2.1 d.2.1 d.2.2.1 d.2.2.2.2.1 d.2.2.2.2.2.1 d.2.2.2.2.2.2
  match e.1 with
  |some q=>pure (Q6 (some q,e.2.1,e.2.2.1,e.2.2.2.1,e.2.2.2.2.1))
  |none=>do
   setG (e.2.2.2.2.1+1)
   pure (Rg (none,e.2.1,e.2.2.1,e.2.2.2.1,e.2.2.2.2.1+1))
set_option maxHeartbeats 2000000 in
theorem EE(a b:Array QY):mHi a b=(do
  liftM (rule "list.sort.merge-hi")
  let y <-RN a (a.size-1)
  if(a.size-1 == 0)=true then pure (dnH a b #[y] (a.size-1) b.size)
  else if(b.size == 1)=true then pure (fk a b #[y] (a.size-1) b.size)
  else do
   let st <-get
   let r <-forIn [0:a.size+b.size] ((none,a.size-1,b.size,#[y],Vf st):OT) fun _ c=>oHi a b c
   match r.1 with
   |some q=>pure q
   |none=>liftM (unsupported "internal:list.sort.merge-bound":Sem (Array QY))):=by
 rw[HA];unfold oHi;refine congrArg (bind _) (funext fun _=>?_);refine congrArg (bind _) (funext fun y=>?_);refine ite_congr rfl (fun _=>rfl) (fun _=>?_);refine ite_congr rfl (fun _=>rfl) (fun _=>?_);refine congrArg (bind _) (funext fun st=>?_);refine congr (congrArg bind (congrArg (forIn _ _) (funext fun _=>funext fun c=>?_))) ?_
 ·refine congr (congrArg bind (congrArg (forIn _ _) (funext fun _=>funext fun d=>?_))) ?_
  ·unfold e1
   rfl
  funext r;obtain⟨r1,r2⟩:=r;cases r1 with
  |some q=>rfl
  |none=>
   refine congrArg (bind _) (funext fun _=>?_);refine congr (congrArg bind (congrArg (forIn _ _) (funext fun _=>funext fun d=>?_))) ?_
   ·unfold k1;refine ite_congr rfl (fun _=>?_) (fun _=>?_)
    all_goals
     refine congrArg (bind _) (funext fun _=>?_);refine congrArg (bind _) (funext fun y=>?_);refine congrArg (bind _) (funext fun r=>?_);cases r with
     |none=>rfl
     |some k=>
      refine ite_congr rfl (fun _=>?_) (fun _=>?_)
      ·refine ite_congr rfl (fun _=>rfl) (fun _=>?_);unfold k2
       rfl
      unfold k2
      rfl
   funext e;obtain⟨e1,e2⟩:=e;cases e1 <;> rfl
 funext e;obtain⟨e1,e2⟩:=e;cases e1 <;> rfl
variable {o:List QY}{t:Nat}
section
variable{rk:QY->Nat}
structure MH (rk:QY->Nat) (a b o:List QY) (i j:Nat):Prop where
 perm:o.Perm (a.drop i++b.drop j)
 srt:Srt rk o
 le:∀x∈o,(∀y∈a.take i,rk y<=rk x)/\∀y∈b.take j,rk y<=rk x
theorem vg{l:List QY}(h:t<=i):l.drop t=(l.take i).drop t++l.drop i:=by
 by_cases hi:i<=l.length
 ·have e:=G_ i l;have h2:(l.take i++l.drop i).drop t=(l.take i).drop t++l.drop i:=Ox (by rw[C'];lia);rw[e]at h2;exact h2
 rw[Mx (by lia),MM (by lia:l.length<=i),I_]
theorem mO{l:List QY}(h:t<=i):l.take i=l.take t++(l.take i).drop t:=by have:=G_ t (l.take i);rw[List.take_take,O7 h]at this;exact this.symm
theorem MH.tF (h:MH rk a b o i j)(sa:Srt rk a)(ht:t<=i)(hc:∀y∈(a.take i).drop t,∀z∈b.take j,rk z<=rk y):MH rk a b ((a.take i).drop t++o) t j:=by
 have st:Srt rk (a.take i):=Mj (Ny _ _) sa;refine⟨?_,?_,fun x hx=>?_⟩
 ·rw[vg (l:=a) ht,l_];exact Mk _ h.perm
 ·exact D_.mpr ⟨Mj (Nz _ _) st,h.srt,fun x hx y hy=>(h.le y hy).1 x (NI hx)⟩
 rcases x_.mp hx with hx|hx
 ·refine⟨fun y hy=>?_,hc x hx⟩;rw[mO ht]at st;exact(D_.mp st).2.2 y hy x hx
 refine⟨fun y hy=>(h.le x hx).1 y ?_,(h.le x hx).2⟩;rw[mO ht];exact y_ _ hy
theorem MH.uF (h:MH rk a b o i j)(sb:Srt rk b)(ht:t<=j)(hc:∀y∈(b.take j).drop t,∀z∈a.take i,rk z<=rk y):MH rk a b ((b.take j).drop t++o) i t:=by
 have st:Srt rk (b.take j):=Mj (Ny _ _) sb;refine⟨?_,?_,fun x hx=>?_⟩
 ·rw[vg (l:=b) ht];refine(Mk _ h.perm).trans ?_;rw[<-l_,<-l_];exact Pc _ MB
 ·exact D_.mpr ⟨Mj (Nz _ _) st,h.srt,fun x hx y hy=>(h.le y hy).2 x (NI hx)⟩
 rcases x_.mp hx with hx|hx
 ·refine⟨hc x hx,fun y hy=>?_⟩;rw[mO ht]at st;exact(D_.mp st).2.2 y hy x hx
 refine⟨(h.le x hx).1,fun y hy=>(h.le x hx).2 y ?_⟩;rw[mO ht];exact y_ _ hy
theorem MH.done (h:MH rk a b o i j)(sa:Srt rk a)(sb:Srt rk b)(e:i=0\/j=0):Res rk a b (a.take i++b.take j++o):=by
 have h1:=h.uF (t:=0) sb (E_ _) fun y hy z hz=>by
  rcases e with e|e
  ·rw[e]at hz;simp at hz
  rw[e]at hy;simp at hy
 have h2:=h1.tF (t:=0) sa (E_ _) fun y hy z hz=>by simp at hz
 have p:=h2.perm;have q:=h2.srt;simp only[ND]at p q;rw[l_];exact⟨p,q⟩
theorem MH.first (h:MH rk a b o i j)(sa:Srt rk a)(sb:Srt rk b)(e:∀y∈a.take i,∀z∈b.take j,rk z<=rk y):Res rk a b (b.take j++a.take i++o):=by
 have h1:=h.tF (t:=0) sa (E_ _) fun y hy z hz=>e y (by rw[ND]at hy;exact hy) z hz
 have h2:=h1.uF (t:=0) sb (E_ _) fun y hy z hz=>by simp at hz
 have p:=h2.perm;have q:=h2.srt;simp only[ND]at p q;rw[l_];exact⟨p,q⟩
theorem p9(a:Array QY)(i:Nat):(a.extract 0 i).toList=a.toList.take i:=by rw[NJ,Nb,ND,Nat.sub_zero]
theorem yt(a:Array QY)(t i:Nat):(a.extract t i).toList=(a.toList.take i).drop t:=by rw[NJ,Nb,List.drop_take]
theorem take_one{l:List QY}(h0:0<i)(h:l[i-1]?=some y):(l.take i).drop (i-1)=[y]:=by
 obtain⟨hl,e⟩:=c_.mp h;have:l.take i=l.take (i-1)++[y]:=by
  conv=>lhs;rw[show i=i-1+1 by lia,LU,h]
  rfl
 rw[this,Ox (by rw[C'];omega),MM (by rw[C'];omega)]
 rfl
theorem jF{l:List QY}(h:y∈l.take i):∃j,j<i/\l[j]?=some y:=by
 obtain⟨j,hj⟩:=NC.mp h;rw[Nr]at hj;split at hj
 ·next hlt=>exact⟨j,hlt,hj⟩
 cases hj
theorem wb{l:List QY}(h:y∈(l.take i).drop t):∃j,t<=j/\j<i/\l[j]?=some y:=by
 obtain⟨j,hj⟩:=jy h;rw[Nr]at hj;split at hj
 ·next hlt=>exact⟨t+j,by lia,hlt,hj⟩
 cases hj
end
section
variable{M:Ts}{A:Rh}{E:QR->QV->Prop}{s:QV}{kd:R3}{rk:QY->Nat}{S:QY->Prop}{a b:Array QY}
abbrev MHo(rk:QY->Nat)(a b out:Array QY)(i j:Nat):Prop:=MH rk a.toList b.toList out.toList.reverse i j
theorem LoOk.wj (h:LoOk rk S a b)(m:MHo rk a b out i j)(e:i=0\/j=0):Res rk a.toList b.toList (dnH a b out i j).toList:=by unfold dnH;rw[LW,LW,p9,p9,MI];exact m.done h.sa h.sb e
theorem LoOk.ux (h:LoOk rk S a b)(m:MHo rk a b out i j)(e:j=1):Res rk a.toList b.toList (fk a b out i j).toList:=by
 unfold fk;rw[LW,LW,p9,p9,MI];refine m.first h.sa h.sb fun y hy z hz=>?_;subst e;obtain⟨k,hk,hz'⟩:=jF hz;have k0:k=0:=by lia
 subst k0;exact h.first z (by rw[<-gV];exact hz') y (Mu hy)
structure HI (rk:QY->Nat) (a b out:Array QY) (i j:Nat):Prop where
 m:MHo rk a b out i j
 i0:0<i
 j1:1<j
 ia:i<=a.size
 jb:j<=b.size
theorem MH.nO (m:MHo rk a b out i j)(H:LoOk rk S a b)(h0:0<i)(hy:a[i-1]?=some y)(hc:∀z∈b.toList.take j,rk z<=rk y):MHo rk a b (out.push y) (i-1) j:=by
 have hy':a.toList[i-1]?=some y:=by rw[gV];exact hy
 have:=m.tF (t:=i-1) H.sa (by lia) (by rw[take_one h0 hy'];intro w hw;rw[A_.mp hw];exact hc);rw[take_one h0 hy']at this;show MH _ _ _ (out.push y).toList.reverse _ _;rw[MV,NO];exact this
theorem MH.nY (m:MHo rk a b out i j)(H:LoOk rk S a b)(h0:0<j)(hy:b[j-1]?=some y)(hc:∀z∈a.toList.take i,rk z<=rk y):MHo rk a b (out.push y) i (j-1):=by
 have hy':b.toList[j-1]?=some y:=by rw[gV];exact hy
 have:=m.uF (t:=j-1) H.sb (by lia) (by rw[take_one h0 hy'];intro w hw;rw[A_.mp hw];exact hc);rw[take_one h0 hy']at this;show MH _ _ _ (out.push y).toList.reverse _ _;rw[MV,NO];exact this
theorem mU{l:Array QY}(srt:Srt rk l.toList)(hy:l[i-1]?=some y):∀z∈l.toList.take i,rk z<=rk y:=fun z hz=>by obtain⟨k,hk,hz'⟩:=jF hz;exact qF srt (i:=k) (j:=i-1) (by lia) hz' (by rw[gV];exact hy)
def mX(rk:QY->Nat)(a b:Array QY)(lo:Nat)(st:Q4)(r:Option (Array QY))(out:Array QY)(i j:Nat)(st':Q4):Prop:=
 Keep st st'/\match r with
 |some q=>Res rk a.toList b.toList q.toList
 |none=>HI rk a b out i j/\i+j<lo
theorem HI.get (I:HI rk a b out i j):(∃y,b[j-1]?=some y)/\∃z,a[i-1]?=some z:=
 ⟨⟨_,j_ (A' (OL (Om Nu I.j1) Nu) I.jb)⟩,⟨_,j_ (A' (OL I.i0 Nu) I.ia)⟩⟩
theorem Jf{Q:ForInStep FT->Q4->Prop}(L:cP M A E s kd rk S)(H:LoOk rk S a b)(hk:kindOf st=kd)(K:Keep st st')(I:HI rk a b out i j)
  (h:∀(d:Bool) (c:FT),mX rk a b (i+j) st c.1 c.2.2.2.1 c.2.1 c.2.2.1 st'->(d=false->c.1=none)->Q (if d=true then Q6 c else Rg c) st'):wpS M A E s (e1 a b out i j ca cb mg) Q st':=by
 obtain⟨⟨y,hy⟩,⟨z,hz⟩⟩:=I.get;have i0:=I.i0;have j1:=I.j1;have ia:=I.ia;have jb:=I.jb;unfold e1;refine Q2 (aX hy (Q2 (aX hz (Q2 (L y z st' _ (H.Sb _ _ hy) (H.Sa _ _ hz) (K.k.trans hk) ?_)))));dsimp only;by_cases w:rk y<rk z
 ·rw[decide_eq_true w,if_pos rfl];have m:=I.m.nO H i0 hz fun u hu=>m_ (mU H.sb hy u hu) (LQ w);refine Q2 (aX hz ?_);by_cases e:i-1=0
  ·rw[if_pos (by rw[e];rfl)];exact Q7 (h true _ ⟨K,H.wj m (.inl e)⟩ (fun z=>nomatch z))
  rw[if_neg (by simpa using e)];have I2:HI rk a b (out.push z) (i-1) j:=⟨m,Ml e,j1,m_ (Mv ..) ia,jb⟩;split
  ·exact Q7 (h true _ ⟨K,I2,by dsimp only;lia⟩ (fun z=>nomatch z))
  exact Q7 (h false _ ⟨K,I2,by dsimp only;lia⟩ (fun _=>rfl))
 rw[decide_eq_false w,if_neg (by simp)];have m:=I.m.nY H (by lia) hy fun u hu=>m_ (mU H.sa hz u hu) (by lia)
 refine Q2 (aX hy ?_);by_cases e:j-1=1
 ·rw[if_pos (by rw[e];rfl)];exact Q7 (h true _ ⟨K,H.ux m e⟩ (fun z=>nomatch z))
 rw[if_neg (by simpa using e)];have I2:HI rk a b (out.push y) i (j-1):=⟨m,i0,by lia,ia,m_ (Mv ..) jb⟩;split
 ·exact Q7 (h true _ ⟨K,I2,by dsimp only;lia⟩ (fun z=>nomatch z))
 exact Q7 (h false _ ⟨K,I2,by dsimp only;lia⟩ (fun _=>rfl))
theorem G3{Q:ForInStep GT->Q4->Prop}(H:LoOk rk S a b)(K:Keep st st')(I:HI rk a b out i j)(hc:∀z,a[i-1]?=some z->∀u∈b.toList.take j,rk u<=rk z)(hl:i+j<=lo)
  (h:∀(d:Bool) (c:GT),mX rk a b lo st c.1 c.2.2.2.1 c.2.1 c.2.2.1 st'->(d=false->c.1=none)->Q (if d=true then Q6 c else Rg c) st'):wpS M A E s (k3 a b out i j mg ca cb) Q st':=by
 obtain⟨⟨y,hy⟩,⟨z,hz⟩⟩:=I.get;have i0:=I.i0;have j1:=I.j1;have ia:=I.ia;have jb:=I.jb;unfold k3;have m:=I.m.nO H i0 hz (hc z hz);refine Q2 (aX hz ?_);by_cases e:i-1=0
 ·rw[if_pos (by rw[e];rfl)];exact Q7 (h true _ ⟨K,H.wj m (.inl e)⟩ (fun z=>nomatch z))
 rw[if_neg (by simpa using e)];have I2:HI rk a b (out.push z) (i-1) j:=⟨m,Ml e,j1,m_ (Mv ..) ia,jb⟩;split
 ·exact Q7 (h true _ ⟨K,I2,by dsimp only;lia⟩ (fun z=>nomatch z))
 exact Q7 (h false _ ⟨K,I2,by dsimp only;lia⟩ (fun _=>rfl))
theorem MHo.block (m:MHo rk a b out i j)(H:LoOk rk S a b)(ht:t<=j)(hc:∀y∈(b.toList.take j).drop t,∀z∈a.toList.take i,rk z<=rk y):MHo rk a b (out++(b.extract t j).reverse) i t:=by have:=m.uF H.sb ht hc;show MH _ _ _ (out++(b.extract t j).reverse).toList.reverse _ _;rw[LW,NO,MI,Po,yt];exact this
theorem MHo.HP (m:MHo rk a b out i j)(H:LoOk rk S a b)(ht:t<=i)(hc:∀y∈(a.toList.take i).drop t,∀z∈b.toList.take j,rk z<=rk y):MHo rk a b (out++(a.extract t i).reverse) t j:=by have:=m.tF H.sa ht hc;show MH _ _ _ (out++(a.extract t i).reverse).toList.reverse _ _;rw[LW,NO,MI,Po,yt];exact this
theorem G8{Q:ForInStep GT->Q4->Prop}(L:cP M A E s kd rk S)(H:LoOk rk S a b)(hk:kindOf st=kd)(K:Keep st st')(I:HI rk a b out i j)(hc:∀y,b[j-1]?=some y->∀u∈a.toList.take i,rk u<=rk y)(hl:i+j<=lo)
  (h:∀(d:Bool) (c:GT),mX rk a b lo st c.1 c.2.2.2.1 c.2.1 c.2.2.1 st'->(d=false->c.1=none)->Q (if d=true then Q6 c else Rg c) st'):wpS M A E s (k2 a b out i j mg ca cb) Q st':=by
 obtain⟨⟨y,hy⟩,⟨z,hz⟩⟩:=I.get;have i0:=I.i0;have j1:=I.j1;have ia:=I.ia;have jb:=I.jb;unfold k2;have m:=I.m.nY H (by lia) hy (hc y hy);refine Q2 (aX hy ?_);by_cases e:j-1=1
 ·rw[if_pos (by rw[e];rfl)];exact Q7 (h true _ ⟨K,H.ux m e⟩ (fun z=>nomatch z))
 rw[if_neg (by simpa using e)];refine Q2 (aX hz (Q2 (jH L (K.k.trans hk) (by lia) (by lia) H.Sb (H.Sa _ _ hz) (fun p q x w h1 h2 h3 h4=>qF H.sb (i:=0+p) (j:=0+q) (by lia) (by rw[gV];exact h3) (by rw[gV];exact h4)) fun t t1 t2 t3=>?_)));dsimp only;have before:∀u∈b.toList.take t,rk u<=rk z:=fun u hu=>by obtain⟨p,hp1,hp⟩:=jF hu;rw[gV]at hp;have:=t2 p u hp1 (by rw[NW];exact hp);simp at this;lia
 by_cases pk:j-1-t > 0
 ·rw[if_pos pk];have m2:MHo rk a b (out.push y++(b.extract t (j-1)).reverse) i t:=by
   refine MHo.block m H (by omega) fun u hu w hw=>?_
   obtain⟨p,hp0,hp1,hp⟩:=wb hu;rw[gV]at hp;have:=t3 p u hp0 hp1 (by rw[NW];exact hp);simp at this;exact m_ (mU H.sa hz w hw) this
  by_cases e1:t=1
  ·rw[if_pos (by rw[e1];rfl)];exact Q7 (h true _ ⟨K,H.ux m2 e1⟩ (fun z=>nomatch z))
  rw[if_neg (by simpa using e1)];by_cases e2:t=0
  ·rw[if_pos (by rw[e2];rfl)];exact Q7 (h true _ ⟨K,H.wj m2 (.inr e2)⟩ (fun z=>nomatch z))
  rw[if_neg (by simpa using e2)];refine G3 H K ⟨m2,i0,Nt (Ml e2) (SK e1),ia,m_ t1 (m_ (Mv ..) jb)⟩ (fun z' hz'=>?_) (by lia) h;rw[hz]at hz';cases hz';exact before
 rw[if_neg pk];have k0:t=j-1:=by lia
 refine G3 H K ⟨m,i0,by lia,ia,m_ (Mv ..) jb⟩ (fun z' hz'=>?_) (by lia) h;rw[hz]at hz';cases hz';rw[k0]at before;exact before
theorem Kw{Q:ForInStep GT->Q4->Prop}(L:cP M A E s kd rk S)(H:LoOk rk S a b)(hk:kindOf st=kd)(K:Keep st st')(I:HI rk a b out i j)
  (h:∀(d:Bool) (c:GT) (st2:Q4),mX rk a b (i+j) st c.1 c.2.2.2.1 c.2.1 c.2.2.1 st2->(d=false->c.1=none)->Q (if d=true then Q6 c else Rg c) st2):wpS M A E s (k1 a b out i j mg ca cb) Q st':=by
 obtain⟨⟨y,hy⟩,⟨z,hz⟩⟩:=I.get;have i0:=I.i0;have j1:=I.j1;have ia:=I.ia;have jb:=I.jb;unfold k1;refine Q2 (oX (Q2 (aX hy ?_)));have K2:=K.g mg;revert K2;generalize Su (kindOf st') (QZ st') (Rc st') mg (RJ st')=st2;intro K2;refine Q2 (jH L (K2.k.trans hk) (by lia) (by lia) H.Sa (H.Sb _ _ hy) (fun p q x w h1 h2 h3 h4=>qF H.sa (i:=0+p) (j:=0+q) (by lia) (by rw[gV];exact h3) (by rw[gV];exact h4)) fun t t1 t2 t3=>?_);dsimp only;have before:∀u∈a.toList.take t,rk u<=rk y:=fun u hu=>by obtain⟨p,hp1,hp⟩:=jF hu;rw[gV]at hp;have:=t2 p u hp1 (by rw[NW];exact hp);simpa using this
 by_cases pk:i-t > 0
 ·rw[if_pos pk];have m2:MHo rk a b (out++(a.extract t i).reverse) t j:=by
   refine MHo.HP I.m H (by omega) fun u hu w hw=>?_
   obtain⟨p,hp0,hp1,hp⟩:=wb hu;rw[gV]at hp;have:=t3 p u hp0 hp1 (by rw[NW];exact hp);simp at this;exact m_ (mU H.sb hy w hw) (LQ this)
  by_cases e2:t=0
  ·rw[if_pos (by rw[e2];rfl)];exact Q7 (h true _ _ ⟨K2,H.wj m2 (.inl e2)⟩ (fun z=>nomatch z))
  rw[if_neg (by simpa using e2)];refine G8 L H hk K2 ⟨m2,by lia,j1,by lia,jb⟩ (fun y' hy'=>?_) (by lia) fun d c x1 x2=>h d c _ x1 x2
  rw[hy]at hy';cases hy';exact before
 rw[if_neg pk];have k0:t=i:=by lia
 rw[k0]at before;refine G8 L H hk K2 I (fun y' hy'=>?_) (b_ _) fun d c x1 x2=>h d c _ x1 x2;rw[hy]at hy';cases hy';exact before
theorem HN{Q:Array QY->Q4->Prop}(L:cP M A E s kd rk S)(H:LoOk rk S a b)(hk:kindOf st=kd)(h:∀r st',Keep st st'->Res rk a.toList b.toList r.toList->Q r st')(hr:∀x,QX M A (rule x) (fun _ s'=>s'=s) E s):wpS M A E s (mHi a b) Q st:=by
 rw[EE];have pa:=H.pa;have pb:=H.pb;obtain⟨y,hy⟩:∃y,a[a.size-1]?=some y:=⟨_,j_ (by lia)⟩;have rl:∀{x:String}{R:Unit->Q4->Prop}{st':Q4},R () st'->wpS M A E s (liftM (rule x):StateT Q4 Sem Unit) R st':=fun{x R st'} q=>Vg (RA (hr x) (fun _ _ z=>⟨z,q⟩) fun _ _ z=>z);refine Q2 (rl (Q2 (aX hy ?_)));have m0:MHo rk a b #[] a.size b.size:=⟨by simp,N5,fun x hx=>by simp at hx⟩;have m1:MHo rk a b #[y] (a.size-1) b.size:=m0.nO H pa hy fun z hz=>H.last y hy z (Mu hz);by_cases e1:a.size-1=0
 ·rw[if_pos (by rw[e1];rfl)];exact Q7 (h _ _ .bY (H.wj m1 (.inl e1)))
 rw[if_neg (by simpa using e1)];by_cases e2:b.size=1
 ·rw[if_pos (by rw[e2];rfl)];exact Q7 (h _ _ .bY (H.ux m1 e2))
 rw[if_neg (by simpa using e2)];refine Q2 (TM ?_);refine Q2 (R_ (RM (I:=fun x (c:OT) st'=>c.1=none/\Keep st st'/\HI rk a b c.2.2.2.1 c.2.1 c.2.2.1/\c.2.1+c.2.2.1+x<a.size+b.size) (Q:=fun(c:OT) st'=>∃q,c.1=some q/\Keep st st'/\Res rk a.toList b.toList q.toList) ?_ ?_ ⟨rfl,.bY,⟨m1,by dsimp only;lia,by dsimp only;lia,by dsimp only;lia,by dsimp only;lia⟩,by dsimp only;lia⟩) ?_)
 ·rintro x ⟨c1,i,j,out,mg⟩ st1 _ hx ⟨rfl,K1,I1,px⟩;unfold oHi;dsimp only at I1 px ⊢;refine Q2 (R_ (RM (I:=fun x (c:FT) st'=>c.1=none/\Keep st st'/\HI rk a b c.2.2.2.1 c.2.1 c.2.2.1/\c.2.1+c.2.2.1+x<=i+j) (Q:=fun(c:FT) st'=>mX rk a b (i+j) st c.1 c.2.2.2.1 c.2.1 c.2.2.1 st') ?_ ?_ ⟨rfl,K1,I1,b_ _⟩) ?_)
  ·rintro x2 ⟨d1,i2,j2,out2,ca,cb⟩ st2 _ hx2 ⟨rfl,K2,I2,p2⟩;dsimp only at I2 p2 ⊢;refine Jf L H hk K2 I2 fun d c hs hn=>?_;cases d with
   |true=>
    show mX _ _ _ _ _ _ _ _ _ _;refine⟨hs.1,?_⟩;have h2:=hs.2;cases e:c.1 with
    |some q=>rw[e]at h2;exact h2
    |none=>rw[e]at h2;exact⟨h2.1,by have:=h2.2;lia⟩
   |false=>
    have h2:=hs.2;rw[hn rfl]at h2;exact⟨hn rfl,hs.1,h2.1,by have:=h2.2;lia⟩
  ·rintro⟨c1,i2,j2,out2,ca,cb⟩ st2 ⟨rfl,K2,I2,p2⟩;dsimp only at I2 p2 ⊢;have:=I2.i0;have:=I2.j1;lia
  rintro⟨c1,i2,j2,out2,ca,cb⟩ st2 ⟨K2,h2⟩;cases c1 with
  |some q=>exact Q7 ⟨q,rfl,K2,h2⟩
  |none=>
   obtain⟨I2,p2⟩:=h2;dsimp only at I2 p2 ⊢;refine Q2 (rl ?_);refine Q2 (R_ (RM (I:=fun _ (c:GT) st'=>c.1=none/\Keep st st'/\HI rk a b c.2.2.2.1 c.2.1 c.2.2.1/\c.2.1+c.2.2.1<i+j) (Q:=fun(c:GT) st'=>mX rk a b (i+j) st c.1 c.2.2.2.1 c.2.1 c.2.2.1 st') ?_ ?_ ⟨rfl,K2,I2,p2⟩) ?_)
   ·rintro x3 ⟨d1,i3,j3,out3,mg3,ca3,cb3⟩ st3 _ hx3 ⟨rfl,K3,I3,p3⟩;dsimp only at I3 p3 ⊢;have go:∀mg',wpS M A E s (k1 a b out3 i3 j3 mg' ca3 cb3) (fun r st'=>match r with | .done c'=>mX rk a b (i+j) st c'.1 c'.2.2.2.1 c'.2.1 c'.2.2.1 st' | .yield c'=>c'.1=none/\Keep st st'/\HI rk a b c'.2.2.2.1 c'.2.1 c'.2.2.1/\c'.2.1+c'.2.2.1<i+j) st3:=fun mg'=>by
     refine Kw L H hk K3 I3 fun d c st4 hs hn=>?_;cases d with
     |true=>
      show mX _ _ _ _ _ _ _ _ _ _;refine⟨hs.1,?_⟩;have h2:=hs.2;cases e:c.1 with
      |some q=>rw[e]at h2;exact h2
      |none=>rw[e]at h2;exact⟨h2.1,by have:=h2.2;lia⟩
     |false=>
      have h2:=hs.2;rw[hn rfl]at h2;exact⟨hn rfl,hs.1,h2.1,by have:=h2.2;lia⟩
    split
    ·exact R_ (go _) fun r st' h=>by cases r <;> exact h
    exact R_ (go _) fun r st' h=>by cases r <;> exact h
   ·rintro⟨c1,i3,j3,out3,mg3,ca3,cb3⟩ st3 ⟨rfl,K3,I3,p3⟩;exact⟨K3,I3,p3⟩
   rintro⟨c1,i3,j3,out3,mg3,ca3,cb3⟩ st3 ⟨K3,h3⟩;cases c1 with
   |some q=>exact Q7 ⟨q,rfl,K3,h3⟩
   |none=>
    obtain⟨I3,p3⟩:=h3;refine Q2 (oX (Q7 ⟨rfl,K3.g _,I3,?_⟩));dsimp only at p3 ⊢;lia
 ·rintro⟨c1,i,j,out,mg⟩ st1 ⟨rfl,K1,I1,px⟩;dsimp only at px;lia
 rintro⟨c1,i,j,out,mg⟩ st1 ⟨q,e,K1,r⟩;dsimp only at e;subst e;exact Q7 (h q st1 K1 r)
end
noncomputable def R(rk:QY->Nat)(xs:Array QY)(i:Nat):Nat:=match xs[i]? with
 |some p=>rk p
 |none=>0
structure Kp2 (st st':Q4):Prop where
 k:kindOf st'=kindOf st
 p:Rc st'=Rc st
 f:RJ st'=RJ st
 a:(QZ st').Perm (QZ st)
theorem Kp2.bY :Kp2 st st:=⟨rfl,rfl,rfl,O8 _⟩
theorem Kp2.trans {s1 s2 s3:Q4}(h:Kp2 s1 s2)(g:Kp2 s2 s3):Kp2 s1 s3:=⟨g.k.trans h.k,g.p.trans h.p,g.f.trans h.f,g.a.trans h.a⟩
theorem Kp2.size (h:Kp2 st st'):(QZ st').size=(QZ st).size:=h.a.size_eq
variable {xs ys:Array QY}
section
variable{rk:QY->Nat}
theorem dJ(h:xs[i]?=ys[j]?):R rk xs i=R rk ys j:=by unfold R;rw[h]
theorem BX(hj:j<=xs.size)(k:Nat):R rk (mirror xs i j ((j-i)/2)) k=if i<=k/\k<j then R rk xs (i+j-1-k)else R rk xs k:=by
 have:=V8 (i:=i) hj k;split at this <;> rename_i h
 ·rw[if_pos h];exact dJ this
 rw[if_neg h];exact dJ this
theorem Df{src d:Nat}(hs:src<xs.size)(hd:d<=src)(k:Nat):R rk (WY xs src d) k=if k=src-d then R rk xs src else if src-d<k/\k<=src then R rk xs (k-1)else R rk xs k:=by
 have:=WZ hs d hd k;split at this
 ·rename_i h;rw[if_pos h];exact dJ this
 rename_i h;rw[if_neg h];split at this
 ·rename_i h2;rw[if_pos h2];exact dJ this
 rename_i h2;rw[if_neg h2];exact dJ this
def cj(rk:QY->Nat)(xs:Array QY)(lo n:Nat):Prop:=∀i j,i<=j->j<n->R rk xs (lo+i)<=R rk xs (lo+j)
def vH(rk:QY->Nat)(xs:Array QY)(lo n:Nat):Prop:=∀i j,i<=j->j<n->R rk xs (lo+j)<=R rk xs (lo+i)
end
structure Within (st st':Q4) (lo n:Nat):Prop where
 kp:Kp2 st st'
 out:∀k,(k<lo\/lo+n<=k)->(QZ st')[k]?=(QZ st)[k]?
theorem Within.bY :Within st st lo n:=⟨.bY,fun _ _=>rfl⟩
theorem Within.trans {s1 s2 s3:Q4}(h:Within s1 s2 lo n)(g:Within s2 s3 lo n):Within s1 s3 lo n:=⟨h.kp.trans g.kp,fun k hk=>(g.out k hk).trans (h.out k hk)⟩
section
variable{M:Ts}{A:Rh}{E:QR->QV->Prop}{s:QV}{kd:R3}{rk:QY->Nat}{S:QY->Prop}
noncomputable def nJ(S:QY->Prop)(st:Q4):Prop:=∀p∈(QZ st).toList,S p
theorem nJ.at {st:Q4}(h:nJ S st){i:Nat}{p:QY}(e:(QZ st)[i]?=some p):S p:=h p (by rw[<-gV]at e;exact F' e)
theorem nJ.kp (h:nJ S st)(k:Kp2 st st'):nJ S st':=fun p hp=>h p ((Mw.mp k.a).mem_iff.mp hp)
theorem jC{Q:Option Bool->Q4->Prop}(L:cP M A E s kd rk S)(hk:kindOf st=kd)(hS:nJ S st)(hi:i<(QZ st).size)(hj:j<(QZ st).size)(q:Q (some (decide (R rk (QZ st) i<R rk (QZ st) j))) st):wpS M A E s (W0 i j) Q st:=by rw[ltAt'_eq];refine Q2 (TM ?_);have e1:(QZ st)[i]?=some (QZ st)[i]:=j_ hi;have e2:(QZ st)[j]?=some (QZ st)[j]:=j_ hj;refine Q2 (aX e1 (Q2 (aX e2 (L _ _ st _ (hS.at e1) (hS.at e2) hk ?_))));unfold R at q;rw[e1,e2]at q;exact q
theorem DJ{Q:Unit->Q4->Prop}(hl:lo<=i)(hj:j<=lo+n)(hsz:j<=(QZ st).size)(h:∀st',Within st st' lo n->(∀k,R rk (QZ st') k=if i<=k/\k<j then R rk (QZ st) (i+j-1-k)else R rk (QZ st) k)->Q () st'):wpS M A E s (TH i j) Q st:=by rw[reverseSlice'_eq];refine UI (h _ ⟨⟨rfl,rfl,rfl,mirror_perm _ _ _ _⟩,fun k hk=>?_⟩ fun k=>BX hsz k);show(mirror (QZ st) i j ((j-i)/2))[k]?=_;rw[V8 hsz,if_neg (by lia)]
theorem Fe{ok:Nat}{Q:Bool->Q4->Prop}(L:cP M A E s kd rk S)(hk:kindOf st=kd)(hS:nJ S st)(hn:lo+n<=(QZ st).size)(hok:ok<=n)(hs:cj rk (QZ st) lo ok)
  (h:∀st',Within st st' lo n->cj rk (QZ st') lo n->Q true st'):wpS M A E s (Yn lo n ok) Q st:=by
 rw[binarySort'_eq];refine Q2 (R_ (RM (I:=fun k c st'=>c=(none,())/\Within st st' lo n/\cj rk (QZ st') lo k) (Q:=fun c st'=>c=(none,())/\Within st st' lo n/\cj rk (QZ st') lo (max (max ok 1) n)) ?_ (fun c st' z=>z) ⟨rfl,.bY,fun i j h1 h2=>?_⟩) ?_)
 ·rintro k c st1 hk1 hk2 ⟨rfl,W,s1⟩;have sz1:=W.kp.size;have hS1:=hS.kp W.kp;refine Q2 (R_ (RM (I:=fun x c st'=>st'=st1/\∃l r,c=(none,l,r)/\l<=r/\r<=k/\r-l<=k-x/\(∀i,i<l->R rk (QZ st1) (lo+i)<=R rk (QZ st1) (lo+k))/\(∀i,r<=i->i<k->R rk (QZ st1) (lo+k)<R rk (QZ st1) (lo+i)))
   (Q:=fun c st'=>st'=st1/\∃l,c=(none,l,l)/\l<=k/\(∀i,i<l->R rk (QZ st1) (lo+i)<=R rk (QZ st1) (lo+k))/\(∀i,l<=i->i<k->R rk (QZ st1) (lo+k)<R rk (QZ st1) (lo+i))) ?_ ?_ ⟨rfl,0,k,rfl,E_ _,b_ _,by lia,fun i hi=>by lia,fun i h1 h2=>by lia⟩) ?_)
  ·rintro x c st2 _ hx ⟨rfl,l,r,rfl,g1,g2,g3,g4,g5⟩;dsimp only;by_cases z:l>=r
   ·rw[if_pos z];have e:l=r:=by lia
    subst e;exact Q7 ⟨rfl,l,rfl,g2,g4,g5⟩
   rw[if_neg z];have m1:l<=(l+r)/2:=by omega
   have m2:(l+r)/2<r:=by omega
   generalize (l+r)/2=m at m1 m2 ⊢;have m3:=A' m2 g2;have sz:∀{y},y<=k->lo+y<(QZ st2).size:=fun h=>by lia
   refine Q2 (jC L (W.kp.k.trans hk) hS1 (sz (b_ _)) (sz (LQ m3)) ?_);dsimp only;by_cases w:R rk (QZ st2) (lo+k)<R rk (QZ st2) (lo+m)
   ·rw[decide_eq_true w,if_pos rfl];exact Q7 ⟨rfl,l,m,rfl,m1,LQ m3,by lia,g4,fun i h1 h2=>A' w (s1 m i h1 h2)⟩
   rw[decide_eq_false w,if_neg (by simp)];exact Q7 ⟨rfl,m+1,r,rfl,m2,g2,by lia,fun i hi=>m_ (s1 i m (N7 hi) m3) (Md w),g5⟩
  ·rintro c st2 ⟨rfl,l,r,rfl,g1,g2,g3,g4,g5⟩;have e:l=r:=by lia
   subst e;exact⟨rfl,l,rfl,g2,g4,g5⟩
  rintro c st2 ⟨rfl,l,rfl,g2,g4,g5⟩;dsimp only;rw[moveDown'_eq];have hk1:lo+k<(QZ st2).size:=by lia
  have e0:lo+k-(lo+k-(lo+l))=lo+l:=Nat.sub_sub_self (MZ g2 lo);have hb:∀j,R rk (WY (QZ st2) (lo+k) (lo+k-(lo+l))) (lo+j)=if j=l then R rk (QZ st2) (lo+k)else if l<j/\j<=k then R rk (QZ st2) (lo+(j-1))else R rk (QZ st2) (lo+j):=fun j=>by
   rw[Df hk1 (Mv ..),e0];by_cases c1:j=l
   ·rw[if_pos c1,if_pos (congrArg (lo+·) c1)]
   rw[if_neg c1,if_neg (fun z=>c1 (Nat.add_left_cancel z))];by_cases c2:l<j/\j<=k
   ·rw[if_pos c2,if_pos ⟨Oz c2.1 lo,MZ c2.2 lo⟩,P0 (Nat.one_le_of_lt c2.1)]
   rw[if_neg c2,if_neg (fun z=>c2 ⟨Nat.lt_of_add_lt_add_left z.1,Nat.le_of_add_le_add_left z.2⟩)]
  refine Q2 (UI (Q7 ⟨rfl,W.trans ⟨⟨rfl,rfl,rfl,bubble_perm _ _ _⟩,fun j hj=>?_⟩,fun i j hij hj=>?_⟩))
  ·show(WY (QZ st2) (lo+k) (lo+k-(lo+l)))[j]?=_;rw[WZ hk1 _ (Mv ..),e0,if_neg (by lia),if_neg (by lia)]
  show R rk (WY (QZ st2) (lo+k) (lo+k-(lo+l))) (lo+i)<=R rk (WY (QZ st2) (lo+k) (lo+k-(lo+l))) (lo+j);rw[hb,hb];have ss:∀p q,p<=q->q<k->R rk (QZ st2) (lo+p)<=R rk (QZ st2) (lo+q):=s1;have hj:j<=k:=N7 hj;have dn:∀{x},l<x->x<=k->x-1<k:=fun a b=>A' (Nat.sub_one_lt_of_lt a) b;by_cases i1:i<l
  ·rw[if_neg (s_ i1),if_neg (fun z=>Nat.lt_asymm z.1 i1)];by_cases j2:j=l
   ·rw[if_pos j2];exact g4 i i1
   rw[if_neg j2];by_cases j1:l<j
   ·rw[if_pos ⟨j1,hj⟩];exact ss i (j-1) (Oo (Om i1 j1)) (dn j1 hj)
   rw[if_neg (fun z=>j1 z.1)];exact ss i j hij (A' (Nt (Md j1) j2) g2)
  by_cases i2:i=l
  ·rw[if_pos i2];by_cases j2:j=l
   ·rw[if_pos j2];exact b_ _
   have j1:l<j:=Nt (i2▸hij) (fun z=>j2 z.symm);rw[if_neg j2,if_pos ⟨j1,hj⟩];exact LQ (g5 (j-1) (Oo j1) (dn j1 hj))
  have i3:l<i:=Nt (Md i1) (fun z=>i2 z.symm);have j1:=A' i3 hij;rw[if_neg i2,if_pos ⟨i3,m_ hij hj⟩,if_neg (fun z=>MP _ (z▸j1)),if_pos ⟨j1,hj⟩];exact ss (i-1) (j-1) (Pp hij 1) (dn j1 hj)
 ·by_cases z:1<=ok
  ·rw[Nat.max_eq_left z]at h2;exact hs i j h1 h2
  have:i=j:=by lia
  subst this;exact b_ _
 rintro c st1 ⟨rfl,W,s1⟩;exact Q7 (h st1 W fun i j h1 h2=>s1 i j h1 (by lia))
end
theorem Ag{l x:Nat}(h:1<=x):l+(x-1)=l+x-1:=(P0 h l).symm
theorem Ir{l k:Nat}(h:l<=k):l+(k-l)=k:=Nl h
theorem KG{l a:Nat}(h:i<a):l+(l+a)-1-(l+i)=l+(a-1-i):=by lia
theorem Ib{l x k:Nat}(h0:l<=k)(h:k<l+x):k-l<x:=NT h0 h
noncomputable def CD(l0 a0 q0:Nat):StateT Q4 Sem (Option Nat):=do
 let mut n:=a0
 for _ in [a0:q0]do
  let some sm <-W0 (l0+n) (l0+n-1) | return none
  if sm then break
  n:=n+1
 return some n
def tM(l0 a0 q0:Nat):StateT Q4 Sem (Option Nat):=do
 TH l0 (l0+a0)
 CD l0 a0 q0
def uP(l0 a0 q0:Nat):StateT Q4 Sem (Option Nat):=do
 rule "list.sort.descending-run"
 let mut n:=a0+1
 let mut eq:=0
 for _ in [n:q0]do
  let some sm <-W0 (l0+n) (l0+n-1) | return none
  if sm then
   if eq > 0 then TH (l0+n-(eq+1)) (l0+n)
   eq:=0
  else
   let some la <-W0 (l0+n-1) (l0+n) | return none
   if la then break
   eq:=eq+1
  n:=n+1
 if eq > 0 then
  TH (l0+n-(eq+1)) (l0+n)
  tM l0 n q0
 else tM l0 n q0
theorem JD(l0 q0:Nat):Xu l0 q0=(do
 let mut n:=1
 for _ in [1:q0]do
  let some sm <-W0 (l0+n) (l0+n-1) | return none
  if sm then break
  n:=n+1
 if n == q0 then return some n
 if n > 1 then
  let some ro <-W0 l0 (l0+n-1) | return none
  if ro then return some n
  TH l0 (l0+n)
  uP l0 n q0
 else uP l0 n q0):=rfl
variable {a0 l0 q0:Nat}
section
variable{M:Ts}{A:Rh}{E:QR->QV->Prop}{s:QV}{kd:R3}{rk:QY->Nat}{S:QY->Prop}
theorem cj.snoc (h:cj rk xs lo n)(h1:1<=n)(k:R rk xs (lo+n-1)<=R rk xs (lo+n)):cj rk xs lo (n+1):=fun i j hij hj=>by
 by_cases z:j<n
 ·exact h i j hij z
 have e:j=n:=by lia
 subst e;by_cases w:i=j
 ·subst w;exact b_ _
 have:=h i (j-1) (by lia) (by lia);rw[Ag h1]at this;exact m_ this k
theorem C4(L:cP M A E s kd rk S)(hk:kindOf st=kd)(hS:nJ S st)(hsz:l0+q0<=(QZ st).size)(h1:1<=a0)(h2:a0<=q0)(hs:cj rk (QZ st) l0 a0)
  (h:∀n,a0<=n->n<=q0->cj rk (QZ st) l0 n->Q (some n) st):wpS M A E s (CD l0 a0 q0) Q st:=by
 unfold CD;dsimp only;refine Q2 (R_ (RM (I:=fun x c st'=>st'=st/\c=(none,x)/\cj rk (QZ st) l0 x) (Q:=fun c st'=>st'=st/\∃n,c=(none,n)/\a0<=n/\n<=q0/\cj rk (QZ st) l0 n) ?_ ?_ ⟨rfl,rfl,hs⟩) ?_)
 ·rintro x c st1 hx1 hx2 ⟨rfl,rfl,s1⟩;dsimp only;refine Q2 (jC L hk hS (by lia) (by lia) ?_);dsimp only;by_cases w:R rk (QZ st1) (l0+x)<R rk (QZ st1) (l0+x-1)
  ·rw[decide_eq_true w,if_pos rfl];exact Q7 ⟨rfl,x,rfl,hx1,by lia,s1⟩
  rw[decide_eq_false w,if_neg (by simp)];exact Q7 ⟨rfl,rfl,s1.snoc (by lia) (by lia)⟩
 ·rintro c st1 ⟨rfl,rfl,s1⟩;rw[OW h2]at s1 ⊢;exact⟨rfl,q0,rfl,h2,b_ _,s1⟩
 rintro c st1 ⟨rfl,n,rfl,g1,g2,g3⟩;exact Q7 (h n g1 g2 g3)
theorem rK(L:cP M A E s kd rk S)(hk:kindOf st=kd)(hS:nJ S st)(hsz:l0+q0<=(QZ st).size)(h1:1<=a0)(h2:a0<=q0)(hs:vH rk (QZ st) l0 a0)
  (h:∀n st',a0<=n->n<=q0->Within st st' l0 q0->cj rk (QZ st') l0 n->Q (some n) st'):wpS M A E s (tM l0 a0 q0) Q st:=by
 unfold tM;refine Q2 (DJ (rk:=rk) (lo:=l0) (n:=q0) (b_ _) (by lia) (by lia) fun st1 W1 r1=>?_);refine C4 L (W1.kp.k.trans hk) (hS.kp W1.kp) (by rw[W1.kp.size];exact hsz) h1 h2 (fun i j hij hj=>?_) fun n g1 g2 g3=>h n st1 g1 g2 W1 g3
 have hi:=MR hij hj;rw[r1,r1,if_pos ⟨M1 ..,Oz hi l0⟩,if_pos ⟨M1 ..,Oz hj l0⟩,KG hi,KG hj];exact hs (a0-1-j) (a0-1-i) (Nat.sub_le_sub_left hij _) (MR (Mv _ _) (OL h1 Nu))
theorem qd{Q:Unit->Q4->Prop}(hl:lo<=i)(hj:j<=lo+n)(hsz:j<=(QZ st).size)(heq:∀k,i<=k->k<j->R rk (QZ st) k=R rk (QZ st) (j-1))(h:∀st',Within st st' lo n->(∀k,R rk (QZ st') k=R rk (QZ st) k)->Q () st'):wpS M A E s (TH i j) Q st:=by
 refine DJ (rk:=rk) hl hj hsz fun st1 W r1=>h st1 W fun k=>?_;rw[r1];split
 ·rename_i z;rw[heq k z.1 z.2,heq (i+j-1-k) (by(clear r1 W h heq hsz hj hl;lia)) (by(clear r1 W h heq hsz hj hl;lia))]
 rfl
theorem vH.snoc (h:vH rk xs lo n)(h1:1<=n)(k:R rk xs (lo+n)<=R rk xs (lo+n-1)):vH rk xs lo (n+1):=fun i j hij hj=>by
 by_cases z:j<n
 ·exact h i j hij z
 have e:j=n:=by lia
 subst e;by_cases w:i=j
 ·subst w;exact b_ _
 have:=h i (j-1) (by lia) (by lia);rw[show lo+(j-1)=lo+j-1 by lia]at this;exact m_ k this
theorem sN(L:cP M A E s kd rk S)(hk:kindOf st=kd)(hS:nJ S st)(hsz:l0+q0<=(QZ st).size)(h2:a0+1<=q0)(hs:vH rk (QZ st) l0 (a0+1))(hr:∀x,QX M A (rule x) (fun _ s'=>s'=s) E s)
  (h:∀n st',1<=n->n<=q0->Within st st' l0 q0->cj rk (QZ st') l0 n->Q (some n) st'):wpS M A E s (uP l0 a0 q0) Q st:=by
 unfold uP;refine Q2 (Vg (RA (hr _) (fun _ _ z=>⟨z,?_⟩) fun _ _ z=>z));dsimp only;refine Q2 (R_ (RM (I:=fun x c st'=>∃eq,c=(none,x,eq)/\Within st st' l0 q0/\vH rk (QZ st') l0 x/\eq+1<=x/\∀k,x-1-eq<=k->k<x->R rk (QZ st') (l0+k)=R rk (QZ st') (l0+(x-1)))
  (Q:=fun c st'=>∃n eq,c=(none,n,eq)/\a0+1<=n/\n<=q0/\Within st st' l0 q0/\vH rk (QZ st') l0 n/\eq+1<=n/\∀k,n-1-eq<=k->k<n->R rk (QZ st') (l0+k)=R rk (QZ st') (l0+(n-1))) ?_ ?_ ⟨0,rfl,.bY,hs,by lia,fun k h1 h2=>by rw[show k=a0+1-1 by lia]⟩) ?_)
 ·rintro x c st1 hx1 hx2 ⟨eq,rfl,W,d1,e1,ev⟩;dsimp only;have hk1:=W.kp.k.trans hk;have hS1:=hS.kp W.kp;have sz1:=W.kp.size;have x1:1<=x:=m_ (O9 1 eq) e1;have b1:l0+x<(QZ st1).size:=by lia
  have b2:l0+x-1<(QZ st1).size:=MR (Mv ..) b1;refine Q2 (jC L hk1 hS1 b1 b2 ?_);dsimp only;by_cases w:R rk (QZ st1) (l0+x)<R rk (QZ st1) (l0+x-1)
  ·rw[decide_eq_true w,if_pos rfl];have fin:∀st2,Within st st2 l0 q0->(∀k,R rk (QZ st2) k=R rk (QZ st1) k)->∃eq',((none,x+1,0):Option (Option Nat)×Nat×Nat)=(none,x+1,eq')/\Within st st2 l0 q0/\vH rk (QZ st2) l0 (x+1)/\eq'+1<=x+1/\∀k,x+1-1-eq'<=k->k<x+1->R rk (QZ st2) (l0+k)=R rk (QZ st2) (l0+(x+1-1)):=fun st2 W2 r2=>by refine⟨0,rfl,W2,fun i j hij hj=>?_,by lia,fun k h1 h2=>by rw[show k=x+1-1 by lia]⟩;rw[r2,r2];exact d1.snoc x1 (LQ w) i j hij hj
   by_cases z:eq > 0
   ·rw[if_pos z];refine Q2 (qd (rk:=rk) (lo:=l0) (n:=q0) (by lia) (by lia) (by lia) (fun k h1 h2=>?_) fun st2 W2 r2=>Q7 (fin st2 (W.trans W2) r2));have k0:l0<=k:=by lia
    have:=ev (k-l0) (by lia) (Ib k0 h2);rw[Ir k0,Ag x1]at this;exact this
   rw[if_neg z];exact Q7 (fin st1 W fun _=>rfl)
  rw[decide_eq_false w,if_neg (by simp)];refine Q2 (jC L hk1 hS1 b2 b1 ?_);dsimp only;by_cases v:R rk (QZ st1) (l0+x-1)<R rk (QZ st1) (l0+x)
  ·rw[decide_eq_true v,if_pos rfl];exact Q7 ⟨x,eq,rfl,hx1,by lia,W,d1,e1,ev⟩
  rw[decide_eq_false v,if_neg (by simp)];have ee:R rk (QZ st1) (l0+x)=R rk (QZ st1) (l0+x-1):=Ql (Md v) (Md w);refine Q7 ⟨eq+1,rfl,W,d1.snoc x1 (NB ee),by lia,fun k h1 h2=>?_⟩;rw[show l0+(x+1-1)=l0+x by lia];by_cases y:k=x
  ·rw[y]
  have:=ev k (by lia) (by lia);rw[Ag x1]at this;exact this.trans ee.symm
 ·rintro c st1 ⟨eq,rfl,W,d1,e1,ev⟩;rw[OW h2]at d1 e1 ev ⊢;exact⟨q0,eq,rfl,h2,b_ _,W,d1,e1,ev⟩
 rintro c st1 ⟨n,eq,rfl,g1,g2,W,d1,e1,ev⟩;have sz1:=W.kp.size;dsimp only;by_cases z:eq > 0
 ·rw[if_pos z];refine Q2 (qd (rk:=rk) (lo:=l0) (n:=q0) (by lia) (by lia) (by lia) (fun k h1 h2=>?_) fun st2 W2 r2=>?_)
  ·have k0:l0<=k:=by lia
   have:=ev (k-l0) (by lia) (Ib k0 h2);rw[Ir k0,Ag (m_ (O9 1 eq) e1)]at this;exact this
  refine rK L ((W.trans W2).kp.k.trans hk) (hS.kp (W.trans W2).kp) (by rw[(W.trans W2).kp.size];exact hsz) (by lia) g2 (fun i j hij hj=>by rw[r2,r2];exact d1 i j hij hj) fun m st3 k1 k2 W3 s3=>h m st3 (by lia) k2 ((W.trans W2).trans W3) s3
 rw[if_neg z];exact rK L (W.kp.k.trans hk) (hS.kp W.kp) (by rw[sz1];exact hsz) (by lia) g2 d1 fun m st3 k1 k2 W3 s3=>h m st3 (by lia) k2 (W.trans W3) s3
theorem vj(L:cP M A E s kd rk S)(hk:kindOf st=kd)(hS:nJ S st)(hsz:l0+q0<=(QZ st).size)(h1:1<=q0)(hr:∀x,QX M A (rule x) (fun _ s'=>s'=s) E s)
  (h:∀n st',1<=n->n<=q0->Within st st' l0 q0->cj rk (QZ st') l0 n->Q (some n) st'):wpS M A E s (Xu l0 q0) Q st:=by
 rw[JD];dsimp only;refine Q2 (R_ (RM (I:=fun x c st'=>st'=st/\c=(none,x)/\cj rk (QZ st) l0 x) (Q:=fun c st'=>st'=st/\∃n,c=(none,n)/\1<=n/\n<=q0/\cj rk (QZ st) l0 n/\(n=q0\/R rk (QZ st) (l0+n)<R rk (QZ st) (l0+n-1))) ?_ ?_ ⟨rfl,rfl,fun i j h1 h2=>by rw[show i=j by lia];exact b_ _⟩) ?_)
 ·rintro x c st1 hx1 hx2 ⟨rfl,rfl,s1⟩;dsimp only;refine Q2 (jC L hk hS (by lia) (by lia) ?_);dsimp only;by_cases w:R rk (QZ st1) (l0+x)<R rk (QZ st1) (l0+x-1)
  ·rw[decide_eq_true w,if_pos rfl];exact Q7 ⟨rfl,x,rfl,hx1,by lia,s1,.inr w⟩
  rw[decide_eq_false w,if_neg (by simp)];exact Q7 ⟨rfl,rfl,s1.snoc (by(clear w s1 h hsz hS hk hx2 hr h1 L;omega)) (by lia)⟩
 ·rintro c st1 ⟨rfl,rfl,s1⟩;rw[OW h1]at s1 ⊢;exact⟨rfl,q0,rfl,h1,b_ _,s1,.inl rfl⟩
 rintro c st1 ⟨rfl,n,rfl,g1,g2,g3,g4⟩;dsimp only;by_cases e:n=q0
 ·rw[if_pos (by rw[e];exact beq_self_eq_true _)];exact Q7 (h n st1 g1 g2 .bY g3)
 rw[if_neg (by simpa using e)];have lt:=g4.resolve_left e;by_cases z:n > 1
 ·rw[if_pos z];refine Q2 (jC L hk hS (by lia) (by(clear lt e g4 g3 g1 h hS hk hr h1 L;lia)) ?_);dsimp only;by_cases w:R rk (QZ st1) l0<R rk (QZ st1) (l0+n-1)
  ·rw[decide_eq_true w,if_pos rfl];exact Q7 (h n st1 g1 g2 .bY g3)
  rw[decide_eq_false w,if_neg (by simp)];have all:∀k,l0<=k->k<l0+n->R rk (QZ st1) k=R rk (QZ st1) (l0+n-1):=fun k h1 h2=>by have kn:=Ib h1 h2;have a:=g3 0 (k-l0) (E_ _) kn;have b:=g3 (k-l0) (n-1) (Oo kn) (OL g1 Nu);rw[Ir h1]at a b;rw[Ag g1]at b;rw[Oq]at a;exact Ql b (m_ (Md w) a)
  refine Q2 (qd (rk:=rk) (lo:=l0) (n:=q0) (b_ _) (by(clear all w z lt e g4 g3 g1 h hsz hS hk hr h1 L;lia)) (by(clear all w z lt e g4 g3 g1 h hS hk hr h1 L;lia)) all fun st2 W2 r2=>?_);refine sN L (W2.kp.k.trans hk) (hS.kp W2.kp) (by rw[W2.kp.size];exact hsz) (by lia) (fun i j hij hj=>?_) hr fun m st3 k1 k2 W3 s3=>h m st3 k1 k2 (W2.trans W3) s3
  rw[r2,r2];by_cases y:j<n
  ·rw[all (l0+i) (by lia) (by lia),all (l0+j) (by lia) (by(clear hj hij r2 W2 all w z lt e g4 g3 g2 g1 h hsz hS hk hr h1 L;lia))];exact b_ _
  rw[show j=n by lia];by_cases y2:i<n
  ·rw[all (l0+i) (by lia) (by(clear y hj hij r2 W2 all w z lt e g4 g3 g2 g1 h hsz hS hk hr h1 L;lia))];exact LQ lt
  rw[show i=n by(clear y r2 W2 all w z lt e g4 g3 g2 g1 h hsz hS hk hr h1 L;lia)];exact b_ _
 rw[if_neg z];have n1:n=1:=by lia
 subst n1;refine sN L hk hS hsz (by lia) (fun i j hij hj=>?_) hr fun m st3 k1 k2 W3 s3=>h m st3 k1 k2 W3 s3
 by_cases y:i=j
 ·rw[y];exact b_ _
 rw[show i=0 by lia,show j=1 by lia];exact LQ lt
end
noncomputable def wrote(xs:Array QY)(q:Nat)(ys:Array QY):Array QY:=ys.toList.zipIdx.foldl (fun u (p,j)=>u.setIfInBounds (q+j) p) xs
theorem HH(i:Nat):VZ i=(do
 let st <-get
 let (some (s1,n1,pw),some (s2,n2,_)):=((Rc st)[i]?,(Rc st)[i+1]?) | unsupported "internal:list.sort.pending"
 set (Su (kindOf st) (QZ st) (((Rc st).setIfInBounds i (s1,n1+n2,pw)).eraseIdxIfInBounds (i+1)) (Vf st) (RJ st))
 let some k <-gal false (<-RN (QZ st) s2) (QZ st) s1 n1 0 | return false
 let (s1,n1):=(s1+k,n1-k)
 if n1 == 0 then return true
 let some n2 <-gal true (<-RN (QZ st) (s1+n1-1)) (QZ st) s2 n2 (n2-1) | return false
 if n2 == 0 then return true
 let x:=(QZ st).extract s1 s2
 let y:=(QZ st).extract s2 (s2+n2)
 let mm <-if n1<=n2 then mLo x y else mHi x y
 modify fun z=>setArr z (wrote (QZ z) s1 mm)
 return (RJ (<-get)).isNone):=rfl
theorem rS(q:Nat):∀(l:List QY) (n:Nat) (xs:Array QY),q+n+l.length<=xs.size->((l.zipIdx n).foldl (fun u (p,j)=>u.setIfInBounds (q+j) p) xs).toList=xs.toList.take (q+n)++(l++xs.toList.drop (q+n+l.length))
 | [],n,xs,_=>by simp
 |p::t,n,xs,h=>by
  rw[h_]at h;rw[OR,NR,rS q t (n+1) _ (by rw[OX];lia),OI];have hl:q+n<xs.toList.length:=by rw[g_];lia
  rw[show q+(n+1)=q+n+1 by lia,LU,List.take_set_of_le (b_ _),N9 hl,List.drop_set_of_lt (by lia),h_,show q+n+1+t.length=q+n+(t.length+1) by lia];simp
theorem xW{q:Nat}(h:q+ys.size<=xs.size):(wrote xs q ys).toList=xs.toList.take q++(ys.toList++xs.toList.drop (q+ys.size)):=by have:=rS q ys.toList 0 xs (by rw[g_];exact h);rw[g_]at this;exact this
theorem Du{c:List QY}(h:a.length=b.length)(hi:a.length<=i):(a++c)[i]?=(b++c)[i]?:=by rw[Mb hi,Mb (by lia),h]
section
variable{rk:QY->Nat}
theorem yR(h:xs.toList[i]?=some p):R rk xs i=rk p:=by unfold R;rw[<-gV,h]
theorem iS(h:cj rk xs lo n):Srt rk ((xs.toList.drop lo).take n):=by
 refine Nd.mpr fun i j hi hj hij=>?_;have hj':j<n:=by rw[C']at hj;lia
 have ei:=d_ hi;have ej:=d_ hj;rw[Nr,if_pos (by lia),M6]at ei ej;have:=h i j (by lia) hj';rw[yR ei,yR ej]at this;exact this
theorem ue{l k:Nat}(h:k<=n):l+k+(n-k)=l+n:=by rw[Np,Nl h]
theorem Dl(hn:lo+n<=xs.size)(h:Srt rk ((xs.toList.drop lo).take n)):cj rk xs lo n:=by
 intro i j hij hj;by_cases e:i=j
 ·rw[e];exact b_ _
 have len:((xs.toList.drop lo).take n).length=n:=by rw[C',K_,g_];lia
 have hi':i<((xs.toList.drop lo).take n).length:=by lia
 have hj':j<((xs.toList.drop lo).take n).length:=by lia
 have:=Nd.mp h i j hi' hj' (by lia);have ei:=d_ hi';have ej:=d_ hj';rw[Nr,if_pos (by lia),M6]at ei ej;rw[yR ei,yR ej];exact this
theorem va{m:Nat}(h1:cj rk xs lo n)(h2:cj rk xs (lo+n) m)(h:∀i j,i<n->j<m->R rk xs (lo+i)<=R rk xs (lo+n+j)):cj rk xs lo (n+m):=by
 intro i j hij hj;by_cases z:j<n
 ·exact h1 i j hij z
 by_cases w:i<n
 ·have:=h i (j-n) w (NT (Md z) hj);rw[ue (Md z)]at this;exact this
 have:=h2 (i-n) (j-n) (Pp hij n) (NT (Md z) hj);rw[ue (Md z),ue (Md w)]at this;exact this
theorem mK{T:List QY}{k:Nat}(h:k<=n):(T.drop lo).take n=(T.drop lo).take k++(T.drop (lo+k)).take (n-k):=by
 conv=>lhs;rw[show n=k+(n-k)from(Nl h).symm,OH,N3]
theorem IP{r:Array QY}{k m c:Nat}(hk:k<=n)(hc:c<=m)(hsz:lo+n+m<=xs.size)(o1:cj rk xs lo n)(o2:cj rk xs (lo+n) m)
  (a1:∀p∈(xs.toList.drop lo).take k,∀q∈(xs.toList.drop (lo+n)).take m,rk p<=rk q) (a2:∀p∈(xs.toList.drop lo).take n,∀q∈(xs.toList.drop (lo+n+c)).take (m-c),rk p<=rk q)
  (hr:Res rk ((xs.toList.drop (lo+k)).take (n-k)) ((xs.toList.drop (lo+n)).take c) r.toList) :
  (wrote xs (lo+k) r).Perm xs/\(∀i,(i<lo\/lo+n+m<=i)->(wrote xs (lo+k) r)[i]?=xs[i]?)/\cj rk (wrote xs (lo+k) r) lo (n+m):=by
 have lr:r.size=n-k+c:=by have:=hr.1.length_eq;rw[e_,C',C',K_,K_,g_,g_]at this;lia
 have wl:(wrote xs (lo+k) r).toList=xs.toList.take lo++((xs.toList.drop lo).take k++(r.toList++((xs.toList.drop (lo+n+c)).take (m-c)++xs.toList.drop (lo+n+m)))):=by rw[xW (by lia),OH,l_,lr,<-Np,ue hk];congr 3;have:=(G_ (m-c) (xs.toList.drop (lo+n+c))).symm;rw[N3,ue hc]at this;exact this
 have xl:xs.toList=xs.toList.take lo++((xs.toList.drop lo).take k++((xs.toList.drop (lo+k)).take (n-k)++(xs.toList.drop (lo+n)).take c++((xs.toList.drop (lo+n+c)).take (m-c)++xs.toList.drop (lo+n+m)))):=by have e1:=(G_ lo xs.toList).symm;have e2:=(G_ k (xs.toList.drop lo)).symm;have e3:=(G_ (n-k) (xs.toList.drop (lo+k))).symm;have e4:=(G_ c (xs.toList.drop (lo+n))).symm;have e5:=(G_ (m-c) (xs.toList.drop (lo+n+c))).symm;rw[N3]at e2 e3 e4 e5;rw[ue hk]at e3;rw[ue hc]at e5;rw[l_,<-e5,<-e4,<-e3,<-e2,<-e1]
 have sz:(wrote xs (lo+k) r).size=xs.size:=by have:=congrArg N_ wl;have h2:=congrArg N_ xl;have h3:=hr.1.length_eq;simp only[e_]at this h2 h3;have e1:=@g_ _ (wrote xs (lo+k) r);have e2:=@g_ _ xs;lia
 have X:(xs.toList.drop lo).take n=(xs.toList.drop lo).take k++(xs.toList.drop (lo+k)).take (n-k):=mK hk;have Y:(xs.toList.drop (lo+n)).take m=(xs.toList.drop (lo+n)).take c++(xs.toList.drop (lo+n+c)).take (m-c):=mK hc;have sX:=iS o1;have sY:=iS o2;rw[X]at sX;rw[Y]at sY;obtain⟨sx1,sx2,sx⟩:=D_.mp sX;obtain⟨sy1,sy2,sy⟩:=D_.mp sY;refine⟨Mw.mpr ?_,fun i hi=>?_,Dl (by lia) ?_⟩
 ·rw[wl]
  conv=>rhs;rw[xl]
  exact Mk _ (Mk _ (Pc _ hr.1))
 ·rw[<-gV,<-gV,wl]
  conv=>rhs;rw[xl]
  have hl1:(xs.toList.take lo).length=lo:=by rw[C',g_];lia
  rcases hi with hi|hi
  ·rw[MT (by lia),MT (by lia)]
  have hl2:((xs.toList.drop lo).take k).length=k:=by rw[C',K_,g_];lia
  have hl3:r.toList.length=n-k+c:=by rw[g_];exact lr
  have hl4:=hr.1.length_eq;rw[<-l_,<-l_]
  conv=>rhs;rw[<-l_,<-l_]
  refine Du ?_ ?_
  ·rw[e_,e_,e_,e_,hl4]
  rw[e_,e_,hl1,hl2,hl3];lia
 have hl1:(xs.toList.take lo).length=lo:=by rw[C',g_];lia
 have e:((wrote xs (lo+k) r).toList.drop lo).take (n+m)=(xs.toList.drop lo).take k++(r.toList++(xs.toList.drop (lo+n+c)).take (m-c)):=by rw[wl,List.drop_left' hl1,<-l_,<-l_,List.take_left',l_];rw[e_,e_,C',C',K_,K_,g_,g_];lia
 rw[e];have mr:∀q∈r.toList,q∈(xs.toList.drop (lo+k)).take (n-k)\/q∈(xs.toList.drop (lo+n)).take c:=fun q hq=>x_.mp (hr.1.mem_iff.mp hq);refine D_.mpr ⟨sx1,D_.mpr ⟨hr.2,sy2,fun p hp q hq=>?_⟩,fun p hp q hq=>?_⟩
 ·rcases mr p hp with hp|hp
  ·exact a2 p (by rw[X];exact r_ _ hp) q hq
  exact sy p hp q hq
 rcases x_.mp hq with hq|hq
 ·rcases mr q hq with hq|hq
  ·exact sx p hp q hq
  exact a1 p hp q (by rw[Y];exact y_ _ hq)
 exact a1 p hp q (by rw[Y];exact r_ _ hq)
end
theorem Ei{α:Type}{ps:Array α}{pre post:List α}{x y:α}(h:ps.toList=pre++x::y::post):ps[pre.length]?=some x/\ps[pre.length+1]?=some y:=by
 rw[<-gV,<-gV,h];constructor
 ·rw[Mb (b_ _),Ni];rfl
 rw[Mb (by lia),MY];rfl
theorem Aj{α:Type}{ps:Array α}{pre post:List α}{x y z:α}(h:ps.toList=pre++x::y::post):((ps.setIfInBounds pre.length z).eraseIdxIfInBounds (pre.length+1)).toList=pre++z::post:=by
 have hs:ps.size=pre.length+(post.length+2):=by rw[<-g_,h,e_];rfl
 have hb:pre.length+1<(ps.setIfInBounds pre.length z).size:=by rw[OX];lia
 unfold Array.eraseIdxIfInBounds;rw[dif_pos hb,Array.toList_eraseIdx,OI,h];rw[Pl _ _ (b_ _),Ni,PQ,List.eraseIdx_append_of_length_le (by lia),MY]
 rfl
section
variable{M:Ts}{A:Rh}{E:QR->QV->Prop}{s:QV}{kd:R3}{rk:QY->Nat}{S:QY->Prop}
theorem Hs{σ:Type}{v st:σ}{Q:PUnit->σ->Prop}(q:Q ⟨⟩ v):wpS M A E s (set v:StateT σ Sem PUnit) Q st:=by unfold wpS;rw[StateT.run_set];exact QU ⟨rfl,q⟩
structure Mgd (rk:QY->Nat) (st st':Q4) (lo n:Nat) (ps:List (Nat×Nat×Nat)):Prop where
 k:kindOf st'=kindOf st
 f:RJ st'=none
 p:(Rc st').toList=ps
 a:(QZ st').Perm (QZ st)
 out:∀i,(i<lo\/lo+n<=i)->(QZ st')[i]?=(QZ st)[i]?
 srt:cj rk (QZ st') lo n
theorem IH{pre post:List (Nat×Nat×Nat)}{s1 n1 pw n2 p2:Nat}{Q:Bool->Q4->Prop}(L:cP M A E s kd rk S)(hk:kindOf st=kd)(hS:nJ S st)(hf:RJ st=none)(hr:∀x,QX M A (rule x) (fun _ s'=>s'=s) E s)
  (hp:(Rc st).toList=pre++(s1,n1,pw)::(s1+n1,n2,p2)::post) (h1:1<=n1) (h2:1<=n2) (hsz:s1+n1+n2<=(QZ st).size) (o1:cj rk (QZ st) s1 n1) (o2:cj rk (QZ st) (s1+n1) n2)
  (h:∀st',Mgd rk st st' s1 (n1+n2) (pre++(s1,n1+n2,pw)::post)->Q true st'):wpS M A E s (VZ pre.length) Q st:=by
 rw[HH];refine Q2 (TM ?_);dsimp only;obtain⟨e1,e2⟩:=Ei hp;rw[e1,e2];dsimp only;refine Q2 (Hs ?_);generalize hst1:Su (kindOf st) (QZ st) (((Rc st).setIfInBounds pre.length (s1,n1+n2,pw)).eraseIdxIfInBounds (pre.length+1)) (Vf st) (RJ st)=st1;have k1:kindOf st1=kd:=by rw[<-hst1];exact hk
 have a1:QZ st1=QZ st:=by rw[<-hst1]
 have f1:RJ st1=none:=by rw[<-hst1];exact hf
 have p1:(Rc st1).toList=pre++(s1,n1+n2,pw)::post:=by rw[<-hst1];exact Aj hp
 have SA:∀(i:Nat) p,(QZ st)[i]?=some p->S p:=fun i p e=>hS.at e;have gt:∀i,i<(QZ st).size->∃p,(QZ st)[i]?=some p:=fun i hi=>⟨_,j_ hi⟩;have RR:∀{i:Nat}{p:QY},(QZ st)[i]?=some p->R rk (QZ st) i=rk p:=fun{i p} e=>by unfold R;rw[e]
 obtain⟨ky,hky⟩:=gt (s1+n1) (by lia);have o8:cj rk (QZ st) s1 (n1+n2)->Q true st1:=fun z=>h st1 ⟨k1.trans hk.symm,f1,p1,by rw[a1],fun i _=>by rw[a1],by rw[a1];exact z⟩
 refine Q2 (aX hky (Q2 (jH L k1 (by lia) (by lia) SA (SA _ _ hky) (fun i j p q hij hj hp hq=>?_) fun k hk1 g1 g2=>?_)))
 ·have:=o1 i j hij hj;rw[RR hp,RR hq]at this;exact this
 dsimp only;have below:∀i,i<k->∀j,j<n2->R rk (QZ st) (s1+i)<=R rk (QZ st) (s1+n1+j):=fun i hi j hj=>by obtain⟨p,hp⟩:=gt (s1+i) (by lia);have a:=g1 i p hi hp;rw[if_neg (by simp)]at a;have b:=o2 0 j (E_ _) hj;rw[Oq,RR hky]at b;rw[RR hp];exact m_ a b
 by_cases z:n1-k=0
 ·rw[if_pos (by rw[z];rfl)];exact Q7 (o8 (va o1 o2 fun i j hi hj=>below i (by lia) j hj))
 rw[if_neg (by simpa using z)];obtain⟨la,hla⟩:=gt (s1+n1-1) (by lia);rw[ue hk1];refine Q2 (aX hla (Q2 (jH L k1 (by lia) (by omega) SA (SA _ _ hla) (fun i j p q hij hj hp hq=>?_) fun c hc1 d1 d2=>?_)))
 ·have:=o2 i j hij hj;rw[RR hp,RR hq]at this;exact this
 dsimp only;have above:∀i,i<n1->∀j,c<=j->j<n2->R rk (QZ st) (s1+i)<=R rk (QZ st) (s1+n1+j):=fun i hi j hj hj2=>by
  obtain⟨p,hp⟩:=gt (s1+n1+j) (by lia);have a:=d2 j p hj hj2 hp;rw[if_pos rfl]at a;have hn1:1<=n1:=by lia
  have b:=o1 i (n1-1) (by lia) (OL hn1 Nu);rw[Ag hn1,RR hla]at b;rw[RR hp];exact m_ b a
 by_cases w:c=0
 ·rw[if_pos (by rw[w];rfl)];exact Q7 (o8 (va o1 o2 fun i j hi hj=>above i hi j (by lia) hj))
 rw[if_neg (by simpa using w)];have ex:((QZ st).extract (s1+k) (s1+n1)).toList=((QZ st).toList.drop (s1+k)).take (n1-k):=by have:=ni (QZ st) (s1+k) (n1-k);rw[ue hk1]at this;exact this
 have ey:=ni (QZ st) (s1+n1) c;have zx:((QZ st).extract (s1+k) (s1+n1)).size=n1-k:=by rw[PR];lia
 have zy:((QZ st).extract (s1+n1) (s1+n1+c)).size=c:=by rw[PR];lia
 have T2:∀{i:Nat}{p:QY},(QZ st).toList[i]?=some p->(QZ st)[i]?=some p:=fun{i p} e=>by rw[gV]at e;exact e
 have sX:=iS o1;have sY:=iS o2;rw[mK hk1]at sX;rw[mK hc1]at sY;have H:LoOk rk S ((QZ st).extract (s1+k) (s1+n1)) ((QZ st).extract (s1+n1) (s1+n1+c)):=by
  refine⟨by rw[ex];exact(D_.mp sX).2.1,by rw[ey];exact(D_.mp sY).1,fun i p e=>?_,fun i p e=>?_,by lia,by lia,fun p e u hu=>?_,fun p e u hu=>?_⟩
  ·rw[Nv]at e;split at e
   ·exact SA _ _ e
   cases e
  ·rw[Nv]at e;split at e
   ·exact SA _ _ e
   cases e
  ·rw[Nv,if_pos (by lia),Oq,hky]at e;cases e;rw[ex]at hu;obtain⟨j,hj,ej⟩:=dD hu;have:=g2 (k+j) u (by lia) (by lia) (by rw[<-Np];exact T2 ej);rw[if_neg (by simp)]at this;exact LQ this
  rw[zx,Nv,if_pos (by lia),show s1+k+(n1-k-1)=s1+n1-1 by lia,hla]at e;cases e;rw[ey]at hu;obtain⟨j,hj,ej⟩:=dD hu;have:=d1 j u hj (T2 ej);rw[if_pos rfl]at this;exact LQ this
 have fin:∀r st2,Keep st1 st2->Res rk ((QZ st).extract (s1+k) (s1+n1)).toList ((QZ st).extract (s1+n1) (s1+n1+c)).toList r.toList->wpS M A E s (do
   modify fun z=>setArr z (wrote (QZ z) (s1+k) r)
   let g <-get
   pure (RJ g).isNone:StateT Q4 Sem Bool) Q st2:=fun r st2 K hres=>by
  rw[ex,ey]at hres;refine Q2 (UI (Q2 (TM (Q7 ?_))));have hf2:RJ st2=none:=K.f.trans f1;have aa:QZ st2=QZ st:=K.a.trans a1;have q1:∀p∈((QZ st).toList.drop s1).take k,∀q∈((QZ st).toList.drop (s1+n1)).take n2,rk p<=rk q:=fun p hp q hq=>by obtain⟨i,hi,ei⟩:=dD hp;obtain⟨j,hj,ej⟩:=dD hq;have:=below i hi j hj;rw[RR (T2 ei),RR (T2 ej)]at this;exact this
  have q2:∀p∈((QZ st).toList.drop s1).take n1,∀q∈((QZ st).toList.drop (s1+n1+c)).take (n2-c),rk p<=rk q:=fun p hp q hq=>by obtain⟨i,hi,ei⟩:=dD hp;obtain⟨j,hj,ej⟩:=dD hq;have:=above i hi (c+j) (by lia) (by lia);rw[<-Np,RR (T2 ei),RR (T2 ej)]at this;exact this
  obtain⟨m1,m2,m3⟩:=IP (rk:=rk) (xs:=QZ st) (r:=r) (lo:=s1) (k:=k) (n:=n1) (m:=n2) (c:=c) hk1 hc1 (by omega) o1 o2 q1 q2 hres;rw[show(RJ (setArr st2 (wrote (QZ st2) (s1+k) r))).isNone=true by show(RJ st2).isNone=true;rw[hf2];rfl];refine h _ ⟨K.k.trans (k1.trans hk.symm),hf2,?_,?_,fun i hi=>?_,?_⟩
  ·show(Rc st2).toList=_;rw[K.p];exact p1
  ·show(wrote (QZ st2) (s1+k) r).Perm _;rw[aa];exact m1
  ·show(wrote (QZ st2) (s1+k) r)[i]?=_;rw[aa];exact m2 i (by lia)
  show cj rk (wrote (QZ st2) (s1+k) r) _ _;rw[aa];exact m3
 by_cases v:n1-k<=c
 ·rw[if_pos v];exact Q2 (J2 L H k1 fin hr)
 rw[if_neg v];exact Q2 (HN L H k1 fin hr)
end
abbrev CS:=Option Unit×Unit
abbrev LS:=Option Unit×Nat
noncomputable def ph(w0:Nat):StateT Q4 Sem (ForInStep CS):=do
 let g <-get
 match(if(Rc g).size > 1 then(Rc g)[(Rc g).size-2]? else none)with
 |some (_,_,old)=>
  if old<=w0 then pure (Q6 (none,()))
  else do
   let b <-VZ ((Rc g).size-2)
   if(!b)=true then pure (Q6 (some (),()))else pure (Rg (none,()))
 | _=>pure (Q6 (none,()))
noncomputable def t6(q0 n:Nat):StateT Q4 Sem (ForInStep LS):=do
 modify fun z=>setPending z ((Rc z).push (q0,n,0))
 pure (Rg (none,q0+n))
def tl(sz q0 n:Nat):StateT Q4 Sem (ForInStep LS):=do
 let g <-get
 match(Rc g).back? with
 |some (s1,n1,_)=>do
  let c <-forIn [0:sz] ((none,()):CS) fun _ _=>ph (power' sz (2*s1+n1) (2*s1+n1+n1+n) sz)
  match c.1 with
  |some r=>pure (Q6 (some r,q0))
  |none=>do
   modify fun z=>setPending z ((Rc z).modify ((Rc z).size-1) fun x=>(x.1,x.2.1,power' sz (2*s1+n1) (2*s1+n1+n1+n) sz))
   t6 q0 n
 | _=>t6 q0 n
def mQ(sz q0:Nat):StateT Q4 Sem (ForInStep LS):=
 if q0>=sz then pure (Q6 (none,q0))else do
  let f <-Xu q0 (sz-q0)
  match f with
  |some n=>
   if n<Wo sz sz 0 then do
    rule "list.sort.binary-insertion"
    let b <-Yn q0 (min (sz-q0) (Wo sz sz 0)) n
    if(!b)=true then pure (Q6 (some (),q0))else tl sz q0 (min (sz-q0) (Wo sz sz 0))
   else tl sz q0 n
  | _=>pure (Q6 (some (),q0))
noncomputable def pick(ps:Array (Nat×Nat×Nat)):Nat:=
 if QN (fun x=>decide (x<ps[ps.size-2+1]?.elim 0 fun y=>y.2.1)) (if ps.size-2 > 0 then NK (fun y=>y.2.1) ps[ps.size-2-1]? else none)=true then ps.size-2-1 else ps.size-2
def yE:StateT Q4 Sem (ForInStep CS):=do
 let g <-get
 if(Rc g).size<=1 then pure (Q6 (none,()))
 else do
  let b <-VZ (pick (Rc g))
  if(!b)=true then pure (Q6 (some (),()))else pure (Rg (none,()))
theorem Ku:sortRuns'=(do
 let g <-get
 let c <-forIn [0:(QZ g).size] ((none,0):LS) fun _ c=>mQ (QZ g).size c.2
 match c.1 with
 |some r=>pure r
 |none=>do
  let d <-forIn [0:(QZ g).size] ((none,()):CS) fun _ _=>yE
  match d.1 with
  |some r=>pure r
  |none=>pure ()):=by
 rw[sortRuns'_eq];dsimp only;refine congrArg (bind get) (funext fun g=>?_);refine congr (congrArg bind ?_) (funext fun c=>?_)
 ·refine congrArg (forIn _ _) (funext fun _=>funext fun c=>?_);unfold mQ;refine ite_congr rfl (fun _=>rfl) (fun _=>?_);refine congrArg (bind _) (funext fun f=>?_);cases f with
  |none=>rfl
  |some n=>
   dsimp only;refine ite_congr rfl (fun _=>congrArg (bind _) (funext fun _=>congrArg (bind _) (funext fun b=>ite_congr rfl (fun _=>rfl) (fun _=>?_)))) (fun _=>?_)
   all_goals
    unfold tl;refine congrArg (bind _) (funext fun g=>?_);generalize (Rc g).back?=bk;rcases bk with _|⟨s1,n1,z⟩
    ·rfl
    dsimp only;refine congr (congrArg bind ?_) (funext fun c=>?_)
    ·refine congrArg (forIn _ _) (funext fun _=>funext fun c=>?_);unfold ph;refine congrArg (bind _) (funext fun g=>?_);generalize (if(Rc g).size > 1 then(Rc g)[(Rc g).size-2]? else none)=o;rcases o with _|⟨_,_,_⟩ <;> rfl
    rcases c with⟨_ | _,_⟩ <;> rfl
 rcases c with⟨_ | _,_⟩
 ·dsimp only;refine congr (congrArg bind ?_) (funext fun c=>?_)
  ·rfl
  rcases c with⟨_ | _,_⟩ <;> rfl
 rfl
def Pd(rk:QY->Nat)(xs:Array QY):List (Nat×Nat×Nat)->Nat->Nat->Prop
 | [],a,b=>a=b
 | (c,n,_)::t,a,b=>c=a/\1<=n/\cj rk xs c n/\Pd rk xs t (a+n) b
section
variable{rk:QY->Nat}
theorem Pd.le :∀{l:List (Nat×Nat×Nat)}{a b:Nat},Pd rk xs l a b->a+l.length<=b
 | [],_,_,h=>NB h
 | (c,n,_)::t,a,b,h=>by have:=h.2.2.2.le;have:=h.2.1;rw[h_];lia
theorem Pd.congr :∀{l:List (Nat×Nat×Nat)}{a b:Nat},Pd rk xs l a b->(∀i,a<=i->i<b->R rk ys i=R rk xs i)->Pd rk ys l a b
 | [],_,_,h,_=>h
 | (c,n,_)::t,a,b,h,e=>by have le:=h.2.2.2.le;have ca:=h.1;refine⟨h.1,h.2.1,fun i j hij hj=>?_,h.2.2.2.congr fun i h1 h2=>e i (by lia) h2⟩;rw[e _ (by lia) (by lia),e _ (by lia) (by lia)];exact h.2.2.1 i j hij hj
theorem fA{xs:Array QY}:∀{l m:List (Nat×Nat×Nat)}{a b:Nat},Pd rk xs (l++m) a b↔∃c,Pd rk xs l a c/\Pd rk xs m c b
 | [],m,a,b=>⟨fun h=>⟨a,rfl,h⟩,fun⟨c,e,h⟩=>by cases (show a=c from e);exact h⟩
 | (c,n,_)::t,m,a,b=>⟨fun h=>by obtain⟨d,h1,h2⟩:=fA.mp h.2.2.2;exact⟨d,⟨h.1,h.2.1,h.2.2.1,h1⟩,h2⟩,fun⟨d,h,h2⟩=>⟨h.1,h.2.1,h.2.2.1,fA.mpr ⟨d,h.2.2.2,h2⟩⟩⟩
theorem Pd.modify {w0:Nat}:∀{l:List (Nat×Nat×Nat)}{i a b:Nat},Pd rk xs l a b->Pd rk xs (l.modify i fun x=>(x.1,x.2.1,w0)) a b
 | [],i,_,_,h=>by cases i <;> exact h
 | (c,n,_)::t,0,a,b,h=>⟨h.1,h.2.1,h.2.2.1,h.2.2.2⟩
 | (c,n,_)::t,i+1,a,b,h=>⟨h.1,h.2.1,h.2.2.1,h.2.2.2.modify⟩
theorem ug{α:Type}:∀{l:List α}{i:Nat},i+1<l.length->∃pre x y post,l=pre++x::y::post/\pre.length=i
 |x::y::t,0,_=>⟨[],x,y,t,rfl,rfl⟩
 | [_],0,h=>absurd h (by simp)
 |x::t,i+1,h=>by obtain⟨p,a,b,q,e,f⟩:=ug (l:=t) (i:=i) (by rw[h_]at h;lia);exact⟨x::p,a,b,q,by rw[e];rfl,by rw[h_,f]⟩
 | [],_,h=>absurd h (by simp)
end
section
variable{M:Ts}{A:Rh}{E:QR->QV->Prop}{s:QV}{kd:R3}{rk:QY->Nat}{S:QY->Prop}{a0:Array QY}
structure Iv (kd:R3) (rk:QY->Nat) (a0:Array QY) (q0:Nat) (st:Q4):Prop where
 k:kindOf st=kd
 f:RJ st=none
 a:(QZ st).Perm a0
 pd:Pd rk (QZ st) (Rc st).toList 0 q0
theorem Iv.all (h:Iv kd rk a0 q0 st)(hS:∀p∈a0.toList,S p):nJ S st:=fun p hp=>hS p ((Mw.mp h.a).mem_iff.mp hp)
theorem vK{Q:Bool->Q4->Prop}(L:cP M A E s kd rk S)(hS:∀p∈a0.toList,S p)(hr:∀x,QX M A (rule x) (fun _ s'=>s'=s) E s)(I:Iv kd rk a0 q0 st)(hq:q0<=a0.size)(hi:i+1<(Rc st).size)
  (h:∀st',Iv kd rk a0 q0 st'->(Rc st').size+1=(Rc st).size->(∀j,q0<=j->(QZ st')[j]?=(QZ st)[j]?)->Q true st'):wpS M A E s (VZ i) Q st:=by
 obtain⟨pre,⟨s1,n1,pw⟩,⟨s2,n2,p2⟩,post,e,el⟩:=ug (l:=(Rc st).toList) (i:=i) (by rw[g_];exact hi);subst el;have P:=I.pd;rw[e]at P;obtain⟨c,P1,e1,k1,o1,e2,k2,o2,P3⟩:=fA.mp P;subst e1;subst e2;have le:=P3.le;have sz:=I.a.size_eq;refine IH L I.k (I.all hS) I.f hr e k1 k2 (by lia) o1 o2 fun st' m=>?_
 have same:∀j,(j<s1\/s1+n1+n2<=j)->R rk (QZ st') j=R rk (QZ st) j:=fun j hj=>dJ (m.out j (by lia))
 refine h st' ⟨m.k.trans I.k,m.f,m.a.trans I.a,?_⟩ ?_ fun j hj=>m.out j (by lia)
 ·rw[m.p];refine fA.mpr ⟨s1,P1.congr fun j _ hj=>same j (by lia),rfl,by lia,m.srt,?_⟩;rw[<-Np];exact P3.congr fun j hj _=>same j (by lia)
 rw[<-g_,<-g_,m.p,e];simp only[e_,h_];lia
theorem xo{w0:Nat}{Q:ForInStep CS->Q4->Prop}(L:cP M A E s kd rk S)(hS:∀p∈a0.toList,S p)(hr:∀x,QX M A (rule x) (fun _ s'=>s'=s) E s)(I:Iv kd rk a0 q0 st)(hq:q0<=a0.size)
  (h:∀st' (d:Bool),Iv kd rk a0 q0 st'->(∀j,q0<=j->(QZ st')[j]?=(QZ st)[j]?)->Q (if d=true then Q6 (none,())else Rg (none,())) st'):wpS M A E s (ph w0) Q st:=by
 unfold ph;refine Q2 (TM ?_);generalize ho:(if(Rc st).size > 1 then(Rc st)[(Rc st).size-2]? else none)=o;rcases o with _|⟨x,y,old⟩
 ·exact Q7 (h st true I fun _ _=>rfl)
 dsimp only;have h1:(Rc st).size > 1:=by
  by_cases z:(Rc st).size > 1
  ·exact z
  rw[if_neg z]at ho;cases ho
 by_cases w:old<=w0
 ·rw[if_pos w];exact Q7 (h st true I fun _ _=>rfl)
 rw[if_neg w];refine Q2 (vK L hS hr I hq (by lia) fun st' I' _ e=>?_);rw[if_neg (by simp)];exact Q7 (h st' false I' e)
theorem si{Q:ForInStep LS->Q4->Prop}(I:Iv kd rk a0 q0 st)(hn:1<=n)(o:cj rk (QZ st) q0 n)(h:∀st',Iv kd rk a0 (q0+n) st'->Q (Rg (none,q0+n)) st'):wpS M A E s (t6 q0 n) Q st:=by unfold t6;refine Q2 (UI (Q7 (h _ ⟨I.k,I.f,I.a,?_⟩)));show Pd rk (QZ st) ((Rc st).push (q0,n,0)).toList 0 (q0+n);rw[MV];exact fA.mpr ⟨q0,I.pd,rfl,hn,o,rfl⟩
theorem G2{Q:ForInStep LS->Q4->Prop}(L:cP M A E s kd rk S)(hS:∀p∈a0.toList,S p)(hr:∀x,QX M A (rule x) (fun _ s'=>s'=s) E s)(I:Iv kd rk a0 q0 st)(hq:q0<=a0.size)(hn:1<=n)(o:cj rk (QZ st) q0 n)
  (h:∀st',Iv kd rk a0 (q0+n) st'->Q (Rg (none,q0+n)) st'):wpS M A E s (tl a0.size q0 n) Q st:=by
 unfold tl;refine Q2 (TM ?_);generalize (Rc st).back?=bk;rcases bk with _|⟨s1,n1,z⟩
 ·exact si I hn o h
 dsimp only;generalize power' a0.size (2*s1+n1) (2*s1+n1+n1+n) a0.size=w0;refine Q2 (R_ (RM (I:=fun _ c st'=>c=(none,())/\Iv kd rk a0 q0 st'/\∀j,q0<=j->(QZ st')[j]?=(QZ st)[j]?) (Q:=fun c st'=>c=(none,())/\Iv kd rk a0 q0 st'/\∀j,q0<=j->(QZ st')[j]?=(QZ st)[j]?) ?_ (fun _ _ z=>z) ⟨rfl,I,fun _ _=>rfl⟩) ?_)
 ·rintro x c st1 _ _ ⟨rfl,I1,e1⟩;refine xo L hS hr I1 hq fun st2 d I2 e2=>?_;cases d
  ·exact⟨rfl,I2,fun j hj=>(e2 j hj).trans (e1 j hj)⟩
  exact⟨rfl,I2,fun j hj=>(e2 j hj).trans (e1 j hj)⟩
 rintro c st1 ⟨rfl,I1,e1⟩;dsimp only;refine Q2 (UI ?_);refine si ⟨I1.k,I1.f,I1.a,?_⟩ hn (fun i j hij hj=>?_) h
 ·show Pd rk (QZ st1) ((Rc st1).modify ((Rc st1).size-1) fun x=>(x.1,x.2.1,w0)).toList 0 q0;rw[Array.toList_modify];exact I1.pd.modify
 show R rk (QZ st1) (q0+i)<=R rk (QZ st1) (q0+j);rw[dJ (rk:=rk) (e1 (q0+i) (by lia)),dJ (rk:=rk) (e1 (q0+j) (by lia))];exact o i j hij hj
theorem Iv.within (I:Iv kd rk a0 q0 st)(W:Within st st' q0 n):Iv kd rk a0 q0 st':=⟨W.kp.k.trans I.k,W.kp.f.trans I.f,W.kp.a.trans I.a,by rw[W.kp.p];exact I.pd.congr fun i _ hi=>dJ (W.out i (.inl hi))⟩
theorem vQ{Q:ForInStep LS->Q4->Prop}(L:cP M A E s kd rk S)(hS:∀p∈a0.toList,S p)(hr:∀x,QX M A (rule x) (fun _ s'=>s'=s) E s)(I:Iv kd rk a0 q0 st)(hq:q0<=a0.size)
  (h1:q0=a0.size->Q (Q6 (none,q0)) st) (h2:∀n st',1<=n->q0+n<=a0.size->Iv kd rk a0 (q0+n) st'->Q (Rg (none,q0+n)) st'):wpS M A E s (mQ a0.size q0) Q st:=by
 unfold mQ;by_cases z:q0>=a0.size
 ·rw[if_pos z];exact Q7 (h1 (by lia))
 rw[if_neg z];have qz:=LQ (OV z);have sz:=I.a.size_eq;refine Q2 (vj L I.k (I.all hS) (by lia) (by lia) hr fun n st1 g1 g2 W1 o1=>?_);dsimp only;have I1:=I.within W1;by_cases w:n<Wo a0.size a0.size 0
 ·rw[if_pos w];generalize Wo a0.size a0.size 0=mr at w ⊢;refine Q2 (Vg (RA (hr _) (fun _ _ z=>⟨z,?_⟩) fun _ _ z=>z));have sz1:=I1.a.size_eq;have f1:n<=min (a0.size-q0) mr:=Nat.le_min.mpr ⟨g2,LQ w⟩;have f4:q0+min (a0.size-q0) mr<=a0.size:=m_ (MZ (Nat.min_le_left ..) q0) (NB (Nl qz));have f5:=m_ g1 f1;generalize min (a0.size-q0) mr=fr at f1 f4 f5 ⊢;refine Q2 (Fe L I1.k (I1.all hS) (by rw[sz1];exact f4) f1 o1 fun st2 W2 o2=>?_);rw[if_neg (by simp)];exact G2 L hS hr (I1.within W2) hq f5 o2 fun st3 I3=>h2 _ st3 f5 f4 I3
 rw[if_neg w];exact G2 L hS hr I1 hq g1 o1 fun st3 I3=>h2 _ st3 g1 (by lia) I3
theorem Fz{ps:Array (Nat×Nat×Nat)}(h:1<ps.size):pick ps+1<ps.size:=by
 unfold pick;generalize QN (fun x=>decide (x<ps[ps.size-2+1]?.elim 0 fun y=>y.2.1)) (if ps.size-2 > 0 then NK (fun y=>y.2.1) ps[ps.size-2-1]? else none)=b;cases b
 ·rw[if_neg (by simp)];lia
 rw[if_pos rfl];lia
theorem oA{Q:Unit->Q4->Prop}(L:cP M A E s kd rk S)(hS:∀p∈(QZ st).toList,S p)(hr:∀x,QX M A (rule x) (fun _ s'=>s'=s) E s)(hk:kindOf st=kd)(hf:RJ st=none)(hp:Rc st=#[])
  (h:∀st',(QZ st').Perm (QZ st)->RJ st'=none->Srt rk (QZ st').toList->Q () st'):wpS M A E s sortRuns' Q st:=by
 rw[Ku];refine Q2 (TM ?_);have I0:Iv kd rk (QZ st) 0 st:=⟨hk,hf,O8 _,by rw[hp];exact rfl⟩;revert I0 hS h;generalize QZ st=a0;intro hS h I0;refine Q2 (R_ (RM (I:=fun x c st'=>∃q0,c=(none,q0)/\x<=q0/\q0<=a0.size/\Iv kd rk a0 q0 st') (Q:=fun c st'=>c=(none,a0.size)/\Iv kd rk a0 a0.size st') ?_ ?_ ⟨0,rfl,b_ _,E_ _,I0⟩) ?_)
 ·rintro x c st1 _ _ ⟨q0,rfl,g1,g2,I⟩;exact vQ L hS hr I g2 (fun e=>by subst e;exact⟨rfl,I⟩) fun n st2 k1 k2 I2=>⟨q0+n,rfl,by lia,k2,I2⟩
 ·rintro c st1 ⟨q0,rfl,g1,g2,I⟩;have e:q0=a0.size:=by lia
  subst e;exact⟨rfl,I⟩
 rintro c st1 ⟨rfl,I1⟩;dsimp only;refine Q2 (R_ (RM (I:=fun x c st'=>c=(none,())/\Iv kd rk a0 a0.size st'/\((Rc st').size<=1\/(Rc st').size+x<=a0.size)) (Q:=fun c st'=>c=(none,())/\Iv kd rk a0 a0.size st'/\(Rc st').size<=1) ?_ ?_ ⟨rfl,I1,.inr ?_⟩) ?_)
 ·rintro x c st2 _ _ ⟨rfl,I2,g⟩;unfold yE;refine Q2 (TM ?_);by_cases z:(Rc st2).size<=1
  ·rw[if_pos z];exact Q7 ⟨rfl,I2,z⟩
  rw[if_neg z];refine Q2 (vK L hS hr I2 (b_ _) (Fz (by lia)) fun st3 I3 e _=>?_);rw[if_neg (by simp)];exact Q7 ⟨rfl,I3,.inr (by lia)⟩
 ·rintro c st2 ⟨rfl,I2,g⟩;exact⟨rfl,I2,by lia⟩
 ·have:=I1.pd.le;rw[g_]at this;lia
 rintro c st2 ⟨rfl,I2,g⟩;refine Q7 (h st2 I2.a I2.f ?_);have P:=I2.pd;have sz:=I2.a.size_eq;have lp:(Rc st2).toList.length<=1:=by rw[g_];exact g
 have o:cj rk (QZ st2) 0 a0.size:=by
  generalize (Rc st2).toList=l at P lp
  match l,P,lp with
  | [],P,_=>
   have e:0=a0.size:=P;intro i j _ hj;lia
  | [(c,n,_)],P,_=>
   obtain⟨e1,_,o,e2⟩:=P;have e2:0+n=a0.size:=e2;subst e1;rw[<-e2,NW];exact o
  | _::_::_,_,lp=>simp at lp
 have:=iS o;rw[ND,Mx (by rw[g_];lia)]at this;exact this
end
section
variable{κ:Type}{lt:κ->κ->Bool}
noncomputable def rnk(lt:κ->κ->Bool)(ks:List κ)(k:κ):Nat:=ks.countP fun y=>lt y k
theorem count_le{p q:κ->Bool}:∀{l:List κ},(∀x∈l,p x=true->q x=true)->l.countP p<=l.countP q
 | [],_=>b_ _
 |x::t,h=>by
  have ih:=count_le (l:=t) fun y hy=>h y (.tail _ hy);have hx:=h x (.head _);rw[Of,Of];cases e:p x
  ·rw[if_neg (by simp)];lia
  rw[hx e,if_pos rfl];lia
theorem uV{p q:κ->Bool}:∀{l:List κ}{z:κ},(∀x∈l,p x=true->q x=true)->z∈l->p z=false->q z=true->l.countP p<l.countP q
 |x::t,z,h,hz,h1,h2=>by
  have ih:=count_le (l:=t) fun y hy=>h y (.tail _ hy);have hx:=h x (.head _);rw[Of,Of];rcases p_.mp hz with e|e
  ·subst e;rw[h1,h2,if_neg (by simp),if_pos rfl];lia
  have:=uV (l:=t) (fun y hy=>h y (.tail _ hy)) e h1 h2;cases e:p x
  ·rw[if_neg (by simp)];lia
  rw[hx e,if_pos rfl];lia
structure Tot (lt:κ->κ->Bool):Prop where
 irr:∀a,lt a a=false
 tr:∀a b c,lt a b=true->lt b c=true->lt a c=true
 tot:∀a b,lt a b=false->lt b a=false->a=b
theorem IX(T:Tot lt){ks:List κ}{a b:κ}(h:lt b a=false):rnk lt ks a<=rnk lt ks b:=by
 refine count_le fun y _ hy=>?_;cases e:lt a b
 ·rw[<-T.tot a b e h];exact hy
 exact T.tr _ _ _ hy e
theorem tZ(T:Tot lt){ks:List κ}{a b:κ}(ha:a∈ks)(h:lt a b=true):rnk lt ks a<rnk lt ks b:=uV (fun y _ hy=>T.tr _ _ _ hy h) ha (T.irr a) h
theorem yx(T:Tot lt){ks:List κ}{a b:κ}(ha:a∈ks):decide (rnk lt ks a<rnk lt ks b)=lt a b:=by
 cases e:lt a b
 ·exact decide_eq_false (Pq.mpr (IX T e))
 exact decide_eq_true (tZ T ha e)
end
noncomputable def ltL:List Int->List Int->Bool
 | _,[]=>false
 | [],_::_=>true
 |a::x,b::y=>if a=b then ltL x y else decide (a<b)
theorem zD:∀x,ltL x x=false
 | []=>rfl
 |a::x=>by rw[ltL,if_pos rfl];exact zD x
theorem BV:∀a b c,ltL a b=true->ltL b c=true->ltL a c=true
 | _,[],_,h,_=>by simp[ltL]at h
 | _,_::_,[],_,h=>by simp[ltL]at h
 | [],_::_,_::_,_,_=>rfl
 |a::x,b::y,c::z,h,g=>by
  rw[ltL]at h g ⊢;by_cases e1:a=b
  ·subst e1;rw[if_pos rfl]at h;by_cases e2:a=c
   ·subst e2;rw[if_pos rfl]at g ⊢;exact BV x y z h g
   rw[if_neg e2]at g ⊢;exact g
  rw[if_neg e1]at h;have h:=of_decide_eq_true h;by_cases e2:b=c
  ·subst e2;rw[if_neg e1];exact decide_eq_true h
  rw[if_neg e2]at g;have g:=of_decide_eq_true g;rw[if_neg (by lia)];exact decide_eq_true (by lia)
theorem zS:∀a b,ltL a b=false->ltL b a=false->a=b
 | [],[],_,_=>rfl
 | [],_::_,h,_=>by simp[ltL]at h
 | _::_,[],_,h=>by simp[ltL]at h
 |a::x,b::y,h,g=>by
  rw[ltL]at h g;by_cases e:a=b
  ·subst e;rw[if_pos rfl]at h g;rw[zS x y h g]
  rw[if_neg e]at h;rw[if_neg (fun z=>e z.symm)]at g;have h:=of_decide_eq_false h;have g:=of_decide_eq_false g;lia
theorem CK:Tot ltL:=⟨zD,BV,zS⟩
noncomputable def gn:QR->Int
 | .int i _=>i
 | _=>0
def jM(h:Q_):QR->List Int
 | .ref a=>match h.get? a with
  |some o=>match o.data with
   | .seq xs _=>xs.toList.map gn
   | _=>[]
  |none=>[]
 | _=>[]
noncomputable def AllInt(l:List QR):Prop:=∀v∈l,∃i t,v=.int i t
def FU(h:Q_)(v:QR):Prop:=∃a o xs n,v=.ref a/\h.get? a=some o/\o.cls=.type "tuple"/\o.data=.seq xs n/\AllInt xs.toList/\0<xs.size
theorem uk{h:Q_}{a:QS}{o:Obj}{xs:Array QR}(e:h.get? a=some o)(d:o.data=.seq xs n):jM h (.ref a)=xs.toList.map gn:=by unfold jM;dsimp only;rw[e];dsimp only;rw[d]
variable {S:QY->Prop}{rk:QY->Nat}{vs:List QR}
section
variable{prog:Q5}{w:Q8}{A:Rh}{E:QR->QV->Prop}{s:QV}
theorem yP{Q:Bool->QV->Prop}{fin:Bool}:∀(xs ys:List QR) (i:Nat),AllInt xs->AllInt ys->fin=decide (xs.length<ys.length)->Q (ltL (xs.map gn) (ys.map gn)) s->PySem.W.KatLex prog w A true fin Q (xs.zip ys) i s
 | [],[],i,_,_,e,q=>by subst e;exact Vv q
 | [],b::y,i,_,_,e,q=>by subst e;exact Vv q
 |a::x,[],i,_,_,e,q=>by subst e;exact Vv q
 |a::x,b::y,i,ha,hb,e,q=>by
  obtain⟨n,t,rfl⟩:=ha a (.head _);obtain⟨m,u,rfl⟩:=hb b (.head _);rw[k_,k_,ltL]at q;refine PySem.W.kat_cons (Wz ?_);by_cases z:n=m
  ·have q:Q (ltL (x.map gn) (y.map gn)) s:=by rw[if_pos (show gn (.int n t)=gn (.int m u)from z)]at q;exact q
   rw[show(n == m)=true by simpa using z];refine PySem.W.kat_yes (yP x y (i+1) (fun v hv=>ha v (.tail _ hv)) (fun v hv=>hb v (.tail _ hv)) ?_ q);rw[e,h_,h_];exact decide_eq_decide.mpr (by lia)
  have q:Q (decide (n<m)) s:=by rw[if_neg (show ¬gn (.int n t)=gn (.int m u)from z)]at q;exact q
  rw[show(n == m)=false by simpa using z];refine PySem.W.kat_no ?_;cases (true&&i == 0)
  ·exact PySem.W.kat_one _ _ (lt_int q)
  exact oneLt_int q
theorem vq{h0:Q_}{ks:List (List Int)}(hS:∀x,S x->FU h0 x.1/\jM h0 x.1∈ks)(hk:∀b o,h0.get? b=some o->(∃x n,o.cls=.type "tuple"/\o.data=.seq x n)->s.heap.get? b=some o) :
  cP (Q3 prog w) A E s (Xk true) (fun x=>rnk ltL ks (jM h0 x.1)) S:=by
 intro x y st Q sx sy kd q;obtain⟨⟨a,oa,xs,na,ea,ga,ca,da,ia,_⟩,ma⟩:=hS x sx;obtain⟨⟨b,ob,ys,nb,eb,gb,cb,db,ib,_⟩,mb⟩:=hS y sy;rw[lt'_eq];refine Q2 (TM ?_);rw[kd,ea,eb];refine Q2 (Vg (RZ (PySem.W.kat_lt (hk _ _ ga ⟨_,_,ca,da⟩) da (hk _ _ gb ⟨_,_,cb,db⟩) db (yP _ _ 0 ia ib (by rw[g_,g_]) ⟨rfl,?_⟩))));refine Q7 ?_;dsimp only at q;rw[yx CK ma,ea,eb,uk ga da,uk gb db]at q;exact q
theorem wk{M:Ts}{h0:Q_}{Q:R3->QV->Prop}(hv:∀v∈vs,FU h0 v)(hk:∀b o,h0.get? b=some o->(∃x n,o.cls=.type "tuple"/\o.data=.seq x n)->s.heap.get? b=some o)(hne:vs≠[])(q:Q (Xk true) s):QX M A (UR vs.toArray) Q E s:=by
 have mk:∀(l:List QR),(∀v∈l,FU h0 v)->∃fs,PySem.W.KatTups s.heap l fs/\AllInt fs/\fs.length=l.length:=by
  intro l;induction l with
  |nil=>exact fun _=>⟨[],Yz,fun v hv=>(nomatch hv),rfl⟩
  |cons v r ih=>
   intro hl;obtain⟨fs,k1,k2,k3⟩:=ih fun v hv=>hl v (.tail _ hv);obtain⟨a,o,xs,n,rfl,g,c,d,i,z⟩:=hl v (.head _);obtain⟨f,hf⟩:∃f,xs[0]?=some f:=⟨_,j_ z⟩;refine⟨f::fs,Ys (hk _ _ g ⟨_,_,c,d⟩) c d hf k1,fun v hv=>?_,by rw[h_,h_,k3]⟩;rcases p_.mp hv with e|e
   ·subst e;rw[<-gV]at hf;exact i _ (F' hf)
   exact k2 v e
 obtain⟨fs,k1,k2,k3⟩:=mk vs hv;refine PySem.W.kat_kind (T:=.type "int") k1 ?_ (fun v hv=>?_) rfl q
 ·rw[k3];exact PH.mpr hne
 obtain⟨i,t,rfl⟩:=k2 v hv;exact .now
theorem iU(vs:List QR):(vs.toArray.zip vs.toArray).toList=vs.map fun v=>(v,v):=by
 rw[Array.toList_zip];induction vs with
 |nil=>rfl
 |cons v r ih=>exact congrArg ((v,v)::·) ih
theorem sJ{a:QS}{kd:R3}{P:YG->QV->Prop}(ho:s.heap.get? a=some (Ro "list" vs.toArray n))(hz:vs.length<=sizeLine)(hS:∀v∈vs,S (v,v))
  (kind:∀h',(∀b o,b≠a->s.heap.get? b=some o->h'.get? b=some o)->∀{Q:R3->QV->Prop},vs≠[]->Q kd {s with heap:=h'}->QX (Q3 prog w) A (UR vs.toArray) Q E {s with heap:=h'})
  (lt:∀h',(∀b o,b≠a->s.heap.get? b=some o->h'.get? b=some o)->cP (Q3 prog w) A E {s with heap:=h'} kd rk S)
  (h:∀(o:List QR) c h',o.Perm vs->o.Pairwise (fun x y=>rk (x,x)<=rk (y,y))->(∀b u,b≠a->s.heap.get? b=some u->h'.get? b=some u)->h'.get? a=some (Ro "list" o.toArray c)->P (.done (.ret .none)) {s with heap:=h'}) :
  QX (Q3 prog w) A (RW.«list.sort» ⟨[.ref a],[]⟩) P E s:=by
 rw[list_sort_plain];have ha:a<s.heap.objs.size:=Q1 ho;refine QQ (XZ ho rfl ?_);refine QQ (U1 ho rfl ?_ (by rw[o_];exact hz) (E_ _));obtain⟨e1,ho1⟩:∃e1,(s.heap.update a (Rf fun _=>(#[]:Array QR))).get? a=some (Ro "list" #[] e1):=⟨_,UJ ho fun _=>#[]⟩;refine QQ (VD ho1 rfl ?_);refine QQ (UQ ?_ hz);refine QQ (Tn ?_ (E_ _));refine Rm ?_;have k2:∀b u,(s.heap.update a (Rf fun _=>(#[]:Array QR))).get? b=some u->(((s.heap.update a (Rf fun _=>(#[]:Array QR))).push (Ro "tuple" vs.toArray 0)).push (Ro "list" #[] 0)).get? b=some u:=fun b u e=>QW _ (QW _ e);have k3:∀b u,b≠a->s.heap.get? b=some u->(((s.heap.update a (Rf fun _=>(#[]:Array QR))).push (Ro "tuple" vs.toArray 0)).push (Ro "list" #[] 0)).get? b=some u:=fun b u hb e=>k2 b u (by rw[R4 _ _ _ _ hb];exact e)
 have ho6:=k2 _ _ ho1;show QX (Q3 prog w) A _ P E {s with heap:=((s.heap.update a (Rf fun _=>(#[]:Array QR))).push (Ro "tuple" vs.toArray 0)).push (Ro "list" #[] 0) };generalize ((s.heap.update a (Rf fun _=>(#[]:Array QR))).push (Ro "tuple" vs.toArray 0)).push (Ro "list" #[] 0)=h1 at k3 ho6 ⊢;dsimp only;have fin:∀st':Q4,(QZ st').Perm (vs.toArray.zip vs.toArray)->Srt rk (QZ st').toList->RJ st'=none->QX (Q3 prog w) A (do
   let touched:=(<-seqEpoch a) != e1
   Vm (.ref a) fun _=>(QZ st').map (·.2)
   if let some e:=RJ st' then rule "list.sort.comparison-raised";throw e
   if touched then rule "list.sort.modified";raiseError "ValueError" "list modified during sort"
   ret .none) P E {s with heap:=h1}:=fun st' hp hs hf=>by
  have lp:(QZ st').toList.Perm (vs.map fun v=>(v,v)):=by have:=Mw.mp hp;rw[iU]at this;exact this
  have op:((QZ st').toList.map (·.2)).Perm vs:=by have:=lp.map (·.2);rw[z_,show((fun x:QY=>x.2) ∘ fun v:QR=>(v,v))=id from rfl,OC]at this;exact this
  have tw:∀p∈(QZ st').toList,p=(p.2,p.2):=fun p hp=>by obtain⟨v,_,e⟩:=t_.mp (lp.mem_iff.mp hp);rw[<-e]
  have osr:((QZ st').toList.map (·.2)).Pairwise (fun x y=>rk (x,x)<=rk (y,y)):=by rw[LV];refine MD (fun{p q} hp hq hr=>?_) hs;rw[<-tw p hp,<-tw q hq];exact hr
  have os:((QZ st').map (·.2)).size<=sizeLine+1:=by rw[<-g_,Og,op.length_eq];lia
  refine QQ (VD ho6 rfl ?_);refine QQ (U1 ho6 rfl ?_ (E_ _) os);rw[hf];simp only[bne_self_eq_false,G',if_false];obtain⟨c,hc⟩:∃c,(h1.update a (Rf fun _=>(QZ st').map (·.2))).get? a=some (Ro "list" ((QZ st').toList.map (·.2)).toArray c):=by have:=UJ ho6 fun _=>(QZ st').map (·.2);rw[show((QZ st').toList.map (·.2)).toArray=(QZ st').map (·.2) by rw[<-Og]];exact⟨_,this⟩
  refine QU (h _ c _ op osr (fun b u hb e=>?_) hc);rw[R4 _ _ _ _ hb];exact k3 b u hb e
 by_cases h2:vs.toArray.size<2
 ·rw[if_pos h2,if_pos h2];refine QQ (QU ?_);rw[W4];refine QQ (QU ?_);refine fin (Su general' (vs.toArray.zip vs.toArray) #[] 7 none) (O8 _) ?_ rfl;show Srt rk (vs.toArray.zip vs.toArray).toList;rw[iU];have h3:vs.length<2:=h2;clear fin h lt kind hS ho
  match vs,h3 with
  | [],_=>exact .nil
  | [v],_=>exact N4 _ _
  | _::_::_,h3=>exact absurd h3 (by rw[h_,h_];lia)
 rw[if_neg h2,if_neg h2];refine QQ (kind h1 k3 (fun z=>by rw[z]at h2;simp at h2) ?_);refine QQ (RA (oA (st:=Su kd (vs.toArray.zip vs.toArray) #[] 7 none) (Q:=fun _ st'=>(QZ st').Perm (vs.toArray.zip vs.toArray)/\RJ st'=none/\Srt rk (QZ st').toList) (lt h1 k3) (fun p hp=>?_) (fun x=>Sy rfl) rfl rfl rfl fun st' a1 a2 a3=>⟨a1,a2,a3⟩) ?_ fun _ _ e=>e)
 ·rw[show(QZ (Su kd (vs.toArray.zip vs.toArray) #[] 7 none))=vs.toArray.zip vs.toArray from rfl,iU]at hp;obtain⟨v,hv,e⟩:=t_.mp hp;rw[<-e];exact hS v hv
 rintro⟨⟨⟩,st'⟩ s' ⟨rfl,hp,hf,hs⟩;exact fin st' hp hs hf
theorem xI{l:QS}{kd:R3}{Q:QR->QV->Prop}(hl:s.heap.IsList l vs.toArray)(hz:vs.length<=sizeLine)(hS:∀v∈vs,S (v,v))
  (kind:∀h',(∀b o,s.heap.get? b=some o->h'.get? b=some o)->∀{Q:R3->QV->Prop}{E:QR->QV->Prop},vs≠[]->Q kd {s with heap:=h'}->QX (Q3 prog w) A.in1.in1 (UR vs.toArray) Q E {s with heap:=h'})
  (lt:∀h' E,(∀b o,s.heap.get? b=some o->h'.get? b=some o)->cP (Q3 prog w) A.in1.in1 E {s with heap:=h'} kd rk S)
  (h:∀(o:List QR) a c h',o.Perm vs->o.Pairwise (fun x y=>rk (x,x)<=rk (y,y))->s.heap.objs.size<=a->(∀b u,s.heap.get? b=some u->h'.get? b=some u)->h'.get? a=some (Ro "list" o.toArray c)->Q (.ref a) {s with heap:=h'}) :
  QX (Q3 prog w) A (call (.builtin "sorted") [.ref l]) Q E s:=by
 refine TR Wy Wk Wl (X0 _) ?_;unfold RW.«sorted»;refine QQ (m:=W5 "sorted" 1 1 _) (QU ?_);refine QQ (X1 hl ?_ hz);refine QQ (Tn ?_ hz);have hsz:((s.heap.push (Ro "list" #[] 0)).update s.heap.objs.size (Rf (·++vs.toArray))).objs.size=s.heap.objs.size+1:=by rw[Tc,size_push']
 have hoL:(((s.heap.push (Ro "list" #[] 0)).update s.heap.objs.size (Rf (·++vs.toArray))).push (Ro "list" vs.toArray 0)).get? (s.heap.objs.size+1)=some (Ro "list" vs.toArray 0):=by rw[<-hsz];exact Q0 _ rfl
 have keep:∀b o,s.heap.get? b=some o->(((s.heap.push (Ro "list" #[] 0)).update s.heap.objs.size (Rf (·++vs.toArray))).push (Ro "list" vs.toArray 0)).get? b=some o:=fun b o q=>by have hlt:b<s.heap.objs.size:=Q1 q;rw[Ud _ _ _ (by rw[hsz];exact s_ (My hlt)),R4 _ _ _ _ (s_ hlt),Ud _ _ _ (s_ hlt)];exact q
 show QX _ _ _ _ _ {s with heap:=((s.heap.push (Ro "list" #[] 0)).update s.heap.objs.size (Rf (·++vs.toArray))).push (Ro "list" vs.toArray 0) };rw[hsz];generalize ((s.heap.push (Ro "list" #[] 0)).update s.heap.objs.size (Rf (·++vs.toArray))).push (Ro "list" vs.toArray 0)=h1 at hoL keep ⊢;have ne:∀b o,s.heap.get? b=some o->b≠s.heap.objs.size+1:=fun b o e=>s_ (My (Q1 e));refine QQ (Rm (Rz VJ ⟨_,hoL,rfl⟩ Vw ?body (Xl _)))
 case body=>
  refine sJ (s:={s with heap:=h1}) (kd:=kd) (rk:=rk) (S:=S) hoL hz hS (fun h' k {Q} hne q=>kind h' (fun b o e=>k b o (ne b o e) (keep b o e)) hne q) (fun h' k=>lt h' _ fun b o e=>k b o (ne b o e) (keep b o e)) fun o c h' g1 g2 g3 g4=>?_;exact⟨_,rfl,QU ⟨_,rfl,h o _ c h' g1 g2 (Nw _) (fun b u e=>g3 b u (ne b u e) (keep b u e)) g4⟩⟩
end
end ZS
namespace PL
open PySem L2
inductive T where
 |any|hole (w:V)|bare|kp (G:Hp)
 |non|bl (b:Bool)|int (i:Int)|str (x:Str)|ty (n:String)
 |tup (ts:List T)|cst (ts:List T)
 |lst (o:Bool) (ts:List T)
 |dK (o:Bool) (kvs:List (Key×T))
 |dT (o:Bool) (kvs:List (List Key×T))
mutual
noncomputable def er:T->T
 | .tup ts=>.tup (erL ts)
 | .cst ts=>.cst (erL ts)
 | .lst _ ts=>.lst false (erL ts)
 | .dK _ kvs=>.dK false (erK kvs)
 | .dT _ kvs=>.dT false (erT kvs)
 | .bare=>.any
 |t=>t
noncomputable def erL:List T->List T
 | []=>[]
 |t::r=>er t::erL r
noncomputable def erK:List (Key×T)->List (Key×T)
 | []=>[]
 | (k,t)::r=>(k,er t)::erK r
noncomputable def erT:List (List Key×T)->List (List Key×T)
 | []=>[]
 | (k,t)::r=>(k,er t)::erT r
end
mutual
noncomputable def aW:T->Bool
 | .tup ts=>bC ts
 | .cst ts=>bC ts
 | .lst o ts=>!o&&bC ts
 | .dK o kvs=>!o&&ur kvs
 | .dT o kvs=>!o&&i5 kvs
 | .bare=>false
 | _=>true
noncomputable def bC:List T->Bool
 | []=>true
 |t::r=>aW t&&bC r
noncomputable def ur:List (Key×T)->Bool
 | []=>true
 | (_,t)::r=>aW t&&ur r
noncomputable def i5:List (List Key×T)->Bool
 | []=>true
 | (_,t)::r=>aW t&&i5 r
end
mutual
noncomputable def cv:T->Bool
 | .tup ts=>cQ ts
 | .cst ts=>cQ ts
 | .lst o ts=>o&&cQ ts
 | .dK o kvs=>o&&pY kvs
 | .dT o kvs=>o&&oM kvs
 | .kp _=>false
 | _=>true
noncomputable def cQ:List T->Bool
 | []=>true
 |t::r=>cv t&&cQ r
noncomputable def pY:List (Key×T)->Bool
 | []=>true
 | (_,t)::r=>cv t&&pY r
noncomputable def oM:List (List Key×T)->Bool
 | []=>true
 | (_,t)::r=>cv t&&oM r
end
theorem cJ{α:Type}(g:α->T):∀l:List α,erL (l.map g)=l.map fun x=>er (g x)
 | []=>rfl
 |x::r=>by rw[k_,erL,cJ g r,k_]
theorem qR:∀l:List T,erL l=l.map er
 | []=>rfl
 |x::r=>by rw[erL,qR r,k_]
theorem uI(l:List T):(erL l).length=l.length:=by rw[qR,a_]
theorem fW(l m:List T):erL (l++m)=erL l++erL m:=by rw[qR,qR,qR,q_]
theorem eV:∀l:List T,bC l=l.all aW
 | []=>rfl
 |x::r=>by rw[bC,eV r,Pz]
theorem rN:∀l:List T,cQ l=l.all cv
 | []=>rfl
 |x::r=>by rw[cQ,rN r,Pz]
mutual
theorem bB:∀t:T,aW (er t)=true
 | .tup ts=>by rw[er,aW,jD ts]
 | .cst ts=>by rw[er,aW,jD ts]
 | .lst _ ts=>by rw[er,aW,jD ts];rfl
 | .dK _ ts=>by rw[er,aW,rX ts];rfl
 | .dT _ ts=>by rw[er,aW,sO ts];rfl
 | .bare=>rfl
 | .any=>rfl
 | .hole _=>rfl
 | .kp _=>rfl
 | .non=>rfl
 | .bl _=>rfl
 | .int _=>rfl
 | .str _=>rfl
 | .ty _=>rfl
theorem jD:∀t:List T,bC (erL t)=true
 | []=>rfl
 |t::r=>by rw[erL,bC,bB t,jD r];rfl
theorem rX:∀t:List (Key×T),ur (erK t)=true
 | []=>rfl
 | (_,t)::r=>by rw[erK,ur,bB t,rX r];rfl
theorem sO:∀t:List (List Key×T),i5 (erT t)=true
 | []=>rfl
 | (_,t)::r=>by rw[erT,i5,bB t,sO r];rfl
end
def Gr(G H:Hp):Prop:=∀b u,Rd G b u->Rd H b u
variable {H:Hp}
theorem Gr.bY :Gr H H:=fun _ _ h=>h
variable {G:Hp}
theorem Gr.trans {J:Hp}(a:Gr G H)(b:Gr H J):Gr G J:=fun c u h=>b c u (a c u h)
theorem Gr.of (h:bz G H):Gr G H:=fun b u r=>by
 rcases r with r|⟨o,r⟩
 ·exact .inl (h _ _ r)
 exact .inr ⟨o,h _ _ r⟩
theorem Rd.some {H:Hp}{a:QS}{u:HO}(h:Rd H a u):∃w,H a=some w:=by
 rcases h with h|⟨o,h⟩
 ·exact⟨_,h⟩
 exact⟨_,h⟩
theorem Gr.none {G H:Hp}(h:Gr G H){a:QS}(e:H a=none):G a=none:=by
 cases q:G a with
 |none=>rfl
 |some u=>
  obtain⟨w,z⟩:=Rd.some (h a u (.inl q));rw[e]at z;cases z
noncomputable def TK(H H':Hp):Prop:=∀b xs,H b=some (.tup xs)->H' b=some (.tup xs)
theorem bz.tk (h:bz G H):TK G H:=fun b xs r=>h _ _ r
variable {H':Hp}{a:QS}
theorem Put.tk {o:HO}(p:Put H a o H')(ht:∀xs,H a≠some (.tup xs)):TK H H':=fun b xs r=>by have hb:b≠a:=fun z=>ht xs (z▸r);rw[p.else_ b hb];exact r
section
variable(K:QT)(Hz H:Hp)
mutual
inductive RepT:T->V->List QS->Prop
 |any {v:V}:RepT .any v []
 |hole {w:V}:RepT (.hole w) w []
 |bare {a:QS}{u:HO} (h:H a=some u) (ht:∀xs,H a≠some (.tup xs)):RepT .bare (.ref a) [a]
 |kp {G:Hp}{v:V} (h:Gr G Hz):RepT (.kp G) v []
 |non:RepT .non .non []
 |bl {b:Bool}:RepT (.bl b) (.bl b) []
 |int {i:Int}:RepT (.int i) (.int i) []
 |str {x:Str}:RepT (.str x) (.str x) []
 |ty {n:String}:RepT (.ty n) (.ty n) []
 |tup {a:QS}{ts:List T}{vs:List V}{L:List QS} (h:H a=some (.tup vs)) (c:RepTs ts vs L):RepT (.tup ts) (.ref a) L
 |cst {a:QS}{ts:List T}{vs:List V} (h:SqT K (fun _=>none) a vs) (c:RepTs ts vs []):RepT (.cst ts) (.ref a) []
 |lstO {a:QS}{ts:List T}{vs:List V}{L:List QS} (h:H a=some (.lst vs)) (c:RepTs ts vs L):RepT (.lst true ts) (.ref a) (a::L)
 |lstZ {a:QS}{ts:List T}{vs:List V} (h:Rd Hz a (.lst vs)) (c:RepTs ts vs []):RepT (.lst false ts) (.ref a) []
 |dKO {a:QS}{ts:List (Key×T)}{vs:List (Key×V)}{L:List QS} (h:H a=some (.dK vs)) (c:RepKs ts vs L):RepT (.dK true ts) (.ref a) (a::L)
 |dKZ {a:QS}{ts:List (Key×T)}{vs:List (Key×V)} (h:Rd Hz a (.dK vs)) (c:RepKs ts vs []):RepT (.dK false ts) (.ref a) []
 |dTO {a:QS}{ts:List (List Key×T)}{vs:List (List Key×V)}{L:List QS} (h:H a=some (.dT vs)) (c:RepXs ts vs L):RepT (.dT true ts) (.ref a) (a::L)
 |dTZ {a:QS}{ts:List (List Key×T)}{vs:List (List Key×V)} (h:Rd Hz a (.dT vs)) (c:RepXs ts vs []):RepT (.dT false ts) (.ref a) []
inductive RepTs:List T->List V->List QS->Prop
 |nil:RepTs [] [] []
 |cons {t:T}{v:V}{L M N:List QS}{ts:List T}{vs:List V} (e:N=L++M) (h:RepT t v L) (c:RepTs ts vs M):RepTs (t::ts) (v::vs) N
inductive RepKs:List (Key×T)->List (Key×V)->List QS->Prop
 |nil:RepKs [] [] []
 |cons {k:Key}{t:T}{v:V}{L M N:List QS}{ts:List (Key×T)}{vs:List (Key×V)} (e:N=L++M) (h:RepT t v L) (c:RepKs ts vs M):RepKs ((k,t)::ts) ((k,v)::vs) N
inductive RepXs:List (List Key×T)->List (List Key×V)->List QS->Prop
 |nil:RepXs [] [] []
 |cons {k:List Key}{t:T}{v:V}{L M N:List QS}{ts:List (List Key×T)}{vs:List (List Key×V)} (e:N=L++M) (h:RepT t v L) (c:RepXs ts vs M):RepXs ((k,t)::ts) ((k,v)::vs) N
end
end
variable {Hz Hz' Z:Hp}{L M:List QS}{p:QS}{t:T}{ts:List T}{v:V}{vs xs:List V}{x:Option V}{α:Type}
section
variable{K:QT}
theorem my{P:T->V->List QS->Prop}{Ps:List T->List V->List QS->Prop}{Pk:List (Key×T)->List (Key×V)->List QS->Prop}{Px:List (List Key×T)->List (List Key×V)->List QS->Prop}
  (c1:∀{v},P .any v []) (c2:∀{w},P (.hole w) w []) (c3:∀{a u},H a=some u->(∀xs,H a≠some (.tup xs))->P .bare (.ref a) [a]) (c4:∀{G v},Gr G Hz->P (.kp G) v [])
  (c5:P .non .non []) (c6:∀{b},P (.bl b) (.bl b) []) (c7:∀{i},P (.int i) (.int i) []) (c8:∀{x},P (.str x) (.str x) []) (c9:∀{n},P (.ty n) (.ty n) [])
  (c10:∀{a ts vs L},H a=some (.tup vs)->Ps ts vs L->P (.tup ts) (.ref a) L) (c11:∀{a ts vs},SqT K (fun _=>none) a vs->Ps ts vs []->P (.cst ts) (.ref a) [])
  (c12:∀{a ts vs L},H a=some (.lst vs)->Ps ts vs L->P (.lst true ts) (.ref a) (a::L)) (c13:∀{a ts vs},Rd Hz a (.lst vs)->Ps ts vs []->P (.lst false ts) (.ref a) [])
  (c14:∀{a ts vs L},H a=some (.dK vs)->Pk ts vs L->P (.dK true ts) (.ref a) (a::L)) (c15:∀{a ts vs},Rd Hz a (.dK vs)->Pk ts vs []->P (.dK false ts) (.ref a) [])
  (c16:∀{a ts vs L},H a=some (.dT vs)->Px ts vs L->P (.dT true ts) (.ref a) (a::L)) (c17:∀{a ts vs},Rd Hz a (.dT vs)->Px ts vs []->P (.dT false ts) (.ref a) [])
  (s0:Ps [] [] []) (s1:∀{t v L M ts vs},P t v L->Ps ts vs M->Ps (t::ts) (v::vs) (L++M))
  (k0:Pk [] [] []) (k1:∀{k t v L M ts vs},P t v L->Pk ts vs M->Pk ((k,t)::ts) ((k,v)::vs) (L++M))
  (x0:Px [] [] []) (x1:∀{k t v L M ts vs},P t v L->Px ts vs M->Px ((k,t)::ts) ((k,v)::vs) (L++M)) :
  (∀{t v L},RepT K Hz H t v L->P t v L)/\(∀{t v L},RepTs K Hz H t v L->Ps t v L)/\(∀{t v L},RepKs K Hz H t v L->Pk t v L)/\(∀{t v L},RepXs K Hz H t v L->Px t v L):=by
 have m1:∀{t v L},RepT K Hz H t v L->P t v L:=fun h=>RepT.rec (motive_1:=fun t v L _=>P t v L) (motive_2:=fun t v L _=>Ps t v L) (motive_3:=fun t v L _=>Pk t v L) (motive_4:=fun t v L _=>Px t v L)
  c1 c2 c3 c4 c5 c6 c7 c8 c9 (fun h _ i=>c10 h i) (fun h _ i=>c11 h i) (fun h _ i=>c12 h i) (fun h _ i=>c13 h i) (fun h _ i=>c14 h i) (fun h _ i=>c15 h i) (fun h _ i=>c16 h i) (fun h _ i=>c17 h i)
  s0 (fun e _ _ i j=>e▸s1 i j) k0 (fun e _ _ i j=>e▸k1 i j) x0 (fun e _ _ i j=>e▸x1 i j) h
 refine⟨m1,fun h=>?_,fun h=>?_,fun h=>?_⟩
 ·exact RepTs.rec (motive_1:=fun t v L _=>True) (motive_2:=fun t v L _=>Ps t v L) (motive_3:=fun t v L _=>True) (motive_4:=fun t v L _=>True)
   trivial trivial (fun _ _=>trivial) (fun _=>trivial) trivial trivial trivial trivial trivial (fun _ _ _=>trivial) (fun _ _ _=>trivial) (fun _ _ _=>trivial) (fun _ _ _=>trivial) (fun _ _ _=>trivial) (fun _ _ _=>trivial) (fun _ _ _=>trivial) (fun _ _ _=>trivial)
   s0 (fun e h _ _ j=>e▸s1 (m1 h) j) trivial (fun _ _ _ _ _=>trivial) trivial (fun _ _ _ _ _=>trivial) h
 ·exact RepKs.rec (motive_1:=fun t v L _=>True) (motive_2:=fun t v L _=>True) (motive_3:=fun t v L _=>Pk t v L) (motive_4:=fun t v L _=>True)
   trivial trivial (fun _ _=>trivial) (fun _=>trivial) trivial trivial trivial trivial trivial (fun _ _ _=>trivial) (fun _ _ _=>trivial) (fun _ _ _=>trivial) (fun _ _ _=>trivial) (fun _ _ _=>trivial) (fun _ _ _=>trivial) (fun _ _ _=>trivial) (fun _ _ _=>trivial)
   trivial (fun _ _ _ _ _=>trivial) k0 (fun e h _ _ j=>e▸k1 (m1 h) j) trivial (fun _ _ _ _ _=>trivial) h
 exact RepXs.rec (motive_1:=fun t v L _=>True) (motive_2:=fun t v L _=>True) (motive_3:=fun t v L _=>True) (motive_4:=fun t v L _=>Px t v L)
  trivial trivial (fun _ _=>trivial) (fun _=>trivial) trivial trivial trivial trivial trivial (fun _ _ _=>trivial) (fun _ _ _=>trivial) (fun _ _ _=>trivial) (fun _ _ _=>trivial) (fun _ _ _=>trivial) (fun _ _ _=>trivial) (fun _ _ _=>trivial) (fun _ _ _=>trivial)
  trivial (fun _ _ _ _ _=>trivial) trivial (fun _ _ _ _ _=>trivial) x0 (fun e h _ _ j=>e▸x1 (m1 h) j) h
noncomputable def Kps(H H':Hp)(L:List QS):Prop:=∀a∈L,∀u,H a=some u->H' a=some u/\((∀xs,H a≠some (.tup xs))->∀xs,H' a≠some (.tup xs))
theorem Kps.hd (h:Kps H H' (a::L)){u:HO}(e:H a=some u):H' a=some u/\((∀xs,H a≠some (.tup xs))->∀xs,H' a≠some (.tup xs)):=h _ u_ _ e
theorem Kps.tl (h:Kps H H' (a::L)):Kps H H' L:=fun a m=>h a (n_ _ m)
theorem Kps.l (h:Kps H H' (L++M)):Kps H H' L:=fun a m=>h a (y_ _ m)
theorem Kps.r (h:Kps H H' (L++M)):Kps H H' M:=fun a m=>h a (r_ _ m)
theorem vc(ht:TK H H')(hz:Gr Hz Hz'):(∀{t v L},RepT K Hz H t v L->Kps H H' L->RepT K Hz' H' t v L)/\(∀{t v L},RepTs K Hz H t v L->Kps H H' L->RepTs K Hz' H' t v L)/\(∀{t v L},RepKs K Hz H t v L->Kps H H' L->RepKs K Hz' H' t v L)/\(∀{t v L},RepXs K Hz H t v L->Kps H H' L->RepXs K Hz' H' t v L):=
 my (P:=fun t v L=>Kps H H' L->RepT K Hz' H' t v L) (Ps:=fun t v L=>Kps H H' L->RepTs K Hz' H' t v L) (Pk:=fun t v L=>Kps H H' L->RepKs K Hz' H' t v L) (Px:=fun t v L=>Kps H H' L->RepXs K Hz' H' t v L)
  (fun _=>.any) (fun _=>.hole) (fun h t o=>.bare (o.hd h).1 ((o.hd h).2 t)) (fun h _=>.kp (h.trans hz)) (fun _=>.non) (fun _=>.bl) (fun _=>.int) (fun _=>.str) (fun _=>.ty)
  (fun h c o=>.tup (ht _ _ h) (c o)) (fun h c o=>.cst h (c o)) (fun h c o=>.lstO (o.hd h).1 (c o.tl)) (fun h c o=>.lstZ (hz _ _ h) (c o)) (fun h c o=>.dKO (o.hd h).1 (c o.tl)) (fun h c o=>.dKZ (hz _ _ h) (c o)) (fun h c o=>.dTO (o.hd h).1 (c o.tl)) (fun h c o=>.dTZ (hz _ _ h) (c o))
  (fun _=>.nil) (fun i j o=>.cons rfl (i o.l) (j o.r)) (fun _=>.nil) (fun i j o=>.cons rfl (i o.l) (j o.r)) (fun _=>.nil) (fun i j o=>.cons rfl (i o.l) (j o.r))
theorem RepT.move (ht:TK H H')(hz:Gr Hz Hz')(o:Kps H H' L)(h:RepT K Hz H t v L):RepT K Hz' H' t v L:=(vc ht hz).1 h o
theorem RepXs.move (ht:TK H H')(hz:Gr Hz Hz'){t:List (List Key×T)}{v:List (List Key×V)}(o:Kps H H' L)(h:RepXs K Hz H t v L):RepXs K Hz' H' t v L:=(vc ht hz).2.2.2 h o
noncomputable def Thr(H:Hp)(L:List QS):Prop:=∀a∈L,(∃u,H a=some u)/\∀xs,H a≠some (.tup xs)
theorem Thr.nil :Thr H []:=fun a m=>nomatch m
theorem Thr.cons {H:Hp}{a:QS}{u:HO}{L:List QS}(h:H a=some u)(t:∀xs,H a≠some (.tup xs))(c:Thr H L):Thr H (a::L):=fun b m=>by
 rcases p_.mp m with rfl|m
 ·exact⟨⟨_,h⟩,t⟩
 exact c b m
theorem Thr.app (c:Thr H L)(d:Thr H M):Thr H (L++M):=fun b m=>(x_.mp m).elim (c b) (d b)
theorem Af:(∀{t v L},RepT K Hz H t v L->Thr H L)/\(∀{t v L},RepTs K Hz H t v L->Thr H L)/\(∀{t v L},RepKs K Hz H t v L->Thr H L)/\(∀{t v L},RepXs K Hz H t v L->Thr H L):=
 my (P:=fun t v L=>Thr H L) (Ps:=fun t v L=>Thr H L) (Pk:=fun t v L=>Thr H L) (Px:=fun t v L=>Thr H L)
  .nil .nil (fun h t=>.cons h t .nil) (fun _=>.nil) .nil .nil .nil .nil .nil (fun _ c=>c) (fun _ c=>c) (fun h c=>.cons h (fun xs r=>by rw[h]at r;cases r) c) (fun _ c=>c) (fun h c=>.cons h (fun xs r=>by rw[h]at r;cases r) c) (fun _ c=>c) (fun h c=>.cons h (fun xs r=>by rw[h]at r;cases r) c) (fun _ c=>c)
  .nil (fun c d=>c.app d) .nil (fun c d=>c.app d) .nil (fun c d=>c.app d)
theorem RepT.there (h:RepT K Hz H t v L):Thr H L:=Af.1 h
noncomputable def Fzn(H Z:Hp)(L:List QS):Prop:=∀a∈L,Z a=H a
theorem Fzn.hd (h:Fzn H Z (a::L)){u:HO}(e:H a=some u):Rd Z a u:=.inl (by rw[h _ u_];exact e)
theorem Fzn.tl (h:Fzn H Z (a::L)):Fzn H Z L:=fun a m=>h a (n_ _ m)
theorem Fzn.l (h:Fzn H Z (L++M)):Fzn H Z L:=fun a m=>h a (y_ _ m)
theorem Fzn.r (h:Fzn H Z (L++M)):Fzn H Z M:=fun a m=>h a (r_ _ m)
theorem EY(hz:Gr Hz Z):(∀{t v L},RepT K Hz H t v L->Fzn H Z L->RepT K Z H (er t) v [])/\(∀{t v L},RepTs K Hz H t v L->Fzn H Z L->RepTs K Z H (erL t) v [])/\(∀{t v L},RepKs K Hz H t v L->Fzn H Z L->RepKs K Z H (erK t) v [])/\(∀{t v L},RepXs K Hz H t v L->Fzn H Z L->RepXs K Z H (erT t) v []):=
 my (P:=fun t v L=>Fzn H Z L->RepT K Z H (er t) v []) (Ps:=fun t v L=>Fzn H Z L->RepTs K Z H (erL t) v []) (Pk:=fun t v L=>Fzn H Z L->RepKs K Z H (erK t) v []) (Px:=fun t v L=>Fzn H Z L->RepXs K Z H (erT t) v [])
  (fun _=>.any) (fun _=>.hole) (fun _ _ _=>.any) (fun h _=>.kp (h.trans hz)) (fun _=>.non) (fun _=>.bl) (fun _=>.int) (fun _=>.str) (fun _=>.ty)
  (fun h c o=>.tup h (c o)) (fun h c o=>.cst h (c o)) (fun h c o=>.lstZ (o.hd h) (c o.tl)) (fun h c o=>.lstZ (hz _ _ h) (c o)) (fun h c o=>.dKZ (o.hd h) (c o.tl)) (fun h c o=>.dKZ (hz _ _ h) (c o)) (fun h c o=>.dTZ (o.hd h) (c o.tl)) (fun h c o=>.dTZ (hz _ _ h) (c o))
  (fun _=>.nil) (fun i j o=>.cons rfl (i o.l) (j o.r)) (fun _=>.nil) (fun i j o=>.cons rfl (i o.l) (j o.r)) (fun _=>.nil) (fun i j o=>.cons rfl (i o.l) (j o.r))
theorem RepT.frz (hz:Gr Hz Z)(o:Fzn H Z L)(h:RepT K Hz H t v L):RepT K Z H (er t) v []:=(EY hz).1 h o
theorem Er:(∀{t v L},RepT K Hz H t v L->aW t=true->L=[])/\(∀{t v L},RepTs K Hz H t v L->bC t=true->L=[])/\(∀{t v L},RepKs K Hz H t v L->True)/\(∀{t v L},RepXs K Hz H t v L->True):=
 my (P:=fun t v L=>aW t=true->L=[]) (Ps:=fun t v L=>bC t=true->L=[]) (Pk:=fun t v L=>True) (Px:=fun t v L=>True)
  (fun _=>rfl) (fun _=>rfl) (fun _ _ n=>nomatch n) (fun _ _=>rfl) (fun _=>rfl) (fun _=>rfl) (fun _=>rfl) (fun _=>rfl) (fun _=>rfl)
  (fun _ c n=>c (by rw[aW]at n;exact n)) (fun _ _ _=>rfl) (fun _ _ n=>nomatch n) (fun _ _ _=>rfl) (fun _ _ n=>nomatch n) (fun _ _ _=>rfl) (fun _ _ n=>nomatch n) (fun _ _ _=>rfl)
  (fun _=>rfl) (fun i j n=>by
   rw[bC,Mc]at n;rw[i n.1,j n.2]
   rfl) trivial (fun _ _=>trivial) trivial (fun _ _=>trivial)
theorem RepT.nil_of (n:aW t=true)(h:RepT K Hz H t v L):L=[]:=Er.1 h n
theorem Ce(ht:TK H H'):(∀{t v L},RepT K Hz H t v L->cv t=true->Kps H H' L->RepT K Z H' t v L)/\(∀{t v L},RepTs K Hz H t v L->cQ t=true->Kps H H' L->RepTs K Z H' t v L)/\(∀{t v L},RepKs K Hz H t v L->pY t=true->Kps H H' L->RepKs K Z H' t v L)/\(∀{t v L},RepXs K Hz H t v L->oM t=true->Kps H H' L->RepXs K Z H' t v L):=
 my (P:=fun t v L=>cv t=true->Kps H H' L->RepT K Z H' t v L) (Ps:=fun t v L=>cQ t=true->Kps H H' L->RepTs K Z H' t v L) (Pk:=fun t v L=>pY t=true->Kps H H' L->RepKs K Z H' t v L) (Px:=fun t v L=>oM t=true->Kps H H' L->RepXs K Z H' t v L)
  (fun _ _=>.any) (fun _ _=>.hole) (fun h t _ o=>.bare (o.hd h).1 ((o.hd h).2 t)) (fun _ n=>nomatch n) (fun _ _=>.non) (fun _ _=>.bl) (fun _ _=>.int) (fun _ _=>.str) (fun _ _=>.ty)
  (fun h c n o=>.tup (ht _ _ h) (c (by rw[cv]at n;exact n) o)) (fun h c n o=>.cst h (c (by rw[cv]at n;exact n) o)) (fun h c n o=>.lstO (o.hd h).1 (c (by rw[cv,Nq]at n;exact n) o.tl)) (fun _ _ n=>nomatch n) (fun h c n o=>.dKO (o.hd h).1 (c (by rw[cv,Nq]at n;exact n) o.tl)) (fun _ _ n=>nomatch n) (fun h c n o=>.dTO (o.hd h).1 (c (by rw[cv,Nq]at n;exact n) o.tl)) (fun _ _ n=>nomatch n)
  (fun _ _=>.nil) (fun i j n o=>.cons rfl (i (by rw[cQ,Mc]at n;exact n.1) o.l) (j (by rw[cQ,Mc]at n;exact n.2) o.r)) (fun _ _=>.nil) (fun i j n o=>.cons rfl (i (by rw[pY,Mc]at n;exact n.1) o.l) (j (by rw[pY,Mc]at n;exact n.2) o.r)) (fun _ _=>.nil) (fun i j n o=>.cons rfl (i (by rw[oM,Mc]at n;exact n.1) o.l) (j (by rw[oM,Mc]at n;exact n.2) o.r))
theorem RepT.Lf (ht:TK H H')(n:cv t=true)(o:Kps H H' L)(h:RepT K Hz H t v L):RepT K Z H' t v L:=(Ce ht).1 h n o
abbrev Ev:=List T
abbrev Fm:=List (T×Option V)
noncomputable def rh(K:QT)(Hz H:Hp)(t:T)(x:Option V)(L:List QS):Prop:=(t=.any/\L=[])\/∃v,x=some v/\RepT K Hz H t v L
inductive RepL (K:QT) (Hz H:Hp):Fm->List QS->Prop
 |nil:RepL K Hz H [] []
 |cons {t:T}{x:Option V}{L M N:List QS}{r:Fm} (e:N=L++M) (h:rh K Hz H t x L) (c:RepL K Hz H r M):RepL K Hz H ((t,x)::r) N
def Rp(K:QT)(H:Hp)(Γ:Fm):Prop:=∃Hz L,RepL K Hz H Γ L/\L.Nodup/\Gr Hz H/\∀b∈L,Hz b=none
theorem rh.move (ht:TK H H')(hz:Gr Hz Hz')(ho:∀a∈L,∀u,H a=some u->H' a=some u/\((∀xs,H a≠some (.tup xs))->∀xs,H' a≠some (.tup xs)))(h:rh K Hz H t x L):rh K Hz' H' t x L:=by
 rcases h with⟨rfl,rfl⟩|⟨v,rfl,h⟩
 ·exact .inl ⟨rfl,rfl⟩
 exact .inr ⟨v,rfl,h.move ht hz ho⟩
theorem rh.there (h:rh K Hz H t x L):∀a∈L,(∃u,H a=some u)/\∀xs,H a≠some (.tup xs):=by
 rcases h with⟨rfl,rfl⟩|⟨v,rfl,h⟩
 ·intro a m;cases m
 exact h.there
theorem RepL.move (ht:TK H H')(hz:Gr Hz Hz'):∀{Γ:Fm}{L:List QS},(∀a∈L,∀u,H a=some u->H' a=some u/\((∀xs,H a≠some (.tup xs))->∀xs,H' a≠some (.tup xs)))->RepL K Hz H Γ L->RepL K Hz' H' Γ L:=by
 intro Γ L ho x;induction x with
 |nil=>exact .nil
 |cons e h c ih=>exact .cons e (h.move ht hz fun a m=>ho a (by rw[e];exact y_ _ m)) (ih fun a m=>ho a (by rw[e];exact r_ _ m))
theorem RepL.there :∀{Γ:Fm}{L:List QS},RepL K Hz H Γ L->∀a∈L,(∃u,H a=some u)/\∀xs,H a≠some (.tup xs):=by
 intro Γ L x;induction x with
 |nil=>intro a m;cases m
 |cons e h c ih=>
  intro a m;rw[e]at m;rcases x_.mp m with m|m
  ·exact h.there a m
  exact ih a m
theorem RepL.app :∀{Γ Δ:Fm}{L M:List QS},RepL K Hz H Γ L->RepL K Hz H Δ M->RepL K Hz H (Γ++Δ) (L++M):=by
 intro Γ Δ L M x d;induction x with
 |nil=>exact d
 |cons e h c ih=>exact .cons (by rw[e,l_]) h ih
theorem RepL.split :∀{Γ Δ:Fm}{N:List QS},RepL K Hz H (Γ++Δ) N->∃L M,N=L++M/\RepL K Hz H Γ L/\RepL K Hz H Δ M
 | [],_,N,h=>⟨[],N,rfl,.nil,h⟩
 | (t,x)::r,_,N,.cons e h c=>by obtain⟨L,M,rfl,h1,h2⟩:=c.split;exact⟨_,M,by rw[e,l_],.cons rfl h h1,h2⟩
theorem RepL.perm {Γ Δ:Fm}(p:Γ.Perm Δ):∀{L:List QS},RepL K Hz H Γ L->∃M,L.Perm M/\RepL K Hz H Δ M:=by
 induction p with
 |nil=>intro L h;exact⟨L,.refl _,h⟩
 |cons x q ih=>
  intro L h;cases h with
  |cons e h c=>
   obtain⟨M,p1,h1⟩:=ih c;exact⟨_,by rw[e];exact p1.append_left _,.cons rfl h h1⟩
 |swap x y l=>
  intro L h;cases h with
  |cons e h c=>
   cases c with
   |cons e' h' c'=>
    refine⟨_,?_,.cons rfl h' (.cons rfl h c')⟩;rw[e,e',<-l_,<-l_];exact MB.append_right _
 |trans p q ih1 ih2=>
  intro L h;obtain⟨M,p1,h1⟩:=ih1 h;obtain⟨N,p2,h2⟩:=ih2 h1;exact⟨N,p1.trans p2,h2⟩
theorem Rp.perm {Γ Δ:Fm}(h:Rp K H Γ)(p:Γ.Perm Δ):Rp K H Δ:=by obtain⟨Hz,L,h,nd,g,d⟩:=h;obtain⟨M,q,h'⟩:=h.perm p;exact⟨Hz,M,h',q.nodup_iff.mp nd,g,fun b m=>d b (q.mem_iff.mpr m)⟩
theorem Rp.part {Γ Δ:Fm}(h:Rp K H (Γ++Δ)):Rp K H Δ:=by obtain⟨Hz,L,h,nd,g,d⟩:=h;obtain⟨L1,L2,rfl,_,h2⟩:=h.split;exact⟨Hz,L2,h2,(Mz.mp nd).2.1,g,fun b m=>d b (r_ _ m)⟩
theorem Rp.tail {x:T×Option V}{Γ:Fm}(h:Rp K H (x::Γ)):Rp K H Γ:=Rp.part (Γ:=[x]) h
theorem fB(s:bz H H')(a:QS)(u:HO)(e:H a=some u):H' a=some u/\((∀xs,H a≠some (.tup xs))->∀xs,H' a≠some (.tup xs)):=
 ⟨s _ _ e,fun n xs r=>n xs (by rw[s _ _ e]at r;exact e.trans r)⟩
theorem Rp.same {Γ:Fm}(h:Rp K H Γ)(s:bz H H'):Rp K H' Γ:=by obtain⟨Hz,L,h,nd,g,d⟩:=h;exact⟨Hz,L,h.move (bz.tk s) .bY (fun a m u e=>fB s a u e),nd,g.trans (.of s),d⟩
theorem vY{o:HO}(s:Put H p o H')(a:QS)(n:a≠p)(u:HO)(e:H a=some u):H' a=some u/\((∀xs,H a≠some (.tup xs))->∀xs,H' a≠some (.tup xs)):=
 ⟨by rw[s.else_ a n];exact e,fun m xs r=>m xs (by rw[s.else_ a n]at r;exact r)⟩
theorem RepTs.len :∀{ts:List T}{vs:List V}{L:List QS},RepTs K Hz H ts vs L->ts.length=vs.length:=fun{ts}=>by
 induction ts with
 |nil=>intro vs L h;cases h;rfl
 |cons t ts ih=>
  intro vs L h;cases h with
  |cons _ _ c=>rw[h_,h_,ih c]
noncomputable abbrev zz(ts:List T)(vs:List V):Fm:=ts.zip (vs.map some)
theorem RepTs.toL :∀{ts:List T}{vs:List V}{L:List QS},RepTs K Hz H ts vs L->RepL K Hz H (zz ts vs) L:=fun{ts}=>by
 induction ts with
 |nil=>intro vs L h;cases h;exact .nil
 |cons t ts ih=>
  intro vs L h;cases h with
  |cons e h c=>exact .cons e (.inr ⟨_,rfl,h⟩) (ih c)
theorem RepL.xg :∀{ts:List T}{vs:List V}{L:List QS},ts.length=vs.length->RepL K Hz H (zz ts vs) L->RepTs K Hz H ts vs L
 | [],[],_,_,.nil=>.nil
 | [],v::vs,_,l,_=>by simp at l
 |t::ts,[],_,l,_=>by simp at l
 |t::ts,v::vs,L,l,h=>by
  have h:RepL K Hz H ((t,some v)::zz ts vs) L:=h;cases h with
  |cons e h c=>
   refine .cons e ?_ (c.xg (by simpa using l));rcases h with⟨rfl,rfl⟩|⟨w,e2,h⟩
   ·exact .any
   cases e2;exact h
theorem RepKs.toL :∀{ts:List (Key×T)}{vs:List (Key×V)}{L:List QS},RepKs K Hz H ts vs L->ts.map (·.1)=vs.map (·.1)/\RepTs K Hz H (ts.map (·.2)) (vs.map (·.2)) L:=fun{ts}=>by
 induction ts with
 |nil=>intro vs L h;cases h;exact⟨rfl,.nil⟩
 |cons t ts ih=>
  intro vs L h;cases h with
  |cons e h c=>exact⟨by rw[k_,k_,(ih c).1],.cons e h (ih c).2⟩
theorem RepKs.ofL :∀{ts:List (Key×T)}{vs:List (Key×V)}{L:List QS},ts.map (·.1)=vs.map (·.1)->RepTs K Hz H (ts.map (·.2)) (vs.map (·.2)) L->RepKs K Hz H ts vs L:=fun{ts}=>by
 induction ts with
 |nil=>
  intro vs L e h;cases vs with
  |nil=>cases h;exact .nil
  |cons v vs=>cases e
 |cons t ts ih=>
  intro vs L e h;cases vs with
  |nil=>cases e
  |cons v vs=>
   obtain⟨k,t⟩:=t;obtain⟨k',v⟩:=v;cases h with
   |cons e2 h c=>
    rw[k_,k_,MK]at e;have e0:k=k':=e.1;subst e0;exact .cons e2 h (ih e.2 c)
theorem RepXs.toL :∀{ts:List (List Key×T)}{vs:List (List Key×V)}{L:List QS},RepXs K Hz H ts vs L->ts.map (·.1)=vs.map (·.1)/\RepTs K Hz H (ts.map (·.2)) (vs.map (·.2)) L:=fun{ts}=>by
 induction ts with
 |nil=>intro vs L h;cases h;exact⟨rfl,.nil⟩
 |cons t ts ih=>
  intro vs L h;cases h with
  |cons e h c=>exact⟨by rw[k_,k_,(ih c).1],.cons e h (ih c).2⟩
theorem RepXs.ofL :∀{ts:List (List Key×T)}{vs:List (List Key×V)}{L:List QS},ts.map (·.1)=vs.map (·.1)->RepTs K Hz H (ts.map (·.2)) (vs.map (·.2)) L->RepXs K Hz H ts vs L:=fun{ts}=>by
 induction ts with
 |nil=>
  intro vs L e h;cases vs with
  |nil=>cases h;exact .nil
  |cons v vs=>cases e
 |cons t ts ih=>
  intro vs L e h;cases vs with
  |nil=>cases e
  |cons v vs=>
   obtain⟨k,t⟩:=t;obtain⟨k',v⟩:=v;cases h with
   |cons e2 h c=>
    rw[k_,k_,MK]at e;have e0:k=k':=e.1;subst e0;exact .cons e2 h (ih e.2 c)
theorem D3{o:HO}{Γ Δ:Fm}(h:Rp K H (Γ++Δ))(hp:H p=none)(s:bz H H')(hn:H' p=some o)
  (mk:∀Hz L,RepL K Hz H' Γ L->RepT K Hz H' t (.ref p) (p::L)):Rp K H' ((t,some (.ref p))::Δ):=by
 obtain⟨Hz,N,h,nd,g,d⟩:=h;obtain⟨L,M,rfl,h1,h2⟩:=h.split;have mv:∀a∈L++M,∀u,H a=some u->H' a=some u/\((∀xs,H a≠some (.tup xs))->∀xs,H' a≠some (.tup xs)):=fun a _ u e=>fB s a u e;have h1':=h1.move (bz.tk s) .bY fun a m=>mv a (y_ _ m);have h2':=h2.move (bz.tk s) .bY fun a m=>mv a (r_ _ m);refine⟨Hz,(p::L)++M,.cons rfl (.inr ⟨_,rfl,mk Hz L h1'⟩) h2',?_,g.trans (.of s),?_⟩
 ·rw[Mm,F_];refine⟨fun m=>?_,nd⟩;obtain⟨⟨u,e⟩,_⟩:=h.there p m;rw[hp]at e;cases e
 intro b m;rcases p_.mp m with rfl|m
 ·exact g.none hp
 exact d b m
theorem fu{Δ:Fm}(h:Rp K H (zz ts vs++Δ))(l:ts.length=vs.length)(hp:H p=none)(s:bz H H')(hn:H' p=some (.lst vs)):Rp K H' ((.lst true ts,some (.ref p))::Δ):=
 D3 h hp s hn fun _ _ q=>.lstO hn (q.xg l)
theorem eO{Δ:Fm}(h:Rp K H (zz ts vs++Δ))(l:ts.length=vs.length)(s:bz H H')(hn:H' p=some (.tup vs)):Rp K H' ((.tup ts,some (.ref p))::Δ):=by obtain⟨Hz,N,h,nd,g,d⟩:=h.same s;obtain⟨L,M,rfl,h1,h2⟩:=h.split;exact⟨Hz,L++M,.cons rfl (.inr ⟨_,rfl,.tup hn (h1.xg l)⟩) h2,nd,g,d⟩
theorem dM{Γ:Fm}(h:Rp K H ((.lst true ts,x)::Γ)):∃a vs,x=some (.ref a)/\H a=some (.lst vs)/\ts.length=vs.length/\Rp K H ((.bare,some (.ref a))::(zz ts vs++Γ)):=by
 obtain⟨Hz,N,h,nd,g,d⟩:=h;cases h with
 |cons e h c=>
  rcases h with⟨h,_⟩|⟨v,rfl,h⟩
  ·cases h
  cases h with
  |lstO h1 c1=>
   refine⟨_,_,rfl,h1,c1.len,Hz,N,.cons (L:=[_]) (M:=_++_) (by rw[e];rfl) (.inr ⟨_,rfl,.bare h1 fun xs r=>?_⟩) (c1.toL.app c),nd,g,d⟩;rw[h1]at r;cases r
theorem u9{o:HO}{Γ Δ:Fm}(h:Rp K H ((.bare,some (.ref a))::(Γ++Δ)))(p:Put H a o H')
  (mk:∀Hz L,RepL K Hz H' Γ L->RepT K Hz H' t (.ref a) (a::L)):Rp K H' ((t,some (.ref a))::Δ):=by
 obtain⟨Hz,N,h,nd,g,d⟩:=h;cases h with
 |cons e h c=>
  rcases h with⟨h,_⟩|⟨v,ev,h⟩
  ·cases h
  cases ev;cases h with
  |bare h1 nt=>
   obtain⟨L,M,e2,h2,h3⟩:=c.split;subst e;subst e2;rw[Oj,F_]at nd;have tk:TK H H':=Put.tk p nt;have ne:∀b∈L++M,b≠a:=fun b m z=>nd.1 (z▸m);have g':Gr Hz H':=fun b u r=>by
    have hb:b≠a:=fun z=>by obtain⟨w,q⟩:=Rd.some r;rw[z,d a (by rw[Oj];exact u_)]at q;cases q
    rcases g b u r with r|⟨o,r⟩
    ·exact .inl (by rw[p.else_ b hb];exact r)
    exact .inr ⟨o,by rw[p.else_ b hb];exact r⟩
   refine⟨Hz,(a::L)++M,.cons rfl (.inr ⟨_,rfl,mk Hz L ?_⟩) ?_,?_,g',?_⟩
   ·exact h2.move tk .bY fun b m=>vY p b (ne b (y_ _ m))
   ·exact h3.move tk .bY fun b m=>vY p b (ne b (r_ _ m))
   ·rw[Mm,F_];exact nd
   exact d
theorem eF{Γ:Fm}(h:Rp K H ((.bare,some (.ref a))::(zz ts vs++Γ)))(l:ts.length=vs.length)(p:Put H a (.lst vs) H'):Rp K H' ((.lst true ts,some (.ref a))::Γ):=
 u9 h p fun _ _ q=>.lstO p.at_ (q.xg l)
theorem qc{ts:List (Key×T)}{Γ:Fm}(h:Rp K H ((.dK true ts,x)::Γ)):∃a vs,x=some (.ref a)/\H a=some (.dK vs)/\ts.map (·.1)=vs.map (·.1)/\Rp K H ((.bare,some (.ref a))::(zz (ts.map (·.2)) (vs.map (·.2))++Γ)):=by
 obtain⟨Hz,N,h,nd,g,d⟩:=h;cases h with
 |cons e h c=>
  rcases h with⟨h,_⟩|⟨v,rfl,h⟩
  ·cases h
  cases h with
  |dKO h1 c1=>
   obtain⟨e1,c2⟩:=c1.toL;refine⟨_,_,rfl,h1,e1,Hz,N,.cons (L:=[_]) (M:=_++_) (by rw[e];rfl) (.inr ⟨_,rfl,.bare h1 fun xs r=>?_⟩) (c2.toL.app c),nd,g,d⟩;rw[h1]at r;cases r
theorem BM{ts:List (List Key×T)}{Γ:Fm}(h:Rp K H ((.dT true ts,x)::Γ)):∃a vs,x=some (.ref a)/\H a=some (.dT vs)/\ts.map (·.1)=vs.map (·.1)/\Rp K H ((.bare,some (.ref a))::(zz (ts.map (·.2)) (vs.map (·.2))++Γ)):=by
 obtain⟨Hz,N,h,nd,g,d⟩:=h;cases h with
 |cons e h c=>
  rcases h with⟨h,_⟩|⟨v,rfl,h⟩
  ·cases h
  cases h with
  |dTO h1 c1=>
   obtain⟨e1,c2⟩:=c1.toL;refine⟨_,_,rfl,h1,e1,Hz,N,.cons (L:=[_]) (M:=_++_) (by rw[e];rfl) (.inr ⟨_,rfl,.bare h1 fun xs r=>?_⟩) (c2.toL.app c),nd,g,d⟩;rw[h1]at r;cases r
theorem bX{κ β:Type}{ts:List (κ×α)}{vs:List (κ×β)}(e:ts.map (·.1)=vs.map (·.1)):ts.length=vs.length:=by have:=congrArg N_ e;rwa[a_,a_]at this
theorem sE{ts:List (Key×T)}{vs:List (Key×V)}{Γ:Fm}(h:Rp K H ((.bare,some (.ref a))::(zz (ts.map (·.2)) (vs.map (·.2))++Γ)))(l:ts.map (·.1)=vs.map (·.1))(p:Put H a (.dK vs) H'):Rp K H' ((.dK true ts,some (.ref a))::Γ):=
 u9 h p fun _ _ q=>.dKO p.at_ (RepKs.ofL l (q.xg (by rw[a_,a_];exact bX l)))
theorem AZ{ts:List (List Key×T)}{vs:List (List Key×V)}{Γ:Fm}(h:Rp K H ((.bare,some (.ref a))::(zz (ts.map (·.2)) (vs.map (·.2))++Γ)))(l:ts.map (·.1)=vs.map (·.1))(p:Put H a (.dT vs) H'):Rp K H' ((.dT true ts,some (.ref a))::Γ):=
 u9 h p fun _ _ q=>.dTO p.at_ (RepXs.ofL l (q.xg (by rw[a_,a_];exact bX l)))
theorem Fb{Δ:Fm}(h:Rp K H Δ)(hp:H p=none)(s:bz H H')(hn:H' p=some (.dT [])):Rp K H' ((.dT true [],some (.ref p))::Δ):=
 D3 (Γ:=[]) h hp s hn fun _ _ q=>by cases q;exact .dTO hn .nil
theorem qq{Γ:Fm}(h:Rp K H ((t,x)::Γ)):Rp K H ((er t,x)::Γ):=by
 obtain⟨Hz,N,h,nd,g,d⟩:=h;cases h with
 | @cons _ _ L M _ _ e h c=>
  rcases h with⟨rfl,rfl⟩|⟨v,rfl,h⟩
  ·exact⟨Hz,N,.cons e (.inl ⟨rfl,rfl⟩) c,nd,g,d⟩
  subst e;have dz:∀b∈L,Hz b=none:=fun b m=>d b (y_ _ m)
  let Z:Hp:=fun b=>if b∈L then H b else Hz b
  have hz:Gr Hz Z:=fun b u r=>by
   have nb:b ∉ L:=fun m=>by obtain⟨w,q⟩:=Rd.some r;rw[dz b m]at q;cases q
   rcases r with r|⟨o,r⟩
   ·exact .inl (by show(if b∈L then H b else Hz b)=_;rw[if_neg nb];exact r)
   exact .inr ⟨o,by show(if b∈L then H b else Hz b)=_;rw[if_neg nb];exact r⟩
  have zh:Gr Z H:=fun b u r=>by
   by_cases nb:b∈L
   ·rcases r with r|⟨o,r⟩
    ·exact .inl (by have r:(if b∈L then H b else Hz b)=_:=r;rw[if_pos nb]at r;exact r)
    exact .inr ⟨o,by have r:(if b∈L then H b else Hz b)=_:=r;rw[if_pos nb]at r;exact r⟩
   refine g b u ?_;rcases r with r|⟨o,r⟩
   ·exact .inl (by have r:(if b∈L then H b else Hz b)=_:=r;rw[if_neg nb]at r;exact r)
   exact .inr ⟨o,by have r:(if b∈L then H b else Hz b)=_:=r;rw[if_neg nb]at r;exact r⟩
  have nd2:=Mz.mp nd;refine⟨Z,[]++M,.cons rfl (.inr ⟨v,rfl,h.frz hz fun b m=>?_⟩) (c.move (fun _ _ r=>r) hz fun b m u e=>⟨e,fun n=>n⟩),nd2.2.1,zh,fun b m=>?_⟩
  ·show(if b∈L then H b else Hz b)=_;rw[if_pos m]
  show(if b∈L then H b else Hz b)=_;rw[if_neg (fun z=>nd2.2.2 b z b m rfl)];exact d b (r_ _ m)
theorem lU{Γ:Fm}(h:Rp K H ((t,x)::Γ))(n:aW t=true):Rp K H ((t,x)::(t,x)::Γ):=by
 obtain⟨Hz,N,h,nd,g,d⟩:=h;cases h with
 | @cons _ _ L M _ _ e h c=>
  have hL:L=[]:=by
   rcases h with⟨_,rfl⟩|⟨v,_,h⟩
   ·rfl
   exact h.nil_of n
  subst hL;exact⟨Hz,N,.cons (L:=[]) (M:=N) rfl h (.cons e h c),nd,g,d⟩
theorem rh.view (g:Gr Hz H)(h:rh K Hz H t x L):rh K H H (er t) x []:=by
 rcases h with⟨rfl,rfl⟩|⟨v,rfl,h⟩
 ·exact .inl ⟨rfl,rfl⟩
 exact .inr ⟨v,rfl,h.frz g fun _ _=>rfl⟩
theorem RepL.view (g:Gr Hz H):∀{Γ:Fm}{L:List QS},RepL K Hz H Γ L->RepL K H H (Γ.map fun p=>(er p.1,p.2)) []:=by
 intro Γ L x;induction x with
 |nil=>exact .nil
 |cons e h c ih=>exact .cons rfl (h.view g) ih
theorem tB{Γ:Fm}(h:Rp K H Γ):Rp K H ((Γ.map fun p=>(er p.1,p.2))++[(.kp H,some .non)]):=by obtain⟨Hz,N,h,nd,g,d⟩:=h;refine⟨H,[]++[],(h.view g).app (.cons rfl (.inr ⟨_,rfl,.kp .bY⟩) .nil),MG,.bY,fun b m=>by cases m⟩
noncomputable def over(H H':Hp):Hp:=fun b=>match H b with
 |some u=>some u
 |none=>H' b
theorem fv{b:QS}{u:HO}(e:H b=some u):over H H' b=some u:=by unfold over;rw[e]
theorem nE{b:QS}(e:H b=none):over H H' b=H' b:=by unfold over;rw[e]
theorem An(H H':Hp):bz H (over H H'):=fun b u e=>fv e
theorem uD(g:Gr H H'){b:QS}:over H H' b=H' b\/∃o u,H' b=some (.frz o u)/\over H H' b=some u:=by
 cases q:H b with
 |none=>exact .inl (nE q)
 |some u=>
  rw[fv q];rcases g b u (.inl q)with r|⟨o,r⟩
  ·exact .inl r.symm
  exact .inr ⟨o,u,r,rfl⟩
theorem vE(g:Gr H H'){b:QS}(r:H' b=some (.tup xs)):over H H' b=some (.tup xs):=by
 rcases uD g (b:=b)with e|⟨o,u,e,_⟩
 ·rw[e];exact r
 rw[r]at e;cases e
theorem uC{Γ Δ:Fm}(h:Rp K H Γ)(q:Rp K H' ((t,x)::(Δ++[(.kp H,some .non)])))(n:cv t=true):Gr H H'/\Rp K (over H H') ((t,x)::Γ):=by
 obtain⟨Hy,N',q,nd',g',d'⟩:=q;cases q with
 | @cons _ _ L M _ _ e h1 c=>
  have hkp:Gr H Hy:=by
   obtain⟨_,_,_,_,c2⟩:=c.split;cases c2 with
   |cons _ h2 _=>
    rcases h2 with⟨z,_⟩|⟨_,_,h2⟩
    ·cases z
    cases h2 with
    |kp z=>exact z
  have gr:=hkp.trans g';refine⟨gr,?_⟩;subst e;have nd2:=Mz.mp nd';have hL:∀b∈L,H b=none:=fun b m=>hkp.none (d' b (y_ _ m));obtain⟨Hz,N,h,nd,g,d⟩:=h;have so:=An H H';have tk:TK H' (over H H'):=fun b xs r=>vE gr r;have h1':rh K Hz (over H H') t x L:=by
   rcases h1 with⟨rfl,rfl⟩|⟨v,rfl,h1⟩
   ·exact .inl ⟨rfl,rfl⟩
   refine .inr ⟨v,rfl,h1.Lf tk n fun b m u e=>?_⟩;have eo:=nE (H':=H') (hL b m);exact⟨eo.trans e,fun nt xs r=>nt xs (by rw[<-eo];exact r)⟩
  refine⟨Hz,L++N,.cons rfl h1' (h.move (bz.tk so) .bY fun b m u e=>fB so b u e),?_,g.trans (.of so),?_⟩
  ·rw[Mz];refine⟨nd2.1,nd,fun b m b' m' z=>?_⟩;subst z;obtain⟨⟨u,e⟩,_⟩:=h.there b m';rw[hL b m]at e;cases e
  intro b m;rcases x_.mp m with m|m
  ·exact g.none (hL b m)
  exact d b m
theorem qy:∀{ts:List T}{vs:List V}{i:Nat}{t:T},ts.length=vs.length->ts[i]?=some t->∃w,vs[i]?=some w
 |ts,vs,i,t,l,e=>by have h:i<ts.length:=(c_.mp e).1;exact⟨vs[i]'(by omega),d_ (by omega)⟩
theorem mZ{α:Type}:∀{l:List α}{i:Nat}{x y:α},l[i]?=some y->(l.set i x).set i y=l
 | [],i,x,y,e=>by simp at e
 |a::l,0,x,y,e=>by simp at e;subst e;rfl
 |a::l,i+1,x,y,e=>by simp only[MJ]at e;rw[OD,OD,mZ e]
end
theorem pz{α β:Type}:∀{l:List α}{m:List β}{i:Nat}{a:α}{b:β} (t:α) (y:β),l[i]?=some a->m[i]?=some b->((a,b)::(l.set i t).zip (m.set i y)).Perm ((t,y)::l.zip m)
 | [],m,i,a,b,t,y,h,_=>by simp at h
 |x::l,[],i,a,b,t,y,_,h=>by simp at h
 |x::l,z::m,0,a,b,t,y,h,g=>by simp only[MX,N6]at h g;subst h;subst g;exact .swap _ _ _
 |x::l,z::m,i+1,a,b,t,y,h,g=>by simp only[MJ]at h g;have p:=pz t y h g;show Qs ((a,b)::(x,z)::(l.set i t).zip (m.set i y)) ((t,y)::(x,z)::l.zip m);exact(M3 _ _ _).trans ((p.cons _).trans (.swap _ _ _))
variable {i:Nat}
theorem set_same{l:List α}{x:α}(h:l[i]?=some x):l.set i x=l:=by have:=mZ (x:=x) h;rw[OY]at this;exact this
variable {Fr Γ:Fm}{env:Ev}{σ:St}
section
variable{K:QT}
def Rs(K:QT)(H:Hp)(env:Ev)(σ:St)(Fr:Fm):Prop:=env.length=σ.length/\Rp K H (env.zip σ++Fr)
theorem iR(h:Rp K H Γ):Rp K H ((.any,x)::Γ):=by obtain⟨Hz,N,h,nd,g,d⟩:=h;exact⟨Hz,N,.cons (L:=[]) rfl (.inl ⟨rfl,rfl⟩) h,nd,g,d⟩
theorem Rs.perm {Gr:Fm}(h:Rs K H env σ Fr)(p:Fr.Perm Gr):Rs K H env σ Gr:=⟨h.1,h.2.perm (p.append_left _)⟩
theorem Rs.drop {x:T×Option V}(h:Rs K H env σ (x::Fr)):Rs K H env σ Fr:=⟨h.1,(h.2.perm i_).tail⟩
theorem Rs.head {x:T×Option V}(h:Rs K H env σ (x::Fr)):Rp K H (x::(env.zip σ++Fr)):=h.2.perm i_
theorem Rs.of {x:T×Option V}(l:env.length=σ.length)(h:Rp K H (x::(env.zip σ++Fr))):Rs K H env σ (x::Fr):=⟨l,h.perm i_.symm⟩
theorem Rs.chg {Δ Δ':Fm}(h:Rs K H env σ (Δ++Fr))(f:∀ Γ,Rp K H (Δ++Γ)->Rp K H' (Δ'++Γ)):Rs K H' env σ (Δ'++Fr):=by
 refine⟨h.1,?_⟩;have p:∀A:Fm,(A++(env.zip σ++Fr)).Perm (env.zip σ++(A++Fr)):=fun A=>by rw[<-l_,<-l_];exact MB.append_right _
 exact(f _ (h.2.perm (p Δ).symm)).perm (p Δ')
theorem Rs.slot (h:Rs K H env σ Fr)(e:env[i]?=some t):∃x,σ[i]?=some x/\Rs K H (env.set i .any) σ ((t,x)::Fr):=by
 have hi:i<env.length:=(c_.mp e).1;have hs:i<σ.length:=by rw[<-h.1];exact hi
 have ex:σ[i]?=some σ[i]:=d_ hs;refine⟨σ[i],ex,by rw[LX];exact h.1,?_⟩;have p:=pz (T.any) σ[i] e ex;rw[set_same ex]at p;refine(iR (x:=σ[i]) h.2).perm ?_;refine D' ?_ i_.symm;exact(p.symm.append_right Fr)
theorem Rs.nD (h:Rs K H env σ ((t,x)::Fr))(hi:i<env.length)(ex:σ[i]?=some x):Rs K H (env.set i t) σ Fr:=by have e:env[i]?=some env[i]:=d_ hi;refine⟨by rw[LX];exact h.1,?_⟩;have p:=pz t x e ex;rw[set_same ex]at p;refine Rp.tail (x:=(env[i],x)) (h.2.perm ?_);refine i_.trans ?_;exact(p.symm.append_right Fr)
theorem Rs.store (h:Rs K H env σ ((t,some v)::Fr))(hi:i<env.length):Rs K H (env.set i t) (σ.set i (some v)) Fr:=by
 have e:env[i]?=some env[i]:=d_ hi;have hs:i<σ.length:=by rw[<-h.1];exact hi
 have ex:σ[i]?=some σ[i]:=d_ hs;refine⟨by rw[LX,LX];exact h.1,?_⟩;have p:=pz t (some v) e ex;refine Rp.tail (x:=(env[i],σ[i])) (h.2.perm ?_);refine i_.trans ?_;exact(p.symm.append_right Fr)
end
variable {X:Cx}{ac:List (QS×Obj)}{s:QV}
theorem pA{σ':St}{s':QV}(I:Inv X ac σ H s)(J:Inv X ac σ' H' s')(g:Gr H H'):Inv X ac σ' (over H H') s':=by
 have nn:∀b,H' b=none->over H H' b=none:=fun b e=>by rw[nE (g.none e)];exact e
 refine⟨J.ok,J.os,J.bare,⟨J.base.keep,J.base.slot,?_,J.base.there,?_,?_,?_⟩,J.loc,J.cell,nn _ J.free,fun x c e=>nn _ (J.freeC x c e),fun p hp=>?_,?_,J.len⟩
 ·exact fun b o e1 e2 e3=>nn _ (J.base.free b o e1 e2 e3)
 ·exact fun b xs e=>fv (I.base.tups b xs e)
 ·exact fun b o u e=>fv (I.base.frzs b o u e)
 ·exact fun b ps e=>by obtain⟨m,em⟩:=I.base.tbls b ps e;exact⟨m,fv em⟩
 ·obtain⟨h1,h2,h3⟩:=J.pin p hp;exact⟨h1,nn _ h2,h3⟩
 intro b u e;have ho:∀c y,H' c=some (.own y)->over H H' c=some (.own y):=fun c y q=>by
  rcases uD g (b:=c)with z|⟨o,w,z,_⟩
  ·rw[z];exact q
  rw[q]at z;cases z
 have ht:∀c xs,H' c=some (.tup xs)->over H H' c=some (.tup xs):=fun c xs q=>vE g q;have key:b6 X.prog X.w H' s'.heap b u:=by
  rcases uD g (b:=b)with z|⟨o,w,z,zw⟩
  ·rw[z]at e;exact J.hok b u e
  rw[zw]at e;cases e;exact(J.hok b _ z).2
 exact key.o8 (fun c v _ q=>q) (fun c=>ho c b) ht
variable {e:Q9}
theorem DO{t:TE}(h:PE X e t):PE X e (fun σ H Q=>t σ H fun v H'=>Gr H H'/\Q v (over H H')):=fun ac s σ H Q I q=>
 thn (h ac s σ H _ I q) fun u s' ⟨v,H',I',r,g,q'⟩=>⟨v,over H H',pA I I' g,r,q'⟩
theorem Ej{t:TT}(h:PT X e t):PT X e (fun σ H Q=>t σ H fun b H'=>Gr H H'/\Q b (over H H')):=fun ac s σ H Q I q=>
 thn (h ac s σ H _ I q) fun b s' ⟨H',I',g,q'⟩=>⟨over H H',pA I I' g,q'⟩
abbrev PF:=Ev->(T->Ev->Prop)->Prop
abbrev PB:=Ev->(Bool->Ev->Prop)->Prop
abbrev PFs:=Ev->(List T->Ev->Prop)->Prop
def wE(K:QT)(f:PF):TE:=fun σ H Q=>∃env Fr k,Rs K H env σ Fr/\f env k/\∀t env' v H',k t env'->Rs K H' env' σ ((t,some v)::Fr)->Q v H'
def wB(K:QT)(f:PB):TT:=fun σ H Q=>∃env Fr k,Rs K H env σ Fr/\f env k/\∀b env' H',k b env'->Rs K H' env' σ Fr->Q b H'
def wA(K:QT)(f:PFs):TA:=fun σ H Q=>∃env Fr k,Rs K H env σ Fr/\f env k/\∀ts env' vs H',k ts env'->ts.length=vs.length->Rs K H' env' σ (zz ts vs++Fr)->Q vs H'
def GE(X:Cx)(e:Q9)(f:PF):Prop:=PE X e (wE X.K f)
def GT(X:Cx)(e:Q9)(f:PB):Prop:=PT X e (wB X.K f)
def GW(X:Cx)(e:Q9)(f:PB):Prop:=PW X e (wB X.K f)
def GA(X:Cx)(es:List Q9)(f:PFs):Prop:=PA X es (wA X.K f)
theorem PE.imp {t t':TE}(h:PE X e t)(k:∀ σ H Q,t' σ H Q->t σ H Q):PE X e t':=fun ac s σ H Q I q=>h ac s σ H Q I (k _ _ _ q)
theorem PT.imp {t t':TT}(h:PT X e t)(k:∀ σ H Q,t' σ H Q->t σ H Q):PT X e t':=fun ac s σ H Q I q=>h ac s σ H Q I (k _ _ _ q)
theorem PW.imp {t t':TT}(h:PW X e t)(k:∀ σ H Q,t' σ H Q->t σ H Q):PW X e t':=fun wh ac s σ H Q I q=>h wh ac s σ H Q I (k _ _ _ q)
variable {es:List Q9}
theorem PA.imp {t t':TA}(h:PA X es t)(k:∀ σ H Q,t' σ H Q->t σ H Q):PA X es t':=fun pos ac s σ H Q I q=>h pos ac s σ H Q I (k _ _ _ q)
def fQ(f:PF):PF:=fun env k=>f (erL env) fun t _=>cv t=true/\k t env
def fQT(f:PB):PB:=fun env k=>f (erL env) fun b _=>k b env
theorem oV:∀(env:Ev) (σ:St),(env.zip σ).map (fun p=>(er p.1,p.2))=(erL env).zip σ
 | [],σ=>by simp[erL]
 |t::env,[]=>by simp
 |t::env,x::σ=>by rw[erL,PU,k_,PU,oV env σ]
theorem aB{X:Cx}{e:Q9}{f:PF}(h:GE X e f):GE X e (fQ f):=by
 refine PE.imp (DO h) ?_;rintro σ H Q ⟨env,Fr,k,rs,q,c⟩;have rv:Rs X.K H (erL env) σ ((Fr.map fun p=>(er p.1,p.2))++[(.kp H,some .non)]):=by refine⟨by rw[uI];exact rs.1,?_⟩;have:=tB rs.2;rw[q_,oV,l_]at this;exact this
 refine⟨erL env,_,_,rv,q,?_⟩;rintro t env' v H' ⟨n,kt⟩ rs';obtain⟨g,r2⟩:=uC rs.2 (Δ:=env'.zip σ++(Fr.map fun p=>(er p.1,p.2))) (by rw[l_];exact rs'.head) n;exact⟨g,c t env v _ kt (.of rs.1 r2)⟩
variable {K:QT}
theorem Cp{Δ:Fm}(h:Rp K H Γ)(q:Rp K H' (Δ++[(.kp H,some .non)])):Gr H H'/\Rp K (over H H') Γ:=by obtain⟨g,r⟩:=uC (t:=.any) (x:=none) h (iR q) rfl;exact⟨g,r.tail⟩
theorem ck{f:PB}(h:GT X e f):GT X e (fQT f):=by
 refine PT.imp (Ej h) ?_;rintro σ H Q ⟨env,Fr,k,rs,q,c⟩;have rv:Rs X.K H (erL env) σ ((Fr.map fun p=>(er p.1,p.2))++[(.kp H,some .non)]):=by refine⟨by rw[uI];exact rs.1,?_⟩;have:=tB rs.2;rw[q_,oV,l_]at this;exact this
 refine⟨erL env,_,_,rv,q,?_⟩;rintro b env' H' kt rs';obtain⟨g,r2⟩:=Cp rs.2 (Δ:=env'.zip σ++(Fr.map fun p=>(er p.1,p.2))) (by rw[l_];exact rs'.2);exact⟨g,c b env _ kt ⟨rs.1,r2⟩⟩
noncomputable def fK(t:T):PF:=fun env k=>k t env
variable {b:Bool}{j:Nat}
section
variable{X:Cx}{pos:Pos}
theorem fm(h:Rs K H env σ Fr)(r:∀Hz,RepT K Hz H t v []):Rs K H env σ ((t,some v)::Fr):=by refine .of h.1 ?_;obtain⟨Hz,N,q,nd,g,d⟩:=h.2;exact⟨Hz,N,.cons (L:=[]) rfl (.inr ⟨v,rfl,r Hz⟩) q,nd,g,d⟩
theorem ge_int{i:Int}{j:Nat}:GE X (.Constant (.int i) j pos) (fK (.int i)):=PE.imp cc (by rintro σ H Q ⟨env,Fr,k,rs,q,c⟩;exact c _ _ _ _ q (fm rs fun _=>.int))
theorem cG:GE X (.Constant (.bool b) j pos) (fK (.bl b)):=PE.imp Jp (by rintro σ H Q ⟨env,Fr,k,rs,q,c⟩;exact c _ _ _ _ q (fm rs fun _=>.bl))
theorem nZ:GE X (.Constant .none j pos) (fK .non):=PE.imp GJ (by rintro σ H Q ⟨env,Fr,k,rs,q,c⟩;exact c _ _ _ _ q (fm rs fun _=>.non))
theorem ge_str{x:Str}:GE X (.Constant (.str x) j pos) (fK (.str x)):=PE.imp iZ (by rintro σ H Q ⟨env,Fr,k,rs,q,c⟩;exact c _ _ _ _ q (fm rs fun _=>.str))
theorem E3{x:Str}{u:QR}(hg:Gl X x)(hm:X.mg x=some u)(r:RelV v u)(ht:∀Hz H,RepT X.K Hz H t v [])(hd:(x ==("__debug__":Str))=false:=by decide):GE X (.Name x pos) (fK t):=
 PE.imp (Em hg hm r hd) fun σ H Q ⟨env,Fr,k,rs,q,c⟩=>c _ _ _ _ q (fm rs fun Hz=>ht Hz H)
noncomputable def isAny:T->Bool
 | .any=>true
 | _=>false
def FJ(i:Nat):PF:=fun env k=>match env[i]? with
 |some t=>isAny t=false/\aW t=true/\k t env
 |none=>False
def fFz(i:Nat):PF:=fun env k=>match env[i]? with
 |some t=>isAny t=false/\k (er t) (env.set i (er t))
 |none=>False
def fMv(i:Nat):PF:=fun env k=>match env[i]? with
 |some t=>isAny t=false/\k t (env.set i .any)
 |none=>False
theorem eM(h:Rs K H env σ ((t,x)::Fr))(n:isAny t=false):∃v,x=some v:=by
 obtain⟨Hz,N,q,_⟩:=h.head;cases q with
 |cons e h c=>
  rcases h with⟨rfl,_⟩|⟨v,e,_⟩
  ·cases n
  exact⟨v,e⟩
theorem ae(i:Nat){x:Str}(hN:X.N[i]?=some x:=by rfl)(hv:Vis X.env.scope x:=by first|exact f_ rfl|exact v_ (f_ rfl)|exact v_ (v_ rfl))(hd:(x ==("__debug__":Str))=false:=by decide)(hcd:(x ==("__classdict__":Str))=false:=by decide):GE X (.Name x pos) (FJ i):=by
 refine PE.imp (jt hN hv hd hcd) ?_;rintro σ H Q ⟨env,Fr,k,rs,q,c⟩;unfold FJ at q;split at q
 ·rename_i t e;obtain⟨na,no,q⟩:=q;obtain⟨y,ey,rs2⟩:=rs.slot e;obtain⟨v,rfl⟩:=eM rs2 na;refine⟨v,ey,c _ _ _ _ q ?_⟩;have hi:i<env.length:=(c_.mp e).1;have r3:Rs X.K H (env.set i .any) σ ((t,some v)::(t,some v)::Fr):=.of rs2.1 ((lU rs2.head no).perm (by refine OB _ ?_;exact i_.symm))
  have r4:=Rs.nD (i:=i) r3 (by rw[LX];exact hi) ey;rw[mZ e]at r4;exact r4
 exact q.elim
theorem bc(i:Nat){x:Str}(hN:X.N[i]?=some x:=by rfl)(hv:Vis X.env.scope x:=by first|exact f_ rfl|exact v_ (f_ rfl)|exact v_ (v_ rfl))(hd:(x ==("__debug__":Str))=false:=by decide)(hcd:(x ==("__classdict__":Str))=false:=by decide):GE X (.Name x pos) (fFz i):=by
 refine PE.imp (jt hN hv hd hcd) ?_;rintro σ H Q ⟨env,Fr,k,rs,q,c⟩;unfold fFz at q;split at q
 ·rename_i t e;obtain⟨na,q⟩:=q;obtain⟨y,ey,rs2⟩:=rs.slot e;obtain⟨v,rfl⟩:=eM rs2 na;refine⟨v,ey,c _ _ _ _ q ?_⟩;have hi:i<env.length:=(c_.mp e).1;have no:aW (er t)=true:=bB t;have r3:Rs X.K H (env.set i .any) σ ((er t,some v)::(er t,some v)::Fr):=.of rs2.1 ((lU (qq rs2.head) no).perm (by refine OB _ ?_;exact i_.symm))
  have r4:=Rs.nD (i:=i) r3 (by rw[LX];exact hi) ey;rw[OY]at r4;exact r4
 exact q.elim
theorem qt(i:Nat){x:Str}(hN:X.N[i]?=some x:=by rfl)(hv:Vis X.env.scope x:=by first|exact f_ rfl|exact v_ (f_ rfl)|exact v_ (v_ rfl))(hd:(x ==("__debug__":Str))=false:=by decide)(hcd:(x ==("__classdict__":Str))=false:=by decide):GE X (.Name x pos) (fMv i):=by
 refine PE.imp (jt hN hv hd hcd) ?_;rintro σ H Q ⟨env,Fr,k,rs,q,c⟩;unfold fMv at q;split at q
 ·rename_i t e;obtain⟨na,q⟩:=q;obtain⟨y,ey,rs2⟩:=rs.slot e;obtain⟨v,rfl⟩:=eM rs2 na;exact⟨v,ey,c _ _ _ _ q rs2⟩
 exact q.elim
end
variable {y:V}
section
variable{K:QT}{H:Hp}{Γ:Fm}
theorem iu(h:Rp K H ((t,some y)::Γ))(n:isAny t=false):∃Hz L,RepT K Hz H t y L/\Gr Hz H:=by
 obtain⟨Hz,N,h,nd,g,d⟩:=h;cases h with
 |cons e h c=>
  rcases h with⟨rfl,_⟩|⟨v,e2,h⟩
  ·cases n
  cases e2;exact⟨Hz,_,h,g⟩
theorem aJ{i:Int}(h:Rp K H ((.int i,some y)::Γ)):y=.int i:=by obtain⟨_,_,r,_⟩:=iu h rfl;cases r;rfl
theorem jP{i:Bool}(h:Rp K H ((.bl i,some y)::Γ)):y=.bl i:=by obtain⟨_,_,r,_⟩:=iu h rfl;cases r;rfl
theorem hX{i:Str}(h:Rp K H ((.str i,some y)::Γ)):y=.str i:=by obtain⟨_,_,r,_⟩:=iu h rfl;cases r;rfl
theorem tS(h:Rp K H ((.non,some y)::Γ)):y=.non:=by obtain⟨_,_,r,_⟩:=iu h rfl;cases r;rfl
theorem bQ(h:Rp K H Γ)(r:∀Hz,RepT K Hz H t v []):Rp K H ((t,some v)::Γ):=by obtain⟨Hz,N,q,nd,g,d⟩:=h;exact⟨Hz,N,.cons (L:=[]) rfl (.inr ⟨v,rfl,r Hz⟩) q,nd,g,d⟩
noncomputable def items:T->Option (List T)
 | .tup ts=>some ts
 | .cst ts=>some ts
 | .lst _ ts=>some ts
 | _=>none
noncomputable def iX:T->Bool
 | .tup _=>true
 | .cst _=>true
 | _=>false
theorem Fn(h:SqT K (fun _=>none) a vs)(H:Hp):SqT K H a vs:=by
 rcases h with (h|⟨_,h⟩)|h
 ·cases h
 ·cases h
 exact .inr h
theorem aD(e:items t=some ts)(h:Rp K H ((t,some y)::Γ)):∃a vs,y=.ref a/\SqG (iX t) K H a vs/\ts.length=vs.length/\Rp K H (zz ts vs++Γ):=by
 obtain⟨Hz,N,h,nd,g,d⟩:=h;cases h with
 |cons e1 h c=>
  rcases h with⟨rfl,_⟩|⟨v,e2,h⟩
  ·cases e
  cases e2;cases h <;> cases e
  ·rename_i a vs h c1;exact⟨a,vs,rfl,SqT.of h,c1.len,Hz,_,c1.toL.app c,by rw[<-e1];exact nd,g,fun b m=>d b (by rw[e1];exact m)⟩
  ·rename_i a vs h c1;exact⟨a,vs,rfl,Fn h H,c1.len,Hz,_,c1.toL.app c,by rw[<-e1];exact nd,g,fun b m=>d b (by rw[e1];exact m)⟩
  ·rename_i a vs L h c1;rw[e1,Mm,F_]at nd;exact⟨a,vs,rfl,SqL.of h,c1.len,Hz,_,c1.toL.app c,nd.2,g,fun b m=>d b (by rw[e1,Mm];exact n_ _ m)⟩
  rename_i a vs h c1;exact⟨a,vs,rfl,.inl (g _ _ h),c1.len,Hz,_,c1.toL.app c,by rw[<-e1];exact nd,g,fun b m=>d b (by rw[e1];exact m)⟩
theorem zC:∀{ts:List T}{vs:List V}{i:Nat}{t:T}{w:V},ts[i]?=some t->vs[i]?=some w->∃r,(zz ts vs).Perm ((t,some w)::r)
 | [],vs,i,t,w,e,f=>by simp at e
 |t::ts,[],i,_,w,e,f=>by simp at f
 |t::ts,v::vs,0,u,w,e,f=>by simp only[MX,N6]at e f;subst e;subst f;exact⟨_,.refl _⟩
 |t::ts,v::vs,i+1,u,w,e,f=>by simp only[MJ]at e f;obtain⟨r,h⟩:=zC (ts:=ts) (vs:=vs) e f;exact⟨(t,some v)::r,(h.cons _).trans (.swap _ _ _)⟩
theorem jw{w:V}(h:Rp K H (zz ts vs++Γ))(e:ts[i]?=some t)(f:vs[i]?=some w):Rp K H ((t,some w)::Γ):=by obtain⟨r,p⟩:=zC e f;refine Rp.part (Γ:=r) (h.perm ?_);refine(p.append_right Γ).trans ?_;exact i_.symm
theorem CJ{i:Int}(l:ts.length=vs.length)(e:atI ts i=some t)(h:Rp K H (zz ts vs++Γ)):∃w,atI vs i=some w/\Rp K H ((t,some w)::Γ):=by
 unfold atI at e ⊢;rw[l]at e;cases q:ixN vs.length i with
 |none=>rw[q]at e;cases e
 |some j=>
  rw[q]at e;have e:ts[j]?=some t:=e;obtain⟨w,f⟩:=qy l e;exact⟨w,f,jw h e f⟩
end
noncomputable def got(o:Option α)(k:α->Prop):Prop:=match o with
 |some u=>k u
 |none=>False
theorem Hq{o:Option α}{u:α}{k:α->Prop}(e:o=some u)(h:k u):got o k:=by rw[e];exact h
theorem aE{o:Option α}{k:α->Prop}(h:got o k):∃u,o=some u/\k u:=by
 cases o with
 |none=>exact h.elim
 |some u=>exact⟨u,rfl,h⟩
noncomputable def cnd(b:Bool)(A B:Prop):Prop:=(b=true->A)/\(b=false->B)
theorem Gy{A B:Prop}(h:A):cnd true A B:=⟨fun _=>h,fun e=>by cases e⟩
theorem Gk{A B:Prop}(h:B):cnd false A B:=⟨fun e=>(by cases e),fun _=>h⟩
theorem ff{A B:Prop}(h:cnd b A B):if b=true then A else B:=by
 cases b with
 |true=>rw[if_pos rfl];exact h.1 rfl
 |false=>rw[if_neg (by decide)];exact h.2 rfl
abbrev P2:=T->T->(T->Prop)->Prop
def w2(K:QT)(g:P2):R2:=fun x y H Q=>∃tx ty Γ k,Rp K H ((ty,some y)::(tx,some x)::Γ)/\g tx ty k/\∀t v H',k t->Rp K H' ((t,some v)::Γ)->Q v H'
def OpP(X:Cx)(f:QR->QR->Sem QR)(g:P2):Prop:=OpR X f (w2 X.K g)
variable {f:QR->QR->Sem QR}
theorem OpP.of {g:P2}{r:R2}(h:OpR X f r)(k:∀tx ty x y H Γ (k:T->Prop) (Q:VK),Rp X.K H ((ty,some y)::(tx,some x)::Γ)->g tx ty k->(∀t v H',k t->Rp X.K H' ((t,some v)::Γ)->Q v H')->r x y H Q):OpP X f g:=
 fun ac s σ H x y v u Q I rx ry ⟨tx,ty,Γ,kk,rp,g,c⟩=>h ac s σ H x y v u Q I rx ry (k tx ty x y H Γ kk Q rp g c)
noncomputable def AE(g:P2)(a b:PF):PF:=fun env k=>a env fun x al=>b al fun y env2=>g x y fun t=>k t env2
variable {fa:PF}
theorem zA{g:P2}{fb:PF}:∀ σ H Q,wE X.K (AE g fa fb) σ H Q->tOp (w2 X.K g) (wE X.K fa) (wE X.K fb) σ H Q:=by rintro σ H Q ⟨env,Fr,k,rs,q,c⟩;refine⟨env,Fr,_,rs,q,fun tx al x H1 q1 rs1=>⟨al,_,_,rs1,q1,fun ty env2 y H2 q2 rs2=>?_⟩⟩;refine⟨tx,ty,env2.zip σ++Fr,_,?_,q2,fun t v H' kt rp=>c _ _ _ _ kt (.of rs2.1 rp)⟩;exact rs2.head.perm (.cons _ i_)
variable {g':P2}
section
variable{X:Cx}{a b c d:Q9}{fa fb fc fd:PF}{pos:Pos}
theorem aj{op:Vb}{g:P2}(ho:OpP X (Si op) g)(ha:GE X a fa)(hb:GE X b fb):GE X (.BinOp a op b pos) (AE g fa fb):=PE.imp (cK ho ha hb) zA
theorem t9{op:Wn}{g:P2}(ho:OpP X (RO op) g)(ha:GE X a fa)(hb:GE X b fb)(hm:TB op b=false):GE X (.Compare a [op] [b] pos) (AE g fa fb):=PE.imp (Ee ho ha hb hm) zA
noncomputable def FG(f:PF):PB:=fun env k=>f env fun t env'=>match t with
 | .bl b=>k b env'
 | _=>False
theorem DH{f:PF}:∀ σ H Q,wB K (FG f) σ H Q->Cq (wE K f) σ H Q:=by
 rintro σ H Q ⟨env,Fr,k,rs,q,c⟩;refine⟨env,Fr,_,rs,q,fun t env' v H' q1 rs1=>?_⟩;cases t <;> first|exact q1.elim|skip
 rename_i b;exact⟨b,jP rs1.head,c _ _ _ q1 rs1.drop⟩
theorem aT{op:Wn}{g:P2}(ho:OpP X (RO op) g)(ha:GE X a fa)(hb:GE X b fb)(hm:TB op b=false):GT X (.Compare a [op] [b] pos) (FG (AE g fa fb)):=by refine PT.imp (uS ho ha hb hm) fun σ H Q h=>?_;obtain⟨env,Fr,k,rs,q,c⟩:=DH σ H Q h;exact zA σ H _ ⟨env,Fr,k,rs,q,c⟩
def y6(g g':P2)(fa fb fc:PF):PF:=fun env k=>fa env fun x al=>fb al fun y env2=>aW y=true/\g x y fun z=>match z with
 | .bl b=>cnd b (fc env2 fun u env3=>g' y u fun t=>k t env3) (k (.bl false) env2)
 | _=>False
theorem Dy{X:Cx}{g:P2}{fa fb fc:PF}:∀ σ H Q,wE X.K (y6 g g' fa fb fc) σ H Q->C0 (w2 X.K g) (w2 X.K g') (wE X.K fa) (wE X.K fb) (wE X.K fc) σ H Q:=by
 rintro σ H Q ⟨env,Fr,k,rs,q,c⟩;refine⟨env,Fr,_,rs,q,fun tx al x H1 q1 rs1=>⟨al,_,_,rs1,q1,fun ty env2 y H2 ⟨no,q2⟩ rs2=>?_⟩⟩;have rd:=lU rs2.head no;refine⟨tx,ty,(ty,some y)::(env2.zip σ++Fr),_,?_,q2,fun t v H' kt rp=>?_⟩
 ·refine rd.perm (.cons _ ?_);refine D' (.cons _ i_) (.swap _ _ _)
 cases t <;> first|exact kt.elim|skip
 rename_i bb;refine⟨bb,jP rp,ff ⟨fun hb=>?_,fun hb=>?_⟩⟩
 ·refine⟨env2,(ty,some y)::Fr,_,.of rs2.1 rp.tail,kt.1 hb,fun tu env3 u H3 q3 rs3=>?_⟩;refine⟨ty,tu,env3.zip σ++Fr,_,?_,q3,fun t v H' kt rp=>c _ _ _ _ kt (.of rs3.1 rp)⟩;exact rs3.head.perm (.cons _ i_)
 exact c _ _ _ _ (kt.2 hb) (fm ⟨rs2.1,rp.tail.tail⟩ fun _=>.bl)
theorem vV{op op':Wn}{g:P2}(ho:OpP X (RO op) g)(ho':OpP X (RO op') g')(ha:GE X a fa)(hb:GE X b fb)(hc:GE X c fc)(hm:lastMarks [op,op'] [b,c]=false:=by with_unfolding_all rfl) :
  GT X (.Compare a [op,op'] [b,c] pos) (FG (y6 g g' fa fb fc)):=by
 refine PT.imp (D5 ho ho' ha hb hc hm) fun σ H Q h=>?_;obtain⟨env,Fr,k,rs,q,c⟩:=DH σ H Q h;exact Dy σ H _ ⟨env,Fr,k,rs,q,c⟩
noncomputable def EW:T->(Bool->Prop)->Prop
 | .non,k=>k false
 | .bl b,k=>k b
 | .int i,k=>k (i != 0)
 | .str x,k=>x.length<=sizeLine/\k ((x.length:Int) != 0)
 | .tup ts,k=>k (!ts.isEmpty)
 | .cst ts,k=>k (!ts.isEmpty)
 | .lst _ ts,k=>k (!ts.isEmpty)
 | _,_=>False
def JL(f:PF):PB:=fun env k=>f env fun t env'=>EW t fun b=>k b env'
theorem w9{β:Type}{l:List α}{m:List β}(h:l.length=m.length):l.isEmpty=m.isEmpty:=by cases l <;> cases m <;> first|rfl|simp at h
theorem cL(ha:GE X a fa)(he:∀whole,Wa a X.env whole=(do let v <-whole;Xb a.pos;TJ [v] (truthy v)):=by intro _;rfl):GT X a (JL fa):=by
 refine PT.imp (BS ha he) ?_;rintro σ H Q ⟨env,Fr,k,rs,q,c⟩;refine⟨env,Fr,_,rs,q,fun t env' v H' q1 rs1=>?_⟩;have fin:∀b,k b env'->Q b H':=fun b kb=>c _ _ _ kb rs1.drop;have sq:∀ts b,items t=some ts->b=(!ts.isEmpty)->k b env'->∃b,Hw X.K v H' b/\Q b H':=fun ts b e eb kb=>by
  obtain⟨a,vs,rfl,hq,l,_⟩:=aD e rs1.head;refine⟨b,?_,fin b kb⟩;rw[w9 l]at eb;revert hq;cases iX t with
  |true=>exact fun hq=>.inr (.inl ⟨vs,hq,eb⟩)
  |false=>exact fun hq=>.inl ⟨vs,hq,eb⟩
 cases t with
 |non=>rw[tS rs1.head];exact⟨_,rfl,fin _ q1⟩
 |bl b=>rw[jP rs1.head];exact⟨_,rfl,fin _ q1⟩
 |int i=>rw[aJ rs1.head];exact⟨_,rfl,fin _ q1⟩
 |str x=>rw[hX rs1.head];exact⟨_,⟨q1.1,rfl⟩,fin _ q1.2⟩
 |tup ts=>exact sq _ _ rfl rfl q1
 |cst ts=>exact sq _ _ rfl rfl q1
 |lst o ts=>exact sq _ _ rfl rfl q1
 | _=>exact q1.elim
def Gn(ta tb:PB):PB:=fun env k=>ta env fun b al=>cnd b (tb al k) (k false al)
def Kg(ta tb:PB):PB:=fun env k=>ta env fun b al=>cnd b (k true al) (tb al k)
noncomputable def FY(ta:PB):PB:=fun env k=>ta env fun b al=>k (!b) al
variable{ta tb:PB}{rest:List Q9}
theorem mS(ha:GT X a ta):GW X (.BoolOp .And [a] pos) ta:=E4 ha
theorem xQ(ha:GT X a ta):GW X (.BoolOp .Or [a] pos) ta:=IW ha
theorem qE(ha:GT X a ta)(hb:GW X (.BoolOp .And (b::rest) pos) tb):GW X (.BoolOp .And (a::b::rest) pos) (Gn ta tb):=by
 refine PW.imp (Hr ha hb) ?_;rintro σ H Q ⟨env,Fr,k,rs,q,c⟩;refine⟨env,Fr,_,rs,q,fun b env' H' q1 rs1=>ff ⟨fun e=>?_,fun e=>?_⟩⟩
 ·exact⟨env',Fr,k,rs1,q1.1 e,c⟩
 exact c _ _ _ (q1.2 e) rs1
theorem Dv(ha:GT X a ta)(hb:GW X (.BoolOp .Or (b::rest) pos) tb):GW X (.BoolOp .Or (a::b::rest) pos) (Kg ta tb):=by
 refine PW.imp (JR ha hb) ?_;rintro σ H Q ⟨env,Fr,k,rs,q,c⟩;refine⟨env,Fr,_,rs,q,fun b env' H' q1 rs1=>ff ⟨fun e=>?_,fun e=>?_⟩⟩
 ·exact c _ _ _ (q1.1 e) rs1
 exact⟨env',Fr,k,rs1,q1.2 e,c⟩
theorem vL{f:PB}(h:GW X a f):GT X a f:=PW.pt h
theorem nS(ha:GT X a ta):GT X (.UnaryOp .Not a pos) (FY ta):=by refine PT.imp (ID ha) ?_;rintro σ H Q ⟨env,Fr,k,rs,q,c⟩;exact⟨env,Fr,_,rs,q,fun b env' H' q1 rs1=>c _ _ _ q1 rs1⟩
def JA(fa fb:PF):PF:=fun env k=>fa env fun t al=>match t with
 | .bl b=>cnd b (fb al k) (k (.bl false) al)
 | _=>False
noncomputable def Jt(fa:PF):PF:=fun env k=>fa env fun t al=>match t with
 | .bl b=>k (.bl (!b)) al
 | _=>False
def fIf(tc:PB)(fa fb:PF):PF:=fun env k=>tc env fun b al=>cnd b (fa al k) (fb al k)
theorem J7{op}(h:GE X a fa):GE X (.BoolOp op [a] pos) fa:=IV h
theorem BP(ha:GE X a fa)(hb:GE X (.BoolOp .And (b::rest) pos) fb):GE X (.BoolOp .And (a::b::rest) pos) (JA fa fb):=by
 refine PE.imp (Hn ha hb) ?_;rintro σ H Q ⟨env,Fr,k,rs,q,c⟩;refine⟨env,Fr,_,rs,q,fun t env' v H' q1 rs1=>?_⟩;cases t <;> first|exact q1.elim|skip
 rename_i bb;refine⟨bb,jP rs1.head,ff ⟨fun e=>?_,fun e=>?_⟩⟩
 ·exact⟨env',Fr,k,rs1.drop,q1.1 e,c⟩
 exact c _ _ _ _ (q1.2 e) (fm rs1.drop fun _=>.bl)
theorem H0(ha:GE X a fa):GE X (.UnaryOp .Not a pos) (Jt fa):=by
 refine PE.imp (IZ ha) ?_;rintro σ H Q ⟨env,Fr,k,rs,q,c⟩;refine⟨env,Fr,_,rs,q,fun t env' v H' q1 rs1=>?_⟩;cases t <;> first|exact q1.elim|skip
 rename_i bb;exact⟨bb,jP rs1.head,c _ _ _ _ q1 (fm rs1.drop fun _=>.bl)⟩
theorem ge_if(hc:GT X c ta)(ha:GE X a fa)(hb:GE X b fb):GE X (.IfExp c a b pos) (fIf ta fa fb):=by
 refine PE.imp (B4 hc ha hb) ?_;rintro σ H Q ⟨env,Fr,k,rs,q,c⟩;refine⟨env,Fr,_,rs,q,fun b env' H' q1 rs1=>ff ⟨fun e=>?_,fun e=>?_⟩⟩
 ·exact⟨env',Fr,k,rs1,q1.1 e,c⟩
 exact⟨env',Fr,k,rs1,q1.2 e,c⟩
noncomputable def FC:PFs:=fun env k=>k [] env
noncomputable def FX(f:PF)(r:PFs):PFs:=fun env k=>f env fun t al=>r al fun ts env2=>k (t::ts) env2
variable{es:List Q9}{fr:PFs}
theorem ag:GA X [] FC:=PA.imp kq (by rintro σ H Q ⟨env,Fr,k,rs,q,c⟩;exact c [] env [] H q rfl rs)
theorem ab(ha:GE X a fa)(hr:GA X es fr)(hs:Ra (a::es) X.env=(false,Rw a X.env)::Ra es X.env:=by rfl):GA X (a::es) (FX fa fr):=by refine PA.imp (f9 ha hr hs) ?_;rintro σ H Q ⟨env,Fr,k,rs,q,c⟩;refine⟨env,Fr,_,rs,q,fun t al v H1 q1 rs1=>⟨al,_,_,rs1,q1,fun ts env2 vs H2 q2 l rs2=>c _ _ _ _ q2 (by rw[h_,h_,l]) ?_⟩⟩;exact rs2.perm i_
noncomputable def JE(fr:PFs):PF:=fun env k=>fr env fun ts al=>ts.length<=sizeLine/\k (.tup ts) al
noncomputable def KY(fr:PFs):PF:=fun env k=>fr env fun ts al=>ts.length<=sizeLine/\k (.lst true ts) al
theorem aF{x1}(h:GA X es fr):GE X (.Tuple es x1 pos) (JE fr):=by refine PE.imp (DU h) ?_;rintro σ H Q ⟨env,Fr,k,rs,q,c⟩;refine⟨env,Fr,_,rs,q,fun ts al vs H1 ⟨z,q1⟩ l rs1=>⟨by rw[<-l];exact z,fun p H2 hp g e=>c _ _ _ _ q1 ?_⟩⟩;exact Rs.chg (Δ:=zz ts vs) (Δ':=[(.tup ts,some (.ref p))]) rs1 fun Γ r=>eO r l g e
theorem ba(h:GA X es fr):GE X (.List es pos) (KY fr):=by refine PE.imp (FF h) ?_;rintro σ H Q ⟨env,Fr,k,rs,q,c⟩;refine⟨env,Fr,_,rs,q,fun ts al vs H1 ⟨z,q1⟩ l rs1=>⟨by rw[<-l];exact z,fun p H2 hp g e=>c _ _ _ _ q1 ?_⟩⟩;exact Rs.chg (Δ:=zz ts vs) (Δ':=[(.lst true ts,some (.ref p))]) rs1 fun Γ r=>fu r l hp g e
end
open PySem PySem.Spec PyProof.Rows L2
noncomputable def Hc:P2
 | .int i,.int j,k=>k (.int (i+j))
 | .str x,.str y,k=>x.length+y.length<=sizeLine/\k (.str (x++y))
 | .lst _ ts,.lst _ us,k=>ts.length+us.length<=sizeLine/\k (.lst true (ts++us))
 | .tup ts,.tup us,k=>ts.length+us.length<=sizeLine/\k (.tup (ts++us))
 | _,_,_=>False
noncomputable def Ji:P2
 | .int i,.int j,k=>k (.int (i-j))
 | _,_,_=>False
def J9:P2
 | .int i,.int j,k=>wy i j/\k (.int (i*j))
 | _,_,_=>False
def JX:P2
 | .int i,.int j,k=>Fh i j/\k (.int (i/j))
 | _,_,_=>False
noncomputable def EL(p:Int->Int->Bool):P2
 | .int i,.int j,k=>k (.bl (p i j))
 | _,_,_=>False
def ltT:P2:=EL fun i j=>decide (i<j)
def leT:P2:=EL fun i j=>decide (i<=j)
def gtT:P2:=EL fun i j=>decide (j<i)
def geT:P2:=EL fun i j=>decide (j<=i)
noncomputable def isV:T->Bool
 | .any=>false
 | .hole _=>false
 | .bare=>false
 | .kp _=>false
 | _=>true
noncomputable def qi:T->Bool
 | .non=>true
 | _=>false
def JQ:P2
 |t,.non,k=>isV t=true/\k (.bl (qi t))
 | _,_,_=>False
variable {n:Nat}{o:Bool}{r':Int->Int->V}
section
variable{X:Cx}
theorem yv{C:Int->Int->Prop}{r:Int->Int->T}(h:OpR X f (rI C r'))(hr:∀i j K Hz H,RepT K Hz H (r i j) (r' i j) []):OpP X f (fun t u k=>match t,u with | .int i,.int j=>C i j/\k (r i j) | _,_=>False):=by
 refine .of h ?_;intro tx ty x y H Γ k Q rp g c;cases tx <;> cases ty <;> first|exact g.elim|skip
 rename_i i j;rw[aJ rp,aJ rp.tail];exact⟨i,j,rfl,rfl,g.1,c _ _ _ g.2 (bQ rp.tail.tail fun Hz=>hr i j _ _ _)⟩
theorem jr{r:Int->Int->T}(h:OpR X f (rI0 r'))(hr:∀i j K Hz H,RepT K Hz H (r i j) (r' i j) []):OpP X f (fun t u k=>match t,u with | .int i,.int j=>k (r i j) | _,_=>False):=by
 refine .of h ?_;intro tx ty x y H Γ k Q rp g c;cases tx <;> cases ty <;> first|exact g.elim|skip
 rename_i i j;rw[aJ rp,aJ rp.tail];exact⟨i,j,rfl,rfl,c _ _ _ g (bQ rp.tail.tail fun Hz=>hr i j _ _ _)⟩
theorem OpP.imp {g:P2}(h:OpP X f g)(k:∀tx ty k,g' tx ty k->g tx ty k):OpP X f g':=OpR.imp h (by rintro x y H Q ⟨tx,ty,Γ,kk,rp,gg,c⟩;exact⟨tx,ty,Γ,kk,rp,k _ _ _ gg,c⟩)
theorem Inv.Ke {σ:L2.St}{l:QS}(I:Inv X ac σ H s)(hH:Rd H l (.lst xs)):xs.length<=sizeLine/\∃(its:List QR) (n:Nat),Vals xs its/\xs.length=its.length/\s.heap.get? l=some { cls:=.type "list",data:=.seq its.toArray n}:=by obtain⟨z,its,n,r,e⟩:=hH.ok I.hok;exact⟨z,its,n,r,r.length,e⟩
theorem Ex:OpR X (Si .Add) (fun x y H Q=>∃l b xs zs,x=.ref l/\y=.ref b/\Rd H l (.lst xs)/\Rd H b (.lst zs)/\xs.length+zs.length<=sizeLine/\New (.lst (xs++zs)) H Q):=by
 intro ac s σ H x y v u Q I rx ry h;obtain⟨l,b,xs,zs,rfl,rfl,hH,hB,hz,q⟩:=h;cases rx;cases ry;obtain⟨z,its,n,r,hl,e⟩:=Inv.Ke I hH;obtain⟨z2,its2,n2,r2,hl2,e2⟩:=Inv.Ke I hB;refine PySem.P.add_list e e2 ?_ (by rw[o_,o_];lia);have ea:its.toArray++its2.toArray=(its++its2).toArray:=by simp
 rw[ea];exact⟨.ref _,_,I.LJ (t':=s.toks) (r.append r2) (by rw[e_];omega),rfl,q.at I.fresh⟩
theorem mJ(h:Rp K H ((.lst o ts,some y)::Γ)):∃a vs,y=.ref a/\Rd H a (.lst vs)/\ts.length=vs.length/\Rp K H (zz ts vs++Γ):=by
 obtain⟨Hz,N,h,nd,g,d⟩:=h;cases h with
 |cons e1 h c=>
  rcases h with⟨z,_⟩|⟨v,e2,h⟩
  ·cases z
  cases e2;cases h
  ·rename_i a vs L h c1;rw[e1,Mm,F_]at nd;exact⟨a,vs,rfl,.inl h,c1.len,Hz,_,c1.toL.app c,nd.2,g,fun b m=>d b (by rw[e1,Mm];exact n_ _ m)⟩
  rename_i a vs h c1;exact⟨a,vs,rfl,g _ _ h,c1.len,Hz,_,c1.toL.app c,by rw[<-e1];exact nd,g,fun b m=>d b (by rw[e1];exact m)⟩
theorem oZ(h:Rp K H ((.tup ts,some y)::Γ)):∃a vs,y=.ref a/\H a=some (.tup vs)/\ts.length=vs.length/\Rp K H (zz ts vs++Γ):=by
 obtain⟨Hz,N,h,nd,g,d⟩:=h;cases h with
 |cons e1 h c=>
  rcases h with⟨z,_⟩|⟨v,e2,h⟩
  ·cases z
  cases e2;cases h with
  |tup h c1=>exact⟨_,_,rfl,h,c1.len,Hz,_,c1.toL.app c,by rw[<-e1];exact nd,g,fun b m=>d b (by rw[e1];exact m)⟩
theorem lZ{us:List T}{ws:List V}(l:ts.length=vs.length):zz (ts++us) (vs++ws)=zz ts vs++zz us ws:=by show(ts++us).zip ((vs++ws).map some)=_;rw[q_,Qm (by rw[a_];exact l)]
theorem EM:OpR X (Si .Add) (fun x y H Q=>∃a b ys,x=.ref a/\y=.ref b/\SqT X.K H a []/\SqT X.K H b ys/\Q (.ref b) H):=by
 intro ac s σ H x y v u Q I rx ry h;obtain⟨a,b,ys,rfl,rfl,ha,hb,q⟩:=h;cases rx;cases ry;obtain⟨its,r1,p1,_⟩:=I.tuple ha;obtain⟨its2,r2,p2,_⟩:=I.tuple hb;cases r1;obtain⟨⟨cls,dd,data,sl⟩,ho,hc,n,hd⟩:=id p1;obtain⟨⟨cls2,dd2,data2,sl2⟩,ho2,hc2,n2,hd2⟩:=id p2;simp only at hc hd hc2 hd2;subst hc hd hc2 hd2;exact Wf ⟨_,ho,rfl⟩ ⟨_,ho2,rfl⟩ Vc V2 Ui T' (TU _ _)
  (tuple_addW0 a b _ its2.toArray n n2 dd dd2 sl sl2 (by simp)) ⟨ho,ho2,⟨.ref b,H,I,rfl,q⟩⟩
theorem az:OpP X (Si .Add) Hc:=by
 rintro ac s σ H x y v u Q I rx ry ⟨tx,ty,Γ,k,rp,g,c⟩;cases tx <;> cases ty <;> first|exact Rb g|skip
 ·rename_i i j;rw[aJ rp]at ry;rw[aJ rp.tail]at rx;exact pM ac s σ H _ _ v u Q I rx ry ⟨i,j,rfl,rfl,c _ _ _ g (bQ rp.tail.tail fun _=>.int)⟩
 ·rename_i i j;rw[hX rp]at ry;rw[hX rp.tail]at rx;exact xi ac s σ H _ _ v u Q I rx ry ⟨i,j,rfl,rfl,g.1,c _ _ _ g.2 (bQ rp.tail.tail fun _=>.str)⟩
 ·rename_i ts us;obtain⟨b,ws,rfl,hb,lb,rp2⟩:=oZ rp;obtain⟨a,vs,rfl,ha,la,rp3⟩:=oZ (rp2.perm i_);have lz:vs.length+ws.length<=sizeLine:=by rw[<-la,<-lb];exact g.1
  have rp4:Rp X.K H (zz (ts++us) (vs++ws)++Γ):=by rw[lZ la,l_];exact rp3
  by_cases hx:vs=[]
  ·subst hx;refine EM ac s σ H _ _ v u Q I rx ry ⟨a,b,ws,rfl,rfl,SqT.of ha,SqT.of hb,?_⟩;refine c _ _ _ g.2 (eO rp4 (by rw[e_,e_,la,lb]) .bY ?_);rw[Ot];exact hb
  refine Eb ac s σ H _ _ v u Q I rx ry ⟨a,b,vs,ws,rfl,rfl,SqT.of ha,SqT.of hb,hx,lz,fun e=>?_,fun _ p hp=>c _ _ _ g.2 (eO rp4 (by rw[e_,e_,la,lb]) (bL hp _) aO)⟩;refine c _ _ _ g.2 (eO rp4 (by rw[e_,e_,la,lb]) .bY ?_);rw[e,I_];exact ha
 rename_i o ts o' us;obtain⟨b,ws,rfl,hb,lb,rp2⟩:=mJ rp;obtain⟨a,vs,rfl,ha,la,rp3⟩:=mJ (rp2.perm i_);have lz:vs.length+ws.length<=sizeLine:=by rw[<-la,<-lb];exact g.1
 have rp4:Rp X.K H (zz (ts++us) (vs++ws)++Γ):=by rw[lZ la,l_];exact rp3
 exact Ex ac s σ H _ _ v u Q I rx ry ⟨a,b,vs,ws,rfl,rfl,ha,hb,lz,fun p H' hp g' e=>c _ _ _ g.2 (fu rp4 (by rw[e_,e_,la,lb]) hp g' e)⟩
theorem bP:OpP X (Si .Sub) Ji:=(jr (r:=fun i j=>.int (i-j)) J4 fun _ _ _ _ _=>.int).imp fun tx ty k g=>by cases tx <;> cases ty <;> exact g
theorem aS:OpP X (Si .Mult) J9:=(yv (r:=fun i j=>.int (i*j)) lK fun _ _ _ _ _=>.int).imp fun tx ty k g=>by cases tx <;> cases ty <;> exact g
theorem DV:OpP X (Si .FloorDiv) JX:=(yv (r:=fun i j=>.int (i/j)) zK fun _ _ _ _ _=>.int).imp fun tx ty k g=>by cases tx <;> cases ty <;> exact g
theorem Ct:OpP X (RO .Lt) ltT:=(jr (r:=fun i j=>.bl (decide (i<j))) Jr fun _ _ _ _ _=>.bl).imp fun tx ty k g=>by cases tx <;> cases ty <;> exact g
theorem jo:OpP X (RO .LtE) leT:=(jr (r:=fun i j=>.bl (decide (i<=j))) Kf fun _ _ _ _ _=>.bl).imp fun tx ty k g=>by cases tx <;> cases ty <;> exact g
theorem xX:OpP X (RO .Gt) gtT:=(jr (r:=fun i j=>.bl (decide (j<i))) Jd fun _ _ _ _ _=>.bl).imp fun tx ty k g=>by cases tx <;> cases ty <;> exact g
theorem GQ:OpP X (RO .GtE) geT:=(jr (r:=fun i j=>.bl (decide (j<=i))) GB fun _ _ _ _ _=>.bl).imp fun tx ty k g=>by cases tx <;> cases ty <;> exact g
theorem G7{k:Nat}{A:Rh}(r:Room k A)(h:n<190):A.units+n<cLine:=by have:=r.un;lia
theorem FQ{x:V}(rp:Rp K H ((t,some x)::Γ))(n:isV t=true):decide (x=.non)=qi t:=by obtain⟨Hz,L,r,g⟩:=iu rp (by cases t <;> first|rfl|cases n);cases r <;> first|rfl|cases n
theorem tD:OpP X (RO .Is) JQ:=.of J1 fun tx ty x y H Γ k Q rp g c=>by
 cases ty <;> first|exact Rb g|skip
 refine⟨tS rp,?_⟩;rw[FQ rp.tail g.1];exact c _ _ _ g.2 (bQ rp.tail.tail fun _=>.bl)
end
open PySem PySem.Spec PyProof.Rows L2
noncomputable def xu:T->Option Key
 | .int i=>some (.inl i)
 | .str x=>some (.inr x)
 | .non=>some (.inr none)
 | _=>none
def mY:List T->Option (List Key)
 | []=>some []
 |t::r=>match xu t,mY r with
  |some k,some ks=>some (k::ks)
  | _,_=>none
section
variable{κ:Type}[DecidableEq κ]
noncomputable def CT(kvs:List (κ×T))(k:κ):Option T:=(kvs.find? fun kv=>decide (kv.1=k)).map (·.2)
noncomputable def iC(kvs:List (κ×T))(k:κ)(v:T):List (κ×T):=
 if(kvs.any fun kv=>decide (kv.1=k))=true then kvs.map (fun kv=>if kv.1=k then(kv.1,v)else kv)else kvs++[(k,v)]
theorem nK:∀{ts:List (κ×T)}{vs:List (κ×V)}{q:κ}{u:T},ts.map (·.1)=vs.map (·.1)->CT ts q=some u->∃(w:V) (i:Nat),eT vs q=some w/\(ts.map (·.2))[i]?=some u/\(vs.map (·.2))[i]?=some w
 | [],vs,q,u,e,h=>by cases h
 | (k,t)::ts,[],q,u,e,h=>by cases e
 | (k,t)::ts,(k',v)::vs,q,u,e,h=>by
  rw[k_,k_,MK]at e;have e0:k=k':=e.1;subst e0;unfold CT at h;rw[MA]at h;unfold eT;rw[MA];by_cases hk:k=q
  ·have hk':decide (k=q)=true:=decide_eq_true hk;rw[show decide ((k,t).1=q)=true from hk']at h;rw[show decide ((k,v).1=q)=true from hk'];cases h;exact⟨v,0,rfl,rfl,rfl⟩
  have hk':decide (k=q)=false:=decide_eq_false hk;rw[show decide ((k,t).1=q)=false from hk']at h;rw[show decide ((k,v).1=q)=false from hk'];obtain⟨w,i,h1,h2,h3⟩:=nK (ts:=ts) (vs:=vs) e.2 h;exact⟨w,i+1,h1,by simpa using h2,by simpa using h3⟩
end
section
variable{K:QT}{H:Hp}{Γ:Fm}
theorem DA{ts:List (Key×T)}(h:Rp K H ((.dK o ts,some y)::Γ)):∃a vs,y=.ref a/\Rd H a (.dK vs)/\ts.map (·.1)=vs.map (·.1)/\Rp K H (zz (ts.map (·.2)) (vs.map (·.2))++Γ):=by
 obtain⟨Hz,N,h,nd,g,d⟩:=h;cases h with
 |cons e1 h c=>
  rcases h with⟨z,_⟩|⟨v,e2,h⟩
  ·cases z
  cases e2;cases h
  ·rename_i a vs L h c1;obtain⟨ek,c2⟩:=c1.toL;rw[e1,Mm,F_]at nd;exact⟨a,vs,rfl,.inl h,ek,Hz,_,c2.toL.app c,nd.2,g,fun b m=>d b (by rw[e1,Mm];exact n_ _ m)⟩
  rename_i a vs h c1;obtain⟨ek,c2⟩:=c1.toL;exact⟨a,vs,rfl,g _ _ h,ek,Hz,_,c2.toL.app c,by rw[<-e1];exact nd,g,fun b m=>d b (by rw[e1];exact m)⟩
theorem qQ{ts:List (List Key×T)}(h:Rp K H ((.dT o ts,some y)::Γ)):∃a vs,y=.ref a/\Rd H a (.dT vs)/\ts.map (·.1)=vs.map (·.1)/\Rp K H (zz (ts.map (·.2)) (vs.map (·.2))++Γ):=by
 obtain⟨Hz,N,h,nd,g,d⟩:=h;cases h with
 |cons e1 h c=>
  rcases h with⟨z,_⟩|⟨v,e2,h⟩
  ·cases z
  cases e2;cases h
  ·rename_i a vs L h c1;obtain⟨ek,c2⟩:=c1.toL;rw[e1,Mm,F_]at nd;exact⟨a,vs,rfl,.inl h,ek,Hz,_,c2.toL.app c,nd.2,g,fun b m=>d b (by rw[e1,Mm];exact n_ _ m)⟩
  rename_i a vs h c1;obtain⟨ek,c2⟩:=c1.toL;exact⟨a,vs,rfl,g _ _ h,ek,Hz,_,c2.toL.app c,by rw[<-e1];exact nd,g,fun b m=>d b (by rw[e1];exact m)⟩
theorem yI{k:Key}(e:xu t=some k)(h:Rp K H ((t,some y)::Γ)):y=kV k:=by
 cases t <;> cases e
 ·rw[tS h];rfl
 ·rw[aJ h];rfl
 rw[hX h];rfl
theorem Cb{k:Key}(e:xu t=some k)(h:RepT K Hz H t v L):v=kV k:=by
 cases t <;> cases e
 ·cases h;rfl
 ·cases h;rfl
 cases h;rfl
theorem oj{Hz:Hp}:∀{ts:List T}{ks:List Key}{vs:List V}{L:List QS},mY ts=some ks->RepTs K Hz H ts vs L->vs=ks.map kV
 | [],ks,_,_,e,r=>by cases r;cases e;rfl
 |t::ts,ks,_,_,e,r=>by
  cases r with
  |cons _ h c=>
   rw[mY]at e;split at e
   ·rename_i k r e1 e2;cases e;rw[Cb e1 h,oj e2 c]
    rfl
   cases e
theorem zl{ks:List Key}(e:mY ts=some ks)(h:Rp K H ((.tup ts,some y)::Γ)):∃b,y=.ref b/\H b=some (.tup (ks.map kV)):=by
 obtain⟨Hz,L,r,g⟩:=iu h rfl;cases r with
 |tup h1 c1=>exact⟨_,rfl,by rw[h1,oj e c1]⟩
end
def ixT:P2
 | .tup ts,.int i,k=>got (atI ts i) k
 | .cst ts,.int i,k=>got (atI ts i) k
 | .lst _ ts,.int i,k=>got (atI ts i) k
 | .str x,.int i,k=>x.length<=sizeLine/\got (atI x.cps.toList i) fun c=>k (.str ⟨#[c]⟩)
 | .dK _ kvs,y,k=>got (xu y) fun q=>got (CT kvs q) k
 | .dT _ kvs,.tup ts,k=>got (mY ts) fun q=>got (CT kvs q) k
 | _,_,_=>False
variable {kr:Nat}{pos:Pos}
section
variable{X:Cx}
theorem yG(hu:X.A.units+1<cLine):IxR X (fun x y H Q=>∃a v,x=.ref a/\oO H a y (some v)/\Q v H):=by
 intro value slice ac s σ H x y v u Q I rx ry h hs;obtain⟨a,z,rfl,g,q⟩:=h;cases rx;have hT:=ox I g;unfold Ur;refine QQ ?_;rw[VH hT.not_modules];refine QQ (Vr hT U8.lookup ?_);have fin:QX (Q3 X.prog X.w) X.A (US slice false (.ref a) u) (fun r s₃=>QX (Q3 X.prog X.w) X.A (Xg value (.ref a) r >>= fun _=>pure r) (EP X ac σ Q) X.xe s₃) X.xe s:=by rw[hs];refine WV (rq hu I g ry fun w' s' I' r'=>QQ (VS (QU ⟨z,H,I',r',q⟩)))
 first
  |exact QU (QQ fin)
  |exact QQ (QU (QQ fin))
  |exact QQ fin
theorem LD(hr:Room kr X.A):IxR X (w2 X.K ixT):=by
 rintro value slice ac s σ H x y v u Q I rx ry ⟨tx,ty,Γ,k,rp,g,c⟩ hs;have sq:∀ts i,items tx=some ts->ty=.int i->got (atI ts i) k->QX (Q3 X.prog X.w) X.A (Ur value slice v u) (EP X ac σ Q) X.xe s:=fun ts i e1 e2 g=>by obtain⟨t,et,kt⟩:=aE g;subst e2;rw[aJ rp]at ry;obtain⟨a,vs,rfl,hq,l,rp2⟩:=aD e1 rp.tail;obtain⟨w,ew,rp3⟩:=CJ l et rp2;exact L5 value slice ac s σ H _ _ v u Q I rx ry ⟨_,a,vs,i,w,rfl,rfl,hq,ew,c _ _ _ kt rp3⟩ hs
 cases tx with
 |tup ts=>cases ty <;> first|exact Rb g|exact sq _ _ rfl rfl g
 |cst ts=>cases ty <;> first|exact Rb g|exact sq _ _ rfl rfl g
 |lst o ts=>cases ty <;> first|exact Rb g|exact sq _ _ rfl rfl g
 |str z=>
  cases ty <;> first|exact Rb g|skip
  rename_i i;obtain⟨hz,g⟩:=g;obtain⟨t,et,kt⟩:=aE g;rw[aJ rp]at ry;rw[hX rp.tail]at rx;exact CZ value slice ac s σ H _ _ v u Q I rx ry ⟨z,i,t,rfl,rfl,hz,et,c _ _ _ kt (bQ rp.tail.tail fun _=>.str)⟩ hs
 |dK o kvs=>
  have g:got (xu ty) fun q=>got (CT kvs q) k:=by cases ty <;> exact g
  obtain⟨q,eq,g⟩:=aE g;obtain⟨t,et,kt⟩:=aE g;rw[yI eq rp]at ry;obtain⟨a,vs,rfl,hq,ek,rp2⟩:=DA rp.tail;obtain⟨w,i,ew,e1,e2⟩:=nK ek et;exact yG (se hr) value slice ac s σ H _ _ v u Q I rx ry ⟨a,w,rfl,.inl ⟨vs,q,hq,rfl,ew.symm⟩,c _ _ _ kt (jw rp2 e1 e2)⟩ hs
 |dT o kvs=>
  cases ty <;> first|exact Rb g|skip
  rename_i ts;obtain⟨q,eq,g⟩:=aE g;obtain⟨t,et,kt⟩:=aE g;obtain⟨b,rfl,hb⟩:=zl eq rp;obtain⟨a,vs,rfl,hq,ek,rp2⟩:=qQ rp.tail;obtain⟨w,i,ew,e1,e2⟩:=nK ek et;exact yG (se hr) value slice ac s σ H _ _ v u Q I rx ry ⟨a,w,rfl,.inr ⟨vs,q,b,hq,rfl,hb,ew.symm⟩,c _ _ _ kt (jw rp2 e1 e2)⟩ hs
 | _=>cases ty <;> exact Rb g
theorem aA{kr:Nat}{a b:Q9}{fa fb:PF}{pos:Pos}(hr:Room kr X.A)(ha:GE X a fa)(hb:GE X b fb)(hs:zV b:=by intro _ _;rfl):GE X (.Subscript a b pos) (AE ixT fa fb):=PE.imp (Gq (LD hr) ha hb hs) zA
noncomputable def fUn(g:T->(T->Prop)->Prop)(fa:PF):PF:=fun env k=>fa env fun t al=>g t fun u=>k u al
noncomputable def Jy:T->(T->Prop)->Prop
 | .int i,k=>k (.int (-i))
 | _,_=>False
theorem cm{a:Q9}(ha:GE X a fa):GE X (.UnaryOp .USub a pos) (fUn Jy fa):=by
 refine PE.imp (KJ HJ ha) ?_;rintro σ H Q ⟨env,Fr,k,rs,q,c⟩;refine⟨env,Fr,_,rs,q,fun t al v H1 q1 rs1=>?_⟩;cases t <;> first|exact Rb q1|skip
 rename_i i;exact⟨i,aJ rs1.head,c _ _ _ _ q1 (fm rs1.drop fun _=>.int)⟩
end
open PySem PySem.Spec PyProof.Rows L2
abbrev P1s:=List T->(T->Prop)->Prop
def w1s(K:QT)(g:P1s):List V->Hp->VK->Prop:=fun xs H Q=>∃ts Γ k,ts.length=xs.length/\Rp K H (zz ts xs++Γ)/\g ts k/\∀t v H',k t->Rp K H' ((t,some v)::Γ)->Q v H'
def fw(X:Cx)(f:QR)(g:P1s):Prop:=bE X f (w1s X.K g)
noncomputable def fCl(g:P1s)(fr:PFs):PF:=fun env k=>fr env fun ts al=>g ts fun t=>k t al
section
variable{X:Cx}{e:Q9}{es:List Q9}{fr:PFs}{pos p:Pos}{x:Str}{g:P1s}
theorem G6:∀ σ H Q,wE X.K (fCl g fr) σ H Q->tCB (w1s X.K g) (wA X.K fr) σ H Q:=by rintro σ H Q ⟨env,Fr,k,rs,q,c⟩;refine⟨env,Fr,_,rs,q,fun ts al vs H1 q1 l rs1=>?_⟩;refine⟨ts,al.zip σ++Fr,_,l,?_,q1,fun t v H' kt rp=>c _ _ _ _ kt (.of rs1.1 rp)⟩;refine rs1.2.perm ?_;rw[<-l_,<-l_];exact MB.append_right _
theorem ay{id:String}(hc:fw X (.builtin id) g)(hg:Gl X x)(hm:X.mg x=none)(hv:SR x=some (.builtin id))(ha:GA X (e::es) fr)(hn:x≠"__name__":=by decide)(hdb:(x ==("__debug__":Str))=false:=by decide)
  (he:Ra (e::es) X.env=(false,Rw e X.env)::Ra es X.env:=by rfl) (hpl:(Tv pos (Ra es X.env)).any (·.1)=false:=by rfl):GE X (.Call (.Name x p) (e::es) [] pos) (fCl g fr):=PE.imp (pJ hc hg hm hv ha hn hdb he hpl) G6
theorem cB{id:String}(hc:fw X (.type id) g)(hg:Gl X x)(hm:X.mg x=none)(hv:SR x=some (.type id))(ha:GA X (e::es) fr)(hn:x≠"__name__":=by decide)(hdb:(x ==("__debug__":Str))=false:=by decide)
  (he:Ra (e::es) X.env=(false,Rw e X.env)::Ra es X.env:=by rfl) (hpl:(Tv pos (Ra es X.env)).any (·.1)=false:=by rfl):GE X (.Call (.Name x p) (e::es) [] pos) (fCl g fr):=PE.imp (rY hc hg hm hv ha hn hdb he hpl) G6
end
variable {E Q:QR->QV->Prop}{u:T}{w:Q8}
section
variable{X:Cx}
theorem zz1(l:ts.length=xs.length)(e:ts=[t]):∃x,xs=[x]:=by
 subst e;rcases xs with _|⟨x,_|⟨y,xs⟩⟩
 ·cases l
 ·exact⟨x,rfl⟩
 cases l
theorem zz2(l:ts.length=xs.length)(e:ts=[t,u]):∃x y,xs=[x,y]:=by
 subst e;rcases xs with _|⟨x,xs⟩
 ·cases l
 obtain⟨y,rfl⟩:=zz1 (ts:=[u]) (MN l) rfl;exact⟨x,y,rfl⟩
theorem zz3{w:T}(l:ts.length=xs.length)(e:ts=[t,u,w]):∃x y z,xs=[x,y,z]:=by
 subst e;rcases xs with _|⟨x,xs⟩
 ·cases l
 obtain⟨y,z,rfl⟩:=zz2 (ts:=[u,w]) (MN l) rfl;exact⟨x,y,z,rfl⟩
theorem wU{prog:Q5}(d:QS)(nd:(d == RS)=false) :
  MeetsIn prog w (RW.«dict.__len__» ⟨[.ref d],[]⟩) (fun _ R s=>∃o es ep,s.heap.get? d=some o/\o.data=.dict es ep/\R (.ok (.ret (.int es.size s.toks))) {s with toks:=s.toks+1}):=
 .of_wp fun A R s ⟨o,es,ep,ho,hdat,q⟩=>by show QX _ _ (dictSize d >>= _) _ _ s;unfold dictSize;refine QQ (QQ (SF ho hdat (QU ?_)));show QX _ _ (XQ d >>= _) _ _ s;exact QQ (wpAny_pendingCount_other nd (wpAny_ret_mkInt (by rw[Oq];exact q)))
theorem Eo{prog:Q5}{A:Rh}{d:QS}{o:Obj}{es:Array RX}{ep:Nat}(nd:(d == RS)=false)(ho:s.heap.get? d=some o)(hc:o.ExactDict)(hdat:o.data=.dict es ep)
  (fit:(es.size:Int)<2 ^ 63) (q:∀t tk,Q (.int es.size t) {s with toks:=tk}):QX (Q3 prog w) A (call (.builtin "len") [.ref d]) Q E s:=by
 have ty:s.TypeIs (.ref d) "dict":=⟨_,ho,hc.1⟩;refine TR kind_len plain_len entry_len (args_len1 _) ?_;unfold RW.«len»;refine QQ (m:=oneArg "len" _) (QU ?_);refine QQ (m:=callSpecial? (.ref d) (RP "__len__")) (Ry (name:=RP "__len__") ty VL
  (X2 VL ty PySem.F.entry_dict_len (PySem.F.args_dict_len_1 _) (wU d nd) ⟨o,es,ep,ho,hdat,?_⟩))
 show QX _ _ _ _ _ {s with toks:=s.toks+1};refine QQ (Rm (QU (QQ (Uk ?_))));show QX _ _ (if((es.size:Nat):Int)<0 then _ else _) _ _ _;rw[if_neg (by lia)];show QX _ _ (if((es.size:Nat):Int)>=2 ^ 63 then _ else _) _ _ _;rw[if_neg (by lia)];exact QQ (Yc (QU ⟨_,rfl,q _ _⟩))
theorem HZ{σ:L2.St}{kvs:List (List Key×V)}(I:Inv X ac σ H s)(e:Rd H a (.dT kvs))(q:∀t s',Inv X ac σ H s'->Q (.int kvs.length t) s'):QX (Q3 X.prog X.w) X.A (call (.builtin "len") [.ref a]) Q E s:=by
 obtain⟨z,hd,xs,rel,o,es,ep,h1,h2,h3,h4,_⟩:=zO I.hok e;have hs:es.size=kvs.length:=by have:=congrArg N_ h4;rw[a_]at this;rw[<-g_,this];exact(R' rel).symm
 refine Eo hd h1 h2 h3 (by rw[sizeLine_eq]at z;lia) fun t tk=>?_
 rw[hs];exact q _ _ (I.tok _)
def El:P1s
 | [t],k=>match t with
  | .str x=>x.length<=sizeLine/\k (.int x.length)
  | .dK _ kvs=>k (.int kvs.length)
  | .dT _ kvs=>k (.int kvs.length)
  |t=>got (items t) fun ts=>k (.int ts.length)
 | _,_=>False
theorem bD:fw X (.builtin "len") El:=by
 rintro ac s σ H xs us Q I r ⟨ts,Γ,k,l,rp,g,c⟩
 match ts,l,g with
 | [t],l,g=>
  obtain⟨x,rfl⟩:=zz1 l rfl;have rp:Rp X.K H ((t,some x)::Γ):=rp;have sq:(got (items t) fun ts=>k (.int ts.length))->QX (Q3 X.prog X.w) X.A (call (.builtin "len") us) (EP X ac σ Q) X.xe s:=fun g=>by obtain⟨us',e,kt⟩:=aE g;obtain⟨a,vs,rfl,hq,l2,rp2⟩:=aD e rp;rw[l2]at kt;exact Ab ac s σ H _ us Q I r ⟨_,a,vs,rfl,hq,c _ _ _ kt (bQ rp.tail fun _=>.int)⟩
  cases t with
  |str z=>
   rw[hX rp]at r;exact tH ac s σ H _ us Q I r ⟨z,rfl,g.1,c _ _ _ g.2 (bQ rp.tail fun _=>.int)⟩
  |dK o kvs=>
   obtain⟨a,vs,rfl,hq,ek,rp2⟩:=DA rp;obtain⟨u,rfl,ru⟩:=vals1 r;cases ru;have g:k (.int kvs.length):=g;rw[bX ek]at g;exact KR I hq fun t s' I'=>⟨.int vs.length,H,I',⟨t,rfl⟩,c _ _ _ g (bQ rp.tail fun _=>.int)⟩
  |dT o kvs=>
   obtain⟨a,vs,rfl,hq,ek,rp2⟩:=qQ rp;obtain⟨u,rfl,ru⟩:=vals1 r;cases ru;have g:k (.int kvs.length):=g;rw[bX ek]at g;exact HZ I hq fun t s' I'=>⟨.int vs.length,H,I',⟨t,rfl⟩,c _ _ _ g (bQ rp.tail fun _=>.int)⟩
  | _=>exact sq g
 | [],_,g=>exact Rb g
 | _::_::_,_,g=>exact Rb g
noncomputable def Jb:P1s
 | [.int i],k=>k (.int i.natAbs)
 | _,_=>False
theorem jx:fw X (.builtin "abs") Jb:=by
 rintro ac s σ H xs us Q I r ⟨ts,Γ,k,l,rp,g,c⟩;rcases ts with _|⟨t,_|⟨u,ts⟩⟩
 ·exact g.elim
 rotate_left
 ·cases t <;> exact g.elim
 cases t <;> try exact g.elim
 rename_i i;obtain⟨x,rfl⟩:=zz1 l rfl;have rp:Rp X.K H ((.int i,some x)::Γ):=rp;rw[aJ rp]at r;refine Dx ac s σ H _ us Q I r ⟨i,rfl,?_⟩;have e:(if i<0 then -i else i)=(i.natAbs:Int):=by split <;> lia
 rw[e];exact c _ _ _ g (bQ rp.tail fun _=>.int)
noncomputable def intsOf:List T->Option (List Int)
 | []=>some []
 | .int i::r=>match intsOf r with
  |some ns=>some (i::ns)
  |none=>none
 | _::_=>none
theorem ye(ns:List Int):intsOf (ns.map T.int)=some ns:=by
 induction ns with
 |nil=>rfl
 |cons n r ih=>rw[k_,intsOf,ih]
theorem cC:∀{ts:List T}{ns:List Int},intsOf ts=some ns->ts=ns.map T.int
 | [],ns,e=>by cases e;rfl
 |t::ts,ns,e=>by
  cases t <;> first|cases e|skip
  rename_i i;rw[intsOf]at e;split at e
  ·rename_i ms em;cases e;rw[k_,cC em]
  cases e
theorem dy{K:QT}{H:Hp}{Γ:Fm}:∀{ns:List Int}{vs:List V},(ns.map T.int).length=vs.length->Rp K H (zz (ns.map T.int) vs++Γ)->vs=ns.map V.int
 | [],[],_,_=>rfl
 | [],_::_,l,_=>by simp at l
 | _::_,[],l,_=>by simp at l
 |n::ns,v::vs,l,h=>by
  have h:Rp K H ((.int n,some v)::(zz (ns.map T.int) vs++Γ)):=h;rw[aJ h,dy (by simpa using l) h.tail]
  rfl
def DN:P1s
 | [.int i,.int j],k=>k (.int (max i j))
 | [.int i,.int j,.int l],k=>k (.int (max (max i j) l))
 | [t],k=>got (items t) fun ts=>got (intsOf ts) fun ns=>ns≠[]/\∀r,iL ns r->k (.int r)
 | _,_=>False
def Bl:P1s
 | [.int i,.int j],k=>k (.int (min i j))
 | [.int i,.int j,.int l],k=>k (.int (min (min i j) l))
 | [t],k=>got (items t) fun ts=>got (intsOf ts) fun ns=>ns≠[]/\∀r,iO ns r->k (.int r)
 | _,_=>False
theorem dP(hc:X.calm=true):fw X (.builtin "max") DN:=by
 rintro ac s σ H xs us Q I r ⟨ts,Γ,k,l,rp,g,c⟩;unfold DN at g;split at g
 ·rename_i k i j;obtain⟨x,y,rfl⟩:=zz2 l rfl;have rp:Rp X.K H ((.int i,some x)::(.int j,some y)::Γ):=rp;rw[aJ rp,aJ rp.tail]at r;refine AA hc ac s σ H _ us Q I r ⟨i,j,rfl,?_⟩;have e:(if j > i then j else i)=max i j:=by split <;> lia
  rw[e];exact c _ _ _ g (bQ rp.tail.tail fun _=>.int)
 ·rename_i k i j m;obtain⟨x,y,z,rfl⟩:=zz3 l rfl;have rp:Rp X.K H ((.int i,some x)::(.int j,some y)::(.int m,some z)::Γ):=rp;rw[aJ rp,aJ rp.tail,aJ rp.tail.tail]at r;refine AN hc ac s σ H _ us Q I r ⟨i,j,m,rfl,fun w h1 h2 h3 h4=>?_⟩;have e:w=max (max i j) m:=by lia
  rw[e];exact c _ _ _ g (bQ rp.tail.tail.tail fun _=>.int)
 ·rename_i k t;obtain⟨x,rfl⟩:=zz1 l rfl;have rp:Rp X.K H ((t,some x)::Γ):=rp;obtain⟨us',e,g⟩:=aE g;obtain⟨ns,en,ne,kt⟩:=aE g;have:=cC en;subst this;obtain⟨a,vs,rfl,hq,l2,rp2⟩:=aD e rp;have:=dy l2 rp2;subst this;revert hq;cases iX t with
  |true=>exact fun hq=>Aq hc ac s σ H _ us Q I r ⟨a,ns,rfl,hq,ne,fun w hw=>c _ _ _ (kt w hw) (bQ rp.tail fun _=>.int)⟩
  |false=>exact fun hq=>Ap hc ac s σ H _ us Q I r ⟨a,ns,rfl,hq,ne,fun w hw=>c _ _ _ (kt w hw) (bQ rp.tail fun _=>.int)⟩
 exact Rb g
theorem jG(hc:X.calm=true):fw X (.builtin "min") Bl:=by
 rintro ac s σ H xs us Q I r ⟨ts,Γ,k,l,rp,g,c⟩;unfold Bl at g;split at g
 ·rename_i k i j;obtain⟨x,y,rfl⟩:=zz2 l rfl;have rp:Rp X.K H ((.int i,some x)::(.int j,some y)::Γ):=rp;rw[aJ rp,aJ rp.tail]at r;refine AD hc ac s σ H _ us Q I r ⟨i,j,rfl,?_⟩;have e:(if j<i then j else i)=min i j:=by split <;> lia
  rw[e];exact c _ _ _ g (bQ rp.tail.tail fun _=>.int)
 ·rename_i k i j m;obtain⟨x,y,z,rfl⟩:=zz3 l rfl;have rp:Rp X.K H ((.int i,some x)::(.int j,some y)::(.int m,some z)::Γ):=rp;rw[aJ rp,aJ rp.tail,aJ rp.tail.tail]at r;refine A7 hc ac s σ H _ us Q I r ⟨i,j,m,rfl,fun w h1 h2 h3 h4=>?_⟩;have e:w=min (min i j) m:=by lia
  rw[e];exact c _ _ _ g (bQ rp.tail.tail.tail fun _=>.int)
 ·rename_i k t;obtain⟨x,rfl⟩:=zz1 l rfl;have rp:Rp X.K H ((t,some x)::Γ):=rp;obtain⟨us',e,g⟩:=aE g;obtain⟨ns,en,ne,kt⟩:=aE g;have:=cC en;subst this;obtain⟨a,vs,rfl,hq,l2,rp2⟩:=aD e rp;have:=dy l2 rp2;subst this;revert hq;cases iX t with
  |true=>exact fun hq=>Av hc ac s σ H _ us Q I r ⟨a,ns,rfl,hq,ne,fun w hw=>c _ _ _ (kt w hw) (bQ rp.tail fun _=>.int)⟩
  |false=>exact fun hq=>A4 hc ac s σ H _ us Q I r ⟨a,ns,rfl,hq,ne,fun w hw=>c _ _ _ (kt w hw) (bQ rp.tail fun _=>.int)⟩
 exact Rb g
noncomputable def qA:P1s
 | [.tup ts],k=>k (.tup ts)
 | [.cst ts],k=>k (.cst ts)
 | [.lst _ ts],k=>k (.tup ts)
 | _,_=>False
theorem cE:fw X (.type "tuple") qA:=by
 rintro ac s σ H xs us Q I r ⟨ts,Γ,k,l,rp,g,c⟩;unfold qA at g;split at g
 ·rename_i k ts;obtain⟨x,rfl⟩:=zz1 l rfl;have rp:Rp X.K H ((.tup ts,some x)::Γ):=rp;obtain⟨a,vs,rfl,hq,l2,rp2⟩:=aD rfl rp;exact oK ac s σ H _ us Q I r ⟨a,vs,rfl,hq,c _ _ _ g rp⟩
 ·rename_i k ts;obtain⟨x,rfl⟩:=zz1 l rfl;have rp:Rp X.K H ((.cst ts,some x)::Γ):=rp;obtain⟨a,vs,rfl,hq,l2,rp2⟩:=aD rfl rp;exact oK ac s σ H _ us Q I r ⟨a,vs,rfl,hq,c _ _ _ g rp⟩
 ·rename_i k o ts;obtain⟨x,rfl⟩:=zz1 l rfl;have rp:Rp X.K H ((.lst o ts,some x)::Γ):=rp;obtain⟨a,vs,rfl,hq,l2,rp2⟩:=aD rfl rp;exact vU ac s σ H _ us Q I r ⟨a,vs,rfl,hq,fun p H' hp g' e'=>c _ _ _ g (eO rp2 l2 g' e')⟩
 exact Rb g
noncomputable def boolsOf:List T->Option (List Bool)
 | []=>some []
 | .bl i::r=>match boolsOf r with
  |some ns=>some (i::ns)
  |none=>none
 | _::_=>none
theorem jg(ns:List Bool):boolsOf (ns.map T.bl)=some ns:=by
 induction ns with
 |nil=>rfl
 |cons n r ih=>rw[k_,boolsOf,ih]
theorem qw:∀{ts:List T}{ns:List Bool},boolsOf ts=some ns->ts=ns.map T.bl
 | [],ns,e=>by cases e;rfl
 |t::ts,ns,e=>by
  cases t <;> first|cases e|skip
  rename_i i;rw[boolsOf]at e;split at e
  ·rename_i ms em;cases e;rw[k_,qw em]
  cases e
theorem ve{K:QT}{H:Hp}{Γ:Fm}:∀{ns:List Bool}{vs:List V},(ns.map T.bl).length=vs.length->Rp K H (zz (ns.map T.bl) vs++Γ)->vs=bools ns
 | [],[],_,_=>rfl
 | [],_::_,l,_=>by simp at l
 | _::_,[],l,_=>by simp at l
 |n::ns,v::vs,l,h=>by
  have h:Rp K H ((.bl n,some v)::(zz (ns.map T.bl) vs++Γ)):=h;rw[jP h,ve (by simpa using l) h.tail]
  rfl
def GU:P1s
 | [.lst _ ts],k=>got (boolsOf ts) fun bs=>k (.bl (bs.all id))
 | _,_=>False
theorem sL(hc:X.calm=true):fw X (.builtin "all") GU:=by
 rintro ac s σ H xs us Q I r ⟨ts,Γ,k,l,rp,g,c⟩;unfold GU at g;split at g
 ·rename_i k o ts;obtain⟨x,rfl⟩:=zz1 l rfl;have rp:Rp X.K H ((.lst o ts,some x)::Γ):=rp;obtain⟨bs,e,kt⟩:=aE g;have:=qw e;subst this;obtain⟨a,vs,rfl,hq,l2,rp2⟩:=aD rfl rp;have:=ve l2 rp2;subst this;exact BI hc ac s σ H _ us Q I r ⟨a,bs,rfl,hq,c _ _ _ kt (bQ rp.tail fun _=>.bl)⟩
 exact Rb g
abbrev PO':=Ev->(Option Int->Ev->Prop)->Prop
def wO(K:QT)(f:PO'):TO:=fun σ H Q=>∃env Fr k,Rs K H env σ Fr/\f env k/\∀o env' H',k o env'->Rs K H' env' σ Fr->Q o H'
def GO(X:Cx)(e:Option Q9)(f:PO'):Prop:=PO X e (wO X.K f)
noncomputable def JU:PO':=fun env k=>k none env
noncomputable def Jc(f:PF):PO':=fun env k=>f env fun t al=>match t with
 | .int i=>k (some i) al
 | _=>False
theorem FE:GO X none JU:=by rintro ac s σ H Q I ⟨env,Fr,k,rs,q,c⟩;exact yu ac s σ H Q I (c _ _ _ q rs)
theorem Fo{f:PF}(h:GE X e f):GO X (some e) (Jc f):=by
 rintro ac s σ H Q I ⟨env,Fr,k,rs,q,c⟩;refine zu h ac s σ H Q I ⟨env,Fr,_,rs,q,fun t al v H1 q1 rs1=>?_⟩;cases t <;> first|exact Rb q1|skip
 exact⟨_,aJ rs1.head,c _ _ _ q1 rs1.drop⟩
def rm(ts:List T)(lo hi:Option Int):List T:=(ts.drop (HT.sIx ts.length 0 lo)).take (HT.sIx ts.length ts.length hi-HT.sIx ts.length 0 lo)
def slT:T->Option Int->Option Int->(T->Prop)->Prop
 | .lst _ ts,lo,hi,k=>k (.lst true (rm ts lo hi))
 | .tup ts,lo,hi,k=>¬(HT.sIx ts.length 0 lo=0/\HT.sIx ts.length ts.length hi=ts.length)/\k (.tup (rm ts lo hi))
 | .cst ts,lo,hi,k=>¬(HT.sIx ts.length 0 lo=0/\HT.sIx ts.length ts.length hi=ts.length)/\k (.tup (rm ts lo hi))
 | _,_,_,_=>False
theorem A1:∀(ts:List T) (vs:List V) (n:Nat),zz (ts.drop n) (vs.drop n)=(zz ts vs).drop n
 |ts,vs,0=>rfl
 | [],vs,n+1=>by simp[zz]
 |t::ts,[],n+1=>by simp[zz]
 |t::ts,v::vs,n+1=>by show zz (ts.drop n) (vs.drop n)=(zz ts vs).drop n;exact A1 ts vs n
theorem zf:∀(ts:List T) (vs:List V) (n:Nat),zz (ts.take n) (vs.take n)=(zz ts vs).take n
 |ts,vs,0=>by simp[zz]
 | [],vs,n+1=>by simp[zz]
 |t::ts,[],n+1=>by simp[zz]
 |t::ts,v::vs,n+1=>by show(t,some v)::zz (ts.take n) (vs.take n)=(t,some v)::(zz ts vs).take n;rw[zf ts vs n]
theorem xB(l:ts.length=vs.length)(lo hi:Option Int)(h:Rp K H (zz ts vs++Γ)):Rp K H (zz (rm ts lo hi) (iV vs lo hi)++Γ)/\(rm ts lo hi).length=(iV vs lo hi).length:=by
 unfold rm iV;rw[<-l];refine⟨?_,?_⟩
 ·rw[zf,A1];have e1:=G_ (HT.sIx ts.length 0 lo) (zz ts vs);have e2:=G_ (HT.sIx ts.length ts.length hi-HT.sIx ts.length 0 lo) ((zz ts vs).drop (HT.sIx ts.length 0 lo));have h2:Rp K H ((zz ts vs).drop (HT.sIx ts.length 0 lo)++Γ):=by rw[<-e1,l_]at h;exact h.part
  rw[<-e2,l_]at h2;have h3:=h2.perm (C_ _ _ _);exact h3.part
 rw[C',C',K_,K_,l]
def fSl(fa:PF)(fl fh:PO'):PF:=fun env k=>fa env fun t al=>fl al fun lo env2=>fh env2 fun hi env3=>slT t lo hi fun u=>k u env3
theorem C2{lo hi:Option Q9}{fl fh:PO'}{p2:Pos}(he:GE X e fa)(hl:GO X lo fl)(hh:GO X hi fh):GE X (.Subscript e (.Slice lo hi none p2) pos) (fSl fa fl fh):=by
 have sl:SlR X (fun x lo hi H Q=>∃t Γ k,Rp X.K H ((t,some x)::Γ)/\slT t lo hi k/\∀u v H',k u->Rp X.K H' ((u,some v)::Γ)->Q v H'):=by
  rintro ac s σ H x v vl vu lo hi sl Q I rx hs pl pu ⟨t,Γ,k,rp,g,c⟩;cases t with
  |lst o ts=>
   obtain⟨a,vs,rfl,hq,l,rp2⟩:=aD rfl rp;obtain⟨rp3,l3⟩:=xB l lo hi rp2;exact BO ac s σ H _ v vl vu lo hi sl Q I rx hs pl pu ⟨a,vs,rfl,hq,fun p H' hp g' e=>c _ _ _ g (fu rp3 l3 hp g' e)⟩
  |tup ts=>
   obtain⟨a,vs,rfl,hq,l,rp2⟩:=aD rfl rp;obtain⟨rp3,l3⟩:=xB l lo hi rp2;exact yr ac s σ H _ v vl vu lo hi sl Q I rx hs pl pu ⟨a,vs,rfl,hq,by rw[<-l];exact g.1,fun p H' hp g' e=>c _ _ _ g.2 (eO rp3 l3 g' e)⟩
  |cst ts=>
   obtain⟨a,vs,rfl,hq,l,rp2⟩:=aD rfl rp;obtain⟨rp3,l3⟩:=xB l lo hi rp2;exact yr ac s σ H _ v vl vu lo hi sl Q I rx hs pl pu ⟨a,vs,rfl,hq,by rw[<-l];exact g.1,fun p H' hp g' e=>c _ _ _ g.2 (eO rp3 l3 g' e)⟩
  | _=>exact Rb g
 refine PE.imp (v9 sl he hl hh) ?_;rintro σ H Q ⟨env,Fr,k,rs,q,c⟩;refine⟨env,Fr,_,rs,q,fun t al v H1 q1 rs1=>⟨al,_,_,rs1,q1,fun lo env2 H2 q2 rs2=>⟨env2,_,_,rs2,q2,fun hi env3 H3 q3 rs3=>?_⟩⟩⟩;exact⟨t,_,_,rs3.head,q3,fun u w H' ku rp=>c _ _ _ _ ku (.of rs3.1 rp)⟩
end
open PySem PySem.Spec PyProof.Rows L2
inductive Arg where
 |val (t:T)|bor (i:Nat)
noncomputable def qg:Arg->T
 | .val t=>t
 | .bor _=>.any
noncomputable def lend:List Arg->Ev->List T×Ev
 | [],env=>([],env)
 | .val t::r,env=>(t::(lend r env).1,(lend r env).2)
 | .bor i::r,env=>match env[i]? with
  |some t=>(t::(lend r (env.set i .any)).1,(lend r (env.set i .any)).2)
  |none=>(.any::(lend r env).1,(lend r env).2)
noncomputable def back:List Arg->List T->Ev->Ev
 | .bor i::r,t::ts,env=>back r ts (env.set i t)
 | .val _::r,_::ts,env=>back r ts env
 | _,_,env=>env
noncomputable def mn:List Arg->List (Option V)->L2.St->Prop
 | [],[],_=>True
 | .val _::r,_::xs,σ=>mn r xs σ
 | .bor i::r,x::xs,σ=>(σ[i]?=some x\/σ.length<=i)/\mn r xs σ
 | _,_,_=>False
section
variable{K:QT}{H:Hp}{σ:L2.St}
theorem mW:∀{as:List Arg}{xs:List (Option V)}{env:Ev}{Fr:Fm},mn as xs σ->Rs K H env σ ((as.map qg).zip xs++Fr)->Rs K H (lend as env).2 σ ((lend as env).1.zip xs++Fr)
 | [],[],env,Fr,_,h=>h
 | [],_::_,env,Fr,o,_=>o.elim
 | .val t::r,[],env,Fr,o,_=>o.elim
 | .bor i::r,[],env,Fr,o,_=>o.elim
 | .val t::r,x::xs,env,Fr,o,h=>by have h:Rs K H env σ ((t,x)::((r.map qg).zip xs++Fr)):=h;have h2:Rs K H env σ ((r.map qg).zip xs++((t,x)::Fr)):=h.perm i_.symm;exact(mW (as:=r) o h2).perm i_
 | .bor i::r,x::xs,env,Fr,o,h=>by
  have h:Rs K H env σ ((.any,x)::((r.map qg).zip xs++Fr)):=h;have h:=h.drop;rw[lend];split
  ·rename_i t e;obtain⟨y,ey,h2⟩:=h.slot e;have o1:σ[i]?=some x:=by
    rcases o.1 with z|z
    ·exact z
    have:=(c_.mp ey).1;lia
   rw[o1]at ey;cases ey;have h3:Rs K H (env.set i .any) σ ((r.map qg).zip xs++((t,x)::Fr)):=h2.perm i_.symm;exact(mW (as:=r) o.2 h3).perm i_
  have h3:Rs K H env σ ((r.map qg).zip xs++((.any,x)::Fr)):=(Rs.of h.1 (iR (x:=x) h.2)).perm i_.symm;exact(mW (as:=r) o.2 h3).perm i_
theorem n9:∀{as:List Arg}{xs:List (Option V)}{ts:List T}{env:Ev}{Fr:Fm},mn as xs σ->Rs K H env σ (ts.zip xs++Fr)->Rs K H (back as ts env) σ Fr
 | [],xs,ts,env,Fr,_,h=>by
  have:back [] ts env=env:=by cases ts <;> rfl
  rw[this];exact⟨h.1,(h.2.perm (C_ _ _ _)).part⟩
 |a::r,xs,[],env,Fr,_,h=>by
  have:back (a::r) [] env=env:=by cases a <;> rfl
  rw[this];exact h
 | .val t::r,[],u::ts,env,Fr,o,_=>o.elim
 | .bor i::r,[],u::ts,env,Fr,o,_=>o.elim
 | .val t::r,x::xs,u::ts,env,Fr,o,h=>by have h:Rs K H env σ ((u,x)::(ts.zip xs++Fr)):=h;exact n9 (as:=r) o h.drop
 | .bor i::r,x::xs,u::ts,env,Fr,o,h=>by
  have h:Rs K H env σ ((u,x)::(ts.zip xs++Fr)):=h;rw[back];by_cases hi:i<env.length
  ·have o1:σ[i]?=some x:=by
    rcases o.1 with z|z
    ·exact z
    have:=h.1;lia
   exact n9 (as:=r) o.2 (h.nD hi o1)
  have e:env.set i u=env:=NX (by lia);rw[e];exact n9 (as:=r) o.2 h.drop
theorem Rs.put (h:Rs K H env σ ((t,some v)::Fr)):Rs K H (env.set i t) (σ.set i (some v)) Fr:=by
 by_cases hi:i<env.length
 ·exact h.store hi
 rw[NX (by lia),NX (by rw[<-h.1];lia)];exact h.drop
end
abbrev PAs:=Ev->(List Arg->Ev->Prop)->Prop
def wR(K:QT)(f:PAs):TA:=fun σ H Q=>∃env Fr k,Rs K H env σ Fr/\f env k/\∀as env' vs H',k as env'->as.length=vs.length->mn as (vs.map some) σ->Rs K H' env' σ ((as.map qg).zip (vs.map some)++Fr)->Q vs H'
def GR(X:Cx)(es:List Q9)(f:PAs):Prop:=PA X es (wR X.K f)
noncomputable def Km:PAs:=fun env k=>k [] env
noncomputable def Kh(f:PF)(r:PAs):PAs:=fun env k=>f env fun t al=>r al fun as env2=>k (.val t::as) env2
def J5(i:Nat)(r:PAs):PAs:=fun env k=>(match env[i]? with
 |some t=>isAny t=false
 |none=>False)/\r env fun as env2=>k (.bor i::as) env2
section
variable{X:Cx}{e:Q9}{es:List Q9}{f:PF}{fr:PAs}
theorem aq:GR X [] Km:=PA.imp kq (by rintro σ H Q ⟨env,Fr,k,rs,q,c⟩;exact c [] env [] H q rfl trivial rs)
theorem ah(he:GE X e f)(hr:GR X es fr)(hs:Ra (e::es) X.env=(false,Rw e X.env)::Ra es X.env:=by rfl):GR X (e::es) (Kh f fr):=by refine PA.imp (f9 he hr hs) ?_;rintro σ H Q ⟨env,Fr,k,rs,q,c⟩;refine⟨env,Fr,_,rs,q,fun t al v H1 q1 rs1=>⟨al,_,_,rs1,q1,fun as env2 vs H2 q2 l ao rs2=>c _ _ _ _ q2 (by rw[h_,h_,l]) ao ?_⟩⟩;exact rs2.perm i_
theorem aV(i:Nat){x:Str}(hr:GR X es fr)(hN:X.N[i]?=some x:=by rfl)(hv:Vis X.env.scope x:=by first|exact f_ rfl|exact v_ (f_ rfl)|exact v_ (v_ rfl))(hd:(x ==("__debug__":Str))=false:=by decide)(hcd:(x ==("__classdict__":Str))=false:=by decide)
  (hs:Ra (.Name x pos::es) X.env=(false,Rw (.Name x pos) X.env)::Ra es X.env:=by rfl):GR X (.Name x pos::es) (J5 i fr):=by
 refine PA.imp (f9 (jt hN hv hd hcd) hr hs) ?_;rintro σ H Q ⟨env,Fr,k,rs,⟨na,q⟩,c⟩;split at na
 ·rename_i t e;obtain⟨y,ey,rs2⟩:=rs.slot e;obtain⟨v,rfl⟩:=eM rs2 na;refine⟨v,ey,env,Fr,_,rs,q,fun as env2 vs H2 q2 l ao rs2=>c _ _ _ _ q2 (by rw[h_,h_,l]) ⟨.inl ey,ao⟩ ?_⟩;exact .of rs2.1 (iR rs2.2)
 exact na.elim
end
abbrev FP:=List T->(T->List T->Prop)->Prop
def aL(K:QT)(n:Nat)(P:FP):Sp:=fun vs H Q _=>∃ts Fr k,ts.length=vs.length/\vs.length=n/\Rp K H (zz ts vs++Fr)/\P ts k/\∀t ts' v H',k t ts'->Rp K H' ((t,some v)::(zz ts' vs++Fr))->Q v H'
noncomputable def Ju(P:FP)(ts:List T)(k:T->List T->Prop):Prop:=P ts k
def Hj(n:Nat)(P:FP)(fr:PAs):PF:=fun env k=>fr env fun as al=>as.length=n/\Ju P (lend as al).1 fun t ts'=>k t (back as ts' (lend as al).2)
variable {P:FP}{ps:List Str}
section
variable{X:Cx}
theorem js:∀(as:List Arg) (env:Ev),(lend as env).1.length=as.length
 | [],env=>rfl
 | .val t::r,env=>by rw[lend,h_,h_,js r]
 | .bor i::r,env=>by
  rw[lend];split
  ·rw[h_,h_,js r]
  rw[h_,h_,js r]
theorem Fx{fr:PAs}:∀ σ H Q,wE X.K (Hj n P fr) σ H Q->C9 (aL X.K n P) [] E0 (wR X.K fr) σ H Q:=by
 rintro σ H Q ⟨env,Fr,k,rs,q,c⟩;refine⟨env,Fr,_,rs,q,fun as al vs H1 ⟨hn,q1⟩ l ao rs1=>?_⟩;show aL X.K n P (vs++[]) H1 Q E0;rw[I_];have rs2:=mW ao rs1;refine⟨(lend as al).1,(lend as al).2.zip σ++Fr,_,by rw[js,l],by rw[<-l];exact hn,?_,q1,fun t ts' v H' kt rp=>c _ _ _ _ kt ?_⟩
 ·exact rs2.2.perm (C_ _ _ _)
 have h3:Rs X.K H' (lend as al).2 σ (zz ts' vs++((t,some v)::Fr)):=⟨rs2.1,rp.perm (by refine D' ?_ (C_ _ _ _);refine D' i_.symm ?_;exact Mk _ i_.symm)⟩
 exact n9 ao h3
theorem au{k:Nat}{x:Str}{fr:PAs}{p:Pos}(D:Cal X.prog X.w X.K X.mg X.base j x ps (aL X.K n P))(hr:Room k X.A)(hg:Gl X x)(ha:GR X (e::es) fr)(hjk:j<=k:=by omega)(hdb:(x ==("__debug__":Str))=false:=by decide)
  (he:Ra (e::es) X.env=(false,Rw e X.env)::Ra es X.env:=by rfl) (hpl:(Tv pos (Ra es X.env)).any (·.1)=false:=by rfl):GE X (.Call (.Name x p) (e::es) [] pos) (Hj n P fr):=PE.imp (Ic D hr hg ha hjk hdb he hpl) Fx
end
structure PEn where
 nx:Ev->Prop
 rt:T->Ev->Prop
 bk:Ev->Prop:=fun _=>False
 ct:Ev->Prop:=fun _=>False
abbrev PSt:=PEn->Ev->Prop
noncomputable def Kept(κ:Nat->Bool)(σ σ':L2.St):Prop:=σ'.length=σ.length/\∀j,κ j=true->σ'[j]?=σ[j]?
variable {κ:Nat->Bool}
theorem Kept.refl {σ:L2.St}:Kept κ σ σ:=⟨rfl,fun _ _=>rfl⟩
variable {σ':L2.St}
theorem Kept.trans {σ σ'':L2.St}(a:Kept κ σ σ')(b:Kept κ σ' σ''):Kept κ σ σ'':=⟨b.1.trans a.1,fun j h=>(b.2 j h).trans (a.2 j h)⟩
theorem Kept.set {σ:L2.St}(h:κ i=false):Kept κ σ (σ.set i x):=⟨LX,fun j hj=>by
 by_cases e:i=j
 ·subst e;rw[h]at hj;cases hj
 rw[Ol e]⟩
structure EndOk (K:QT) (κ:Nat->Bool) (σ:L2.St) (Fr:Fm) (pe:PEn) (D:Ends):Prop where
 nx:∀env' σ' H',pe.nx env'->Rs K H' env' σ' Fr->Kept κ σ σ'->D.nx σ' H'
 rt:∀t env' v σ' H',pe.rt t env'->Rs K H' env' σ' ((t,some v)::Fr)->Kept κ σ σ'->D.rt v H'
 bk:∀env' σ' H',pe.bk env'->Rs K H' env' σ' Fr->Kept κ σ σ'->D.bk σ' H'
 ct:∀env' σ' H',pe.ct env'->Rs K H' env' σ' Fr->Kept κ σ σ'->D.ct σ' H'
variable {pe:PEn}
theorem EndOk.later {σ:L2.St}{D:Ends}(h:EndOk K κ σ Fr pe D)(k:Kept κ σ σ'):EndOk K κ σ' Fr pe D:=
 ⟨fun a b c p q r=>h.nx a b c p q (k.trans r),fun a b c d e p q r=>h.rt a b c d e p q (k.trans r),fun a b c p q r=>h.bk a b c p q (k.trans r),fun a b c p q r=>h.ct a b c p q (k.trans r)⟩
def wS(K:QT)(κ:Nat->Bool)(f:PSt):TS:=fun D σ H=>∃env Fr pe,Rs K H env σ Fr/\f pe env/\EndOk K κ σ Fr pe D
def GS(κ:Nat->Bool)(X:Cx)(st:RC)(f:PSt):Prop:=PS X st (wS X.K κ f)
def GSs(κ:Nat->Bool)(X:Cx)(sts:List RC)(f:PSt):Prop:=PSs X sts (wS X.K κ f)
variable {st:RC}
theorem PS.imp {t t':TS}(h:PS X st t)(k:∀D σ H,t' D σ H->t D σ H):PS X st t':=fun ac s σ H D I q=>h ac s σ H D I (k _ _ _ q)
theorem PSs.imp {st:List RC}{t t':TS}(h:PSs X st t)(k:∀D σ H,t' D σ H->t D σ H):PSs X st t':=fun ac s σ H D I q=>h ac s σ H D I (k _ _ _ q)
noncomputable def Ge:PSt:=fun pe env=>pe.nx env
noncomputable def JT(f g:PSt):PSt:=fun pe env=>f {pe with nx:=g pe} env
variable {c:Q9}{tc:PB}
section
variable{X:Cx}{κ:Nat->Bool}{pos:Pos}{st:RC}{rest:List RC}{f g:PSt}{e:Q9}{fe:PF}
theorem aH:GSs κ X [] Ge:=PSs.imp tX (by rintro D σ H ⟨env,Fr,pe,rs,q,c⟩;exact c.nx _ _ _ q rs .refl)
theorem af(h1:GS κ X st f)(h2:GSs κ X rest g):GSs κ X (st::rest) (JT f g):=by refine PSs.imp (bR h1 h2) ?_;rintro D σ H ⟨env,Fr,pe,rs,q,c⟩;refine⟨env,Fr,_,rs,q,⟨fun env' σ' H' q1 rs1 k1=>⟨env',Fr,pe,rs1,q1,c.later k1⟩,c.rt,c.bk,c.ct⟩⟩
theorem ai(h1:GS κ X st f):GSs κ X [st] f:=md h1
noncomputable def Gv(fe:PF):PSt:=fun pe env=>fe env fun _ al=>pe.nx al
theorem bK(he:GE X e fe)(hs:Uv e none pos.line X.env=pure false:=by rfl):GS κ X (.Expr e pos) (Gv fe):=by refine PS.imp (F4 he hs) ?_;rintro D σ H ⟨env,Fr,pe,rs,q,c⟩;exact⟨env,Fr,_,rs,q,fun t env' v H' q1 rs1=>c.nx _ _ _ q1 rs1.drop .refl⟩
noncomputable def Kv(fe:PF):PSt:=fun pe env=>fe env fun t al=>pe.rt t al
theorem aG(he:GE X e fe):GS κ X (.Return (some e) pos) (Kv fe):=by refine PS.imp (uR he) ?_;rintro D σ H ⟨env,Fr,pe,rs,q,c⟩;exact⟨env,Fr,_,rs,q,fun t env' v H' q1 rs1=>c.rt _ _ _ _ _ q1 rs1 .refl⟩
def sIf(tc:PB)(f g:PSt):PSt:=fun pe env=>tc env fun b al=>cnd b (f pe al) (g pe al)
theorem bj{a b:List RC}(hc:GT X c tc)(ha:GSs κ X a f)(hb:GSs κ X b g):GS κ X (.If c a b pos) (sIf tc f g):=by refine PS.imp (D6 hc ha hb) ?_;rintro D σ H ⟨env,Fr,pe,rs,q,c⟩;refine⟨env,Fr,_,rs,q,fun b env' H' q1 rs1=>ff ⟨fun h=>⟨env',Fr,pe,rs1,q1.1 h,c⟩,fun h=>⟨env',Fr,pe,rs1,q1.2 h,c⟩⟩⟩
noncomputable def HY(i:Nat)(fe:PF):PSt:=fun pe env=>fe env fun t al=>pe.nx (al.set i t)
theorem ax{i:Nat}{x:Str}{pos':Pos}(hN:X.N.Nodup)(hi:X.N[i]?=some x)(hx:Loc X.env.scope x)(hκ:κ i=false)(he:GE X e fe)(hs:Uv e (some (.Name x pos')) pos.line X.env=pure false:=by rfl)(hf:X.fn x=true\/X.env.scope.names.lookup x=some .local:=by first|exact .inl rfl|exact .inr rfl|assumption) :
  GS κ X (.Assign [.Name x pos'] e pos) (HY i fe):=by
 refine PS.imp (jd hN hi hx he hs hf) ?_;rintro D σ H ⟨env,Fr,pe,rs,q,c⟩;exact⟨env,Fr,_,rs,q,fun t env' v H' q1 rs1=>c.nx _ _ _ q1 rs1.put (.set hκ)⟩
abbrev PG':=T->Ev->(Ev->Prop)->Prop
abbrev r9:=List T->Ev->(Ev->Prop)->Prop
def wG(K:QT)(κ:Nat->Bool)(f:PG'):TG:=fun v σ H Q=>∃t env Fr k,Rs K H env σ ((t,some v)::Fr)/\f t env k/\∀env' σ' H',k env'->Rs K H' env' σ' Fr->Kept κ σ σ'->Q σ' H'
def wGs(K:QT)(κ:Nat->Bool)(f:r9):TGs:=fun vs σ H Q=>∃ts env Fr k,ts.length=vs.length/\Rs K H env σ (zz ts vs++Fr)/\f ts env k/\∀env' σ' H',k env'->Rs K H' env' σ' Fr->Kept κ σ σ'->Q σ' H'
def GG(κ:Nat->Bool)(X:Cx)(tg:Q9)(f:PG'):Prop:=PG X tg (wG X.K κ f)
def GGs(κ:Nat->Bool)(X:Cx)(tgs:List Q9)(f:r9):Prop:=PGs X tgs (wGs X.K κ f)
noncomputable def gN(i:Nat):PG':=fun t env k=>k (env.set i t)
theorem ak{i:Nat}{x:Str}(hN:X.N.Nodup)(hi:X.N[i]?=some x)(hx:Loc X.env.scope x)(hκ:κ i=false)(hf:X.fn x=true\/X.env.scope.names.lookup x=some .local:=by first|exact .inl rfl|exact .inr rfl|assumption):GG κ X (.Name x pos) (gN i):=
 fun ac s σ H v u Q I r ⟨t,env,Fr,k,rs,q,c⟩=>zN hN hi hx hf ac s σ H v u Q I r (c _ _ _ q rs.put (.set hκ))
noncomputable def GD:r9:=fun ts env k=>ts=[]/\k env
noncomputable def D7(f:PG')(r:r9):r9:=fun ts env k=>match ts with
 |t::ts=>f t env fun al=>r ts al k
 | []=>False
noncomputable def gTp(n:Nat)(f:r9):PG':=fun t env k=>match t with
 | .tup ts=>ts.length=n/\f ts env k
 | .cst ts=>ts.length=n/\f ts env k
 | _=>False
end
open PySem PySem.Spec PyProof.Rows L2
variable {body:List RC}{fb:PSt}
section
variable{X:Cx}{κ:Nat->Bool}{pos:Pos}{e tg:Q9}{es:List Q9}{fe:PF}{g:PG'}{gs:r9}
theorem bU:GGs κ X [] GD:=by
 rintro ac s σ H vs us Q I r ⟨ts,env,Fr,k,l,rs,⟨e,q⟩,c⟩;subst e;have:vs=[]:=by cases vs with|nil=>rfl|cons _ _=>cases l
 subst this;exact zq ac s σ H [] us Q I r ⟨rfl,c _ _ _ q rs .refl⟩
theorem aC(h1:GG κ X e g)(h2:GGs κ X es gs)(hs:(SN (e::es) X.env).map (·.2)=Ug e X.env::(SN es X.env).map (·.2):=by rfl):GGs κ X (e::es) (D7 g gs):=by
 rintro ac s σ H vs us Q I r ⟨ts,env,Fr,k,l,rs,q,c⟩;cases ts with
 |nil=>exact Rb q
 |cons t ts=>
  cases vs with
  |nil=>cases l
  |cons v vs=>
   have q:g t env fun al=>gs ts al k:=q;refine pB h1 h2 hs ac s σ H (v::vs) us Q I r ⟨v,vs,rfl,t,env,zz ts vs++Fr,_,rs,q,fun al σ1 H1 q1 rs1 k1=>?_⟩;exact⟨ts,al,Fr,k,by simpa using l,rs1,q1,fun env2 σ2 H2 q2 rs2 k2=>c _ _ _ q2 rs2 (k1.trans k2)⟩
theorem cF{x1 n:Nat}(hc:X.calm=true)(h:GGs κ X es gs)(hn:(SN es X.env).length=n:=by rfl)(hst:(SN es X.env).findIdx? (·.1)=none:=by rfl):GG κ X (.Tuple es x1 pos) (gTp n gs):=by
 rintro ac s σ H v u Q I r ⟨t,env,Fr,k,rs,q,c⟩;have go:∀ts,items t=some ts->iX t=true->ts.length=n->gs ts env k->QX (Q3 X.prog X.w) X.A (Ug (.Tuple es x1 pos) X.env u) (fun _ s'=>∃ σ' H',Inv X ac σ' H' s'/\Q σ' H') X.xe s:=fun ts e1 e2 e3 q=>by obtain⟨a,vs,rfl,hq,l,rp⟩:=aD e1 rs.head;rw[e2]at hq;refine BG hc h hn hst ac s σ H _ u Q I r ⟨a,vs,rfl,hq,by rw[<-l];exact e3,ts,env,Fr,k,l,⟨rs.1,?_⟩,q,c⟩;exact rp.perm (C_ _ _ _)
 cases t with
 |tup ts=>exact go ts rfl rfl q.1 q.2
 |cst ts=>exact go ts rfl rfl q.1 q.2
 | _=>exact Rb q
noncomputable def JY(fe:PF)(g:PG'):PSt:=fun pe env=>fe env fun t al=>g t al pe.nx
theorem lV(he:GE X e fe)(hg:GG κ X tg g)(hs:Xx [tg] e pos.line X.env=pure false:=by rfl)(hw:Xy [tg] e X.env=pure none:=by rfl)(h1:(SN [tg] X.env).map (·.2)=[Ug tg X.env]:=by rfl) :
  GS κ X (.Assign [tg] e pos) (JY fe g):=by
 refine PS.imp (Cz he hg hs hw h1) ?_;rintro D σ H ⟨env,Fr,pe,rs,q,c⟩;exact⟨env,Fr,_,rs,q,fun t env' v H' q1 rs1=>⟨t,env',Fr,_,rs1,q1,fun env2 σ2 H2 q2 rs2 k2=>c.nx _ _ _ q2 rs2 k2⟩⟩
def Ia(i:Nat)(fe:PF)(g:P2):PSt:=fun pe env=>(match env[i]? with
 |some t=>isAny t=false/\aW t=true
 |none=>False)/\fe env fun u al=>match env[i]? with
 |some t=>g t u fun w=>pe.nx (al.set i w)
 |none=>False
def IpP(X:Cx)(op:Vb)(g:P2):Prop:=PIp X op (w2 X.K g)
theorem Bn{x:Str}{op:Vb}{g:P2}{pos':Pos}(hN:X.N.Nodup)(hi:X.N[i]?=some x)(hx:Loc X.env.scope x)(hκ:κ i=false)(he:GE X e fe)(ho:IpP X op g)(hf:X.fn x=true\/X.env.scope.names.lookup x=some .local:=by first|exact .inl rfl|exact .inr rfl|assumption) :
  GS κ X (.AugAssign (.Name x pos') op e pos) (Ia i fe g):=by
 refine PS.imp (IL hN hi hx he ho hf) ?_;rintro D σ H ⟨env,Fr,pe,rs,⟨q0,q⟩,c⟩;cases e0:env[i]? with
 |none=>rw[e0]at q0;exact q0.elim
 |some t=>
  simp only[e0]at q0 q;obtain⟨y,ey,rs2⟩:=rs.slot e0;obtain⟨v,rfl⟩:=eM rs2 q0.1;have hi':i<env.length:=(c_.mp e0).1;have r3:Rs X.K H (env.set i .any) σ ((t,some v)::(t,some v)::Fr):=.of rs2.1 ((lU rs2.head q0.2).perm (OB _ i_.symm));have r4:=Rs.nD (i:=i) r3 (by rw[LX];exact hi') ey;rw[mZ e0]at r4;refine⟨v,ey,env,(t,some v)::Fr,_,r4,q,fun u al w H1 q1 rs1=>?_⟩;refine⟨t,u,al.zip σ++Fr,_,rs1.head.perm (.cons _ i_),q1,fun z b H2 kz rp=>?_⟩;exact c.nx _ _ _ kz (Rs.put (.of rs1.1 rp)) (.set hκ)
noncomputable def FW:P2
 | .int i,.int j,k=>k (.int (i+j))
 | _,_,_=>False
theorem A0:IpP X .Add FW:=by
 rintro ac s σ H x y v u Q I rx ry ⟨tx,ty,Γ,k,rp,g,c⟩;cases tx <;> cases ty <;> first|exact Rb g|skip
 rename_i i j;rw[aJ rp]at ry;rw[aJ rp.tail]at rx;exact Ie ac s σ H _ _ v u Q I rx ry ⟨i,j,rfl,rfl,c _ _ _ g (bQ rp.tail.tail fun _=>.int)⟩
def wN(tc:PB)(fb:PSt)(pe:PEn)(env:Ev):Prop:=∃W:Nat->Ev->Prop,(∃m,W m env)/\∀m env,W m env->tc env fun b al=>cnd b (fb {pe with nx:=fun e=>∃m',m'<m/\W m' e,ct:=fun e=>∃m',m'<m/\W m' e,bk:=pe.nx} al) (pe.nx al)
def Cy(tc:PB)(fb:PSt):PSt:=fun pe env=>wN tc fb pe env
theorem DG(hp:Wb (Q3 X.prog X.w) X.A X.env X.xe)(hc:GT X c tc)(hb:GSs κ X body fb):GS κ X (.While c body [] pos) (Cy tc fb):=by
 refine PS.imp (CG hp hc hb) ?_;rintro D σ H ⟨env,Fr,pe,rs,⟨W,⟨m0,w0⟩,wt⟩,c⟩;refine⟨fun m σ' H'=>∃env',W m env'/\Rs X.K H' env' σ' Fr/\Kept κ σ σ',⟨m0,env,w0,rs,.refl⟩,?_⟩;rintro m σ1 H1 ⟨al,w1,rs1,k1⟩;refine⟨al,Fr,_,rs1,wt m al w1,fun b env2 H2 q2 rs2=>ff ⟨fun h=>?_,fun h=>c.nx _ _ _ (q2.2 h) rs2 k1⟩⟩;refine⟨fun σ' H'=>∃m' env',m'<m/\W m' env'/\Rs X.K H' env' σ' Fr/\Kept κ σ σ',fun σ' H' ⟨m',env',hm,w',r',k'⟩=>⟨m',hm,env',w',r',k'⟩,env2,Fr,_,rs2,q2.1 h,⟨?_,?_,?_,?_⟩⟩
 ·exact fun env' σ' H' ⟨m',hm,w'⟩ r' k'=>⟨m',env',hm,w',r',k1.trans k'⟩
 ·exact fun t env' v σ' H' p r' k'=>c.rt _ _ _ _ _ p r' (k1.trans k')
 ·exact fun env' σ' H' p r' k'=>c.nx _ _ _ p r' (k1.trans k')
 exact fun env' σ' H' ⟨m',hm,w'⟩ r' k'=>⟨m',env',hm,w',r',k1.trans k'⟩
structure ItOk (K:QT) (J:It) (its:List T) (Fg:Fm):Prop where
 turn:∀i t H Γ,its[i]?=some t->Rp K H (Fg++Γ)->J.go i H/\∀x H',J.yld i H x H'->Rp K H' ((t,some x)::(Fg++Γ))
 stop:∀H Γ,Rp K H (Fg++Γ)->J.stop its.length H
abbrev PIt:=Ev->(List T->Ev->Prop)->Prop
def wI(K:QT)(f:PIt):TI:=fun σ H R=>∃env Fr k,Rs K H env σ Fr/\f env k/\∀its env' J Fg H',k its env'->Rs K H' env' σ (Fg++Fr)->ItOk K J its Fg->R J H'
def GI(X:Cx)(tg iter:Q9)(f:PIt):Prop:=PI X tg iter (wI X.K f)
noncomputable def forL(its:List T)(g:PG')(fb:PSt)(pe:PEn)(al:Ev):Prop:=∃W:Nat->Ev->Prop,W 0 al/\(∀i t env,W i env->its[i]?=some t->g t env fun env2=>fb {pe with nx:=W (i+1),ct:=W (i+1),bk:=pe.nx} env2)/\∀env,W its.length env->pe.nx env
def KI(fi:PIt)(g:PG')(fb:PSt):PSt:=fun pe env=>fi env fun its al=>forL its g fb pe al
theorem qh{σ:L2.St}{Fg:Fm}(h:Rs K H env σ (Fg++Fr)):Rs K H env σ Fr:=⟨h.1,(h.2.perm (C_ _ _ _)).part⟩
theorem bA{iter:Q9}{fi:PIt}{g:PG'}(hp:Wb (Q3 X.prog X.w) X.A X.env X.xe)(hc:X.calm=true)(hi:GI X tg iter fi)(hg:GG κ X tg g)(hb:GSs κ X body fb)(hs:∀x,R1 iter X.env x=pure x:=by intro _;rfl):GS κ X (.For tg iter body [] pos) (KI fi g fb):=by
 refine PS.imp (HD hp hc hi hg hb hs) ?_;rintro D σ H ⟨env,Fr,pe,rs,q,c⟩;refine⟨env,Fr,_,rs,q,?_⟩;rintro its al J Fg H1 ⟨W,w0,wt,we⟩ rs1 ok;refine⟨fun i m σ' H'=>∃env',W i env'/\Rs X.K H' env' σ' (Fg++Fr)/\Kept κ σ σ'/\m+i=its.length,⟨its.length,al,w0,rs1,.refl,rfl⟩,?_⟩;rintro i m σ1 H2 ⟨env2,w2,rs2,k2,hm⟩;have rp2:Rp X.K H2 (Fg++(env2.zip σ1++Fr)):=rs2.2.perm (C_ _ _ _);by_cases hlt:i<its.length
 ·have ei:its[i]?=some its[i]:=d_ hlt;obtain⟨hgo,hy⟩:=ok.turn i its[i] H2 _ ei rp2;refine .inr ⟨hgo,fun σ' H'=>∃env',W (i+1) env'/\Rs X.K H' env' σ' (Fg++Fr)/\Kept κ σ σ',fun σ' H' ⟨env',w',r',k'⟩=>⟨m-1,by lia,env',w',r',k',by lia⟩,fun x H' hx=>?_⟩;have rp3:=hy x H' hx;have rs3:Rs X.K H' env2 σ1 ((its[i],some x)::(Fg++Fr)):=.of rs2.1 (rp3.perm (.cons _ (C_ _ _ _)));refine⟨its[i],env2,Fg++Fr,_,rs3,wt i its[i] env2 w2 ei,fun env3 σ3 H3 q3 rs4 k4=>?_⟩;refine⟨env3,Fg++Fr,_,rs4,q3,⟨?_,?_,?_,?_⟩⟩
  ·exact fun env' σ' H' w' r' k'=>⟨env',w',r',k2.trans (k4.trans k')⟩
  ·exact fun t env' v σ' H' p r' k'=>c.rt _ _ _ _ _ p (qh (Fg:=Fg) (r'.perm i_.symm)) (k2.trans (k4.trans k'))
  ·exact fun env' σ' H' p r' k'=>c.nx _ _ _ p (qh r') (k2.trans (k4.trans k'))
  exact fun env' σ' H' w' r' k'=>⟨env',w',r',k2.trans (k4.trans k')⟩
 have:i=its.length:=by lia
 subst this;exact .inl ⟨ok.stop H2 _ rp2,c.nx _ _ _ (we env2 w2) (qh rs2) k2⟩
end
section
variable{X:Cx}{pos:Pos}{e tg:Q9}{fe:PF}
def JF(fe:PF):PIt:=fun env k=>fe env fun t al=>got (items t) fun ts=>k (erL ts) al
theorem Hx(e:items t=some ts)(n:aW t=true):ItOk K (Its K (iX t) a) ts [(t,some (.ref a))] where
 turn:=fun i u H Γ ei rp=>by obtain⟨a',vs,ea,hq,l,rp2⟩:=aD e (lU rp n);cases ea;obtain⟨w,ew⟩:=qy l ei;refine⟨Ho hq rfl i H .bY (by have:=(c_.mp ew).1;exact this),fun x H' hy=>?_⟩;obtain⟨rfl,hx⟩:=FA hq .bY hy;rw[ew]at hx;cases hx;exact jw rp2 ei ew
 stop:=fun H Γ rp=>by obtain⟨a',vs,ea,hq,l,rp2⟩:=aD e rp;cases ea;exact DI hq l.symm H .bY
theorem pW(e:items t=some ts):items (er t)=some (erL ts)/\iX (er t)=iX t:=by cases t <;> cases e <;> exact⟨rfl,rfl⟩
theorem aR(h:GE X e fe):GI X tg e (JF fe):=by rintro ac s σ H R I ⟨env,Fr,k,rs,q,c⟩;refine IY h ac s σ H R I ⟨env,Fr,_,rs,q,fun t al v H1 q1 rs1=>?_⟩;obtain⟨ts,e1,kt⟩:=aE q1;have rf:Rp X.K H1 ((er t,some v)::(al.zip σ++Fr)):=qq rs1.head;obtain⟨e2,e3⟩:=pW e1;obtain⟨a,vs,rfl,hq,l,rp2⟩:=aD e2 rf;exact⟨iX (er t),a,vs,rfl,hq,c _ _ _ _ _ kt (Rs.of (Fr:=Fr) rs1.1 rf) (Hx e2 (bB t))⟩
noncomputable def jN(lo:Int)(n:Nat):List T:=(B' n).map fun(i:Nat)=>.int (lo+(i:Int))
theorem Cn(lo:Int)(n:Nat):ItOk K (Itr lo n) (jN lo n) [] where
 turn:=fun i t H Γ ei rp=>by
  unfold jN at ei;rw[B_]at ei;have hi:i<n:=by
   cases h:(B' n)[i]? with
   |none=>rw[h]at ei;cases ei
   |some j=>
    have:=(c_.mp h).1;simpa using this
  rw[OA hi]at ei;cases ei;refine⟨hi,fun x H' ⟨e1,e2⟩=>?_⟩;subst e1;subst e2;exact bQ rp fun _=>.int
 stop:=fun H Γ rp=>by show n<=_;unfold jN;rw[a_,Mo];exact b_ _
def iR1(fr:PFs):PIt:=fun env k=>fr env fun ts al=>match ts with
 | [.int j]=>(-(2 ^ 62)<=j/\j<2 ^ 62)/\k (jN 0 j.toNat) al
 | _=>False
def iR2(fr:PFs):PIt:=fun env k=>fr env fun ts al=>match ts with
 | [.int i,.int j]=>(-(2 ^ 62)<=i/\i<2 ^ 62/\-(2 ^ 62)<=j/\j<2 ^ 62)/\k (jN i (j-i).toNat) al
 | _=>False
variable{a b c:Q9}{fr:PFs}{p:Pos}
theorem dO(hg:Gl X "range")(hm:X.mg "range"=none)(ha:GA X [a] fr)(hs:Ra [a] X.env=[(false,Rw a X.env)]:=by rfl):GI X tg (.Call (.Name "range" p) [a] [] pos) (iR1 fr):=by
 rintro ac s σ H R I ⟨env,Fr,k,rs,q,c⟩;refine A6 hg hm ha hs ac s σ H R I ⟨env,Fr,_,rs,q,fun ts al vs H1 q1 l rs1=>?_⟩;rcases ts with _|⟨t,_|⟨t2,ts⟩⟩
 ·exact q1.elim
 ·cases t <;> first|exact q1.elim|skip
  rename_i j;rcases vs with _|⟨v,_|⟨v2,vs⟩⟩
  ·cases l
  ·have rs1:Rs X.K H1 al σ ((.int j,some v)::Fr):=rs1;rw[aJ rs1.head];exact⟨j,rfl,q1.1.1,q1.1.2,c _ _ _ [] _ q1.2 rs1.drop (Cn 0 _)⟩
  cases l
 cases t <;> exact q1.elim
theorem rF(hg:Gl X "range")(hm:X.mg "range"=none)(ha:GA X [a,b] fr)(hs:Ra [a,b] X.env=[(false,Rw a X.env),(false,Rw b X.env)]:=by rfl)(hs2:Ra [b] X.env=[(false,Rw b X.env)]:=by rfl):GI X tg (.Call (.Name "range" p) [a,b] [] pos) (iR2 fr):=by
 rintro ac s σ H R I ⟨env,Fr,k,rs,q,c⟩;refine AL hg hm ha hs hs2 ac s σ H R I ⟨env,Fr,_,rs,q,fun ts al vs H1 q1 l rs1=>?_⟩;rcases ts with _|⟨t,_|⟨u,_|⟨t3,ts⟩⟩⟩
 ·exact q1.elim
 ·cases t <;> exact q1.elim
 ·cases t <;> try exact q1.elim
  cases u <;> try exact q1.elim
  rename_i i j;obtain⟨v,w,rfl⟩:=zz2 l rfl;have rs1:Rs X.K H1 al σ ((.int i,some v)::(.int j,some w)::Fr):=rs1;rw[aJ rs1.head,aJ rs1.drop.head];exact⟨i,j,rfl,q1.1,c _ _ _ [] _ q1.2 rs1.drop.drop (Cn i _)⟩
 cases t <;> try exact q1.elim
 cases u <;> exact q1.elim
def iZp(fr:PFs):PIt:=fun env k=>fr env fun ts al=>match ts with
 | [t,u]=>got (items t) fun as=>got (items u) fun bs=>k (((erL as).zip (erL bs)).map fun p=>.tup [p.1,p.2]) al
 | _=>False
theorem Iy{x:V}{p:QS}(h:Rp K H ((t,some x)::(u,some y)::Γ))(s:bz H H')(e:H' p=some (.tup [x,y])):Rp K H' ((.tup [t,u],some (.ref p))::Γ):=
 eO (ts:=[t,u]) (vs:=[x,y]) h rfl s e
theorem GN{as bs:List T}{a b:QS}(e1:items t=some as)(e2:items u=some bs)(n1:aW t=true)(n2:aW u=true) :
  ItOk K (Itz K (iX t) a (iX u) b) ((as.zip bs).map fun p=>.tup [p.1,p.2]) [(t,some (.ref a)),(u,some (.ref b))] where
 turn:=fun i w H Γ ei rp=>by
  rw[B_]at ei;cases hz:(as.zip bs)[i]? with
  |none=>rw[hz]at ei;cases ei
  |some q=>
   rw[hz]at ei;cases ei;obtain⟨q1,q2⟩:=q;rw[OM]at hz;have rp0:Rp K H ((t,some (.ref a))::(u,some (.ref b))::Γ):=rp;have rpd:=lU rp0 n1;have rpe:Rp K H ((u,some (.ref b))::(t,some (.ref a))::(t,some (.ref a))::Γ):=rpd.perm (by refine D' ?_ (M3 _ _ _);exact .cons _ (.swap _ _ _))
   have rpf:=lU rpe n2;obtain⟨b',ws,eb,hb,lb,rpg⟩:=aD e2 rpf;cases eb;obtain⟨y,ey⟩:=qy lb hz.2;have rph:=jw rpg hz.2 ey;have rpi:Rp K H ((t,some (.ref a))::(q2,some y)::(t,some (.ref a))::(u,some (.ref b))::Γ):=rph.perm (by refine D' ?_ (M3 _ _ _);refine .cons _ ?_;refine D' (M3 _ _ _) ?_;exact .cons _ (M3 _ _ _))
   obtain⟨a',vs,ea,ha,la,rpj⟩:=aD e1 rpi;cases ea;obtain⟨x,ex⟩:=qy la hz.1;have rpk:=jw rpj hz.1 ex;refine⟨⟨vs,ws,x,y,ha,hb,ex,ey⟩,fun v H' hy=>?_⟩;obtain⟨p,x',y',hp,ev,eH,h1,h2⟩:=hy;have ex':=h1 vs ha;have ey':=h2 ws hb;rw[ex]at ex';rw[ey]at ey';cases ex';cases ey';subst ev;subst eH;exact Iy rpk (bL hp _) aO
 stop:=fun H Γ rp=>by have rp0:Rp K H ((t,some (.ref a))::(u,some (.ref b))::Γ):=rp;obtain⟨a',vs,ea,ha,la,_⟩:=aD e1 rp0;obtain⟨b',ws,eb,hb,lb,_⟩:=aD e2 rp0.tail;cases ea;cases eb;refine⟨vs,ws,ha,hb,?_⟩;rw[a_,O_,la,lb];lia
theorem xN{x1:Nat}{tp:Pos}(hg:Gl X "zip")(hm:X.mg "zip"=none)(ha:GA X [a,b] fr)(hs:Ra [a,b] X.env=[(false,Rw a X.env),(false,Rw b X.env)]:=by rfl)(hs2:Ra [b] X.env=[(false,Rw b X.env)]:=by rfl) :
  GI X (.Tuple es x1 tp) (.Call (.Name "zip" p) [a,b] [] pos) (iZp fr):=by
 rintro ac s σ H R I ⟨env,Fr,k,rs,q,c⟩;refine GV hg hm ha hs hs2 ac s σ H R I ⟨env,Fr,_,rs,q,fun ts al vs H1 q1 l rs1=>?_⟩;rcases ts with _|⟨t,_|⟨u,_|⟨t3,ts⟩⟩⟩ <;> try exact q1.elim
 obtain⟨v,w,rfl⟩:=zz2 l rfl;obtain⟨as,ea,q2⟩:=aE q1;obtain⟨bs,eb,kt⟩:=aE q2;have rs1:Rs X.K H1 al σ ((t,some v)::(u,some w)::Fr):=rs1;have r2:Rs X.K H1 al σ ((er t,some v)::(u,some w)::Fr):=.of rs1.1 (qq rs1.head);have r3:Rs X.K H1 al σ ((er u,some w)::(er t,some v)::Fr):=.of rs1.1 (qq (r2.perm (.swap _ _ _)).head);have r4:=r3.perm (.swap _ _ _);obtain⟨e1,_⟩:=pW ea;obtain⟨e2,_⟩:=pW eb;obtain⟨a',xs,rfl,hq,l1,_⟩:=aD e1 r4.head;obtain⟨b',ys,rfl,hq2,l2,_⟩:=aD e2 r3.head;exact⟨_,a',_,b',rfl,⟨xs,hq⟩,⟨ys,hq2⟩,c _ _ _ [(er t,_),(er u,_)] _ kt r4 (GN e1 e2 (bB t) (bB u))⟩
end
open PySem PySem.Spec PyProof.Rows L2
noncomputable def frA(fr:List (Option Nat)):List Arg:=fr.map fun o=>match o with
 |some j=>.bor j
 |none=>.val .any
noncomputable def κc(fr:List (Option Nat))(j:Nat):Bool:=match fr[j]? with
 |some (some _)=>true
 | _=>false
theorem iz:∀(fr:List (Option Nat)) (σ:L2.St),mn (frA fr) (cx fr σ) σ
 | [],σ=>trivial
 |none::r,σ=>iz r σ
 |some j::r,σ=>by
  refine⟨?_,iz r σ⟩;by_cases h:j<σ.length
  ·refine .inl ?_;show σ[j]?=some ((σ[j]?).join);rw[d_ h]
   rfl
  exact .inr (by lia)
theorem lA:∀(fr:List (Option Nat)) (τ τ':List (Option V)) (σ:L2.St),τ'.length=τ.length->(∀j,κc fr j=true->τ'[j]?=τ[j]?)->mn (frA fr) τ σ->mn (frA fr) τ' σ
 | [],[],τ',σ,l,_,_=>by
  have:τ'=[]:=by cases τ' with|nil=>rfl|cons _ _=>cases l
  subst this
  trivial
 | [],_::_,_,_,_,_,o=>o.elim
 |none::r,[],_,_,_,_,o=>o.elim
 |some j::r,[],_,_,_,_,o=>o.elim
 |none::r,x::τ,[],σ,l,_,_=>by cases l
 |some j::r,x::τ,[],σ,l,_,_=>by cases l
 |none::r,x::τ,y::τ',σ,l,k,o=>lA r τ τ' σ (by simpa using l) (fun j hj=>by simpa using k (j+1) hj) o
 |some i::r,x::τ,y::τ',σ,l,k,o=>by
  have e:y=x:=by have:=k 0 rfl;simpa using this
  subst e;exact⟨o.1,lA r τ τ' σ (by simpa using l) (fun j hj=>by simpa using k (j+1) hj) o.2⟩
def Gm(fr:List (Option Nat))(its:List T)(g:PG')(ft:PB)(fe:PF)(al:Ev)(k:T->Ev->Prop):Prop:=its.length<sizeLine/\∃W:Nat->List T->Ev->Prop,W 0 [] (lend (frA fr) al).1/\
 (∀i t acc ie,W i acc ie->its[i]?=some t->g t ie fun ie2=>ft ie2 fun b ie3=>cnd b (fe ie3 fun u ie4=>W (i+1) (acc++[u]) ie4) (W (i+1) acc ie3))/\
 ∀acc ie,W its.length acc ie->k (.lst true acc) (back (frA fr) ie (lend (frA fr) al).2)
def zH(fr:List (Option Nat))(fi:PIt)(g:PG')(ft:PB)(fe:PF):PF:=fun env k=>fi env fun its al=>Gm fr its g ft fe al k
theorem uu:∀fr:List (Option Nat),(frA fr).map qg=fr.map fun _=>T.any
 | []=>rfl
 |none::r=>by show T.any::(frA r).map qg=T.any::r.map fun _=>T.any;rw[uu r]
 |some j::r=>by show T.any::(frA r).map qg=T.any::r.map fun _=>T.any;rw[uu r]
theorem zj{K:QT}{H:Hp}{Γ:Fm}:∀(fr:List (Option Nat)) (xs:List (Option V)),Rp K H Γ->Rp K H ((fr.map fun _=>T.any).zip xs++Γ)
 | [],xs,h=>h
 | _::r,[],h=>h
 | _::r,x::xs,h=>iR (zj r xs h)
theorem DQ(fr:List (Option Nat)):(frA fr).length=fr.length:=by unfold frA;rw[a_]
theorem xS(fr:List (Option Nat))(σ:L2.St):(cx fr σ).length=fr.length:=by unfold cx;rw[a_]
variable {fe:PF}{fi:PIt}{fr:List (Option Nat)}{ft:PB}
theorem BN{g:PG'}:∀ σ H Q,wE K (zH fr fi g ft fe) σ H Q->zJ (wI K fi) fr (fun _ _ _=>wG K (κc fr) g) (fun _ _ _=>wB K ft) (fun _ _ _=>wE K fe) σ H Q:=by
 rintro σ H Q ⟨env,Fr,k,rs,q,c⟩;refine⟨env,Fr,_,rs,q,?_⟩;rintro its al J Fg H1 ⟨hz,W,w0,wt,we⟩ rs1 ok;intro p hp s3 H3' fp;have l0:Rs K H1 al σ (((frA fr).map qg).zip (cx fr σ)++(Fg++Fr)):=⟨rs1.1,by refine Rp.perm ?_ (C_ _ _ _);rw[uu];exact zj fr _ rs1.2⟩
 have l1:=mW (iz fr σ) l0;obtain⟨ie0,ou,e0⟩:∃ie0 ou,lend (frA fr) al=(ie0,ou):=⟨_,_,rfl⟩;have lie:ie0.length=(cx fr σ).length:=by have:=js (frA fr) al;rw[e0,DQ]at this;rw[xS];exact this
 rw[e0]at l1 w0;have rp0:Rp K (upd H1 p (.lst [])) ((.lst true [],some (.ref p))::(ie0.zip (cx fr σ)++(Fg++(ou.zip σ++Fr)))):=by refine fu (ts:=[]) (vs:=[]) (l1.2.perm ?_) rfl hp (bL hp _) aO;show Qs (ou.zip σ++(ie0.zip (cx fr σ)++(Fg++Fr))) (ie0.zip (cx fr σ)++(Fg++(ou.zip σ++Fr)));exact(C_ _ _ _).trans ((C_ _ _ _).append_left _)
 refine⟨fun i m σ' H'=>∃acc ie,W i acc ie/\Rs K H' ie σ' ((.lst true acc,some (.ref p))::(Fg++(ou.zip σ++Fr)))/\Kept (κc fr) (cx fr σ) σ'/\m+i=its.length/\acc.length<=i,⟨its.length,[],ie0,w0,.of lie rp0,.refl,rfl,b_ _⟩,?_⟩;rintro i m σ1 H2 ⟨acc,ie,w2,rs2,k2,hm,ha⟩;have rp2:Rp K H2 (Fg++((.lst true acc,some (.ref p))::(ie.zip σ1++(ou.zip σ++Fr)))):=by refine rs2.head.perm ?_;refine D' ?_ i_.symm;exact .cons _ (C_ _ _ _)
 by_cases hlt:i<its.length
 ·have ei:its[i]?=some its[i]:=d_ hlt;obtain⟨hgo,hy⟩:=ok.turn i its[i] H2 _ ei rp2;refine .inr ⟨hgo,fun x H' hx=>?_⟩;have rp3:=hy x H' hx;have rs3:Rs K H' ie σ1 ((its[i],some x)::((.lst true acc,some (.ref p))::(Fg++(ou.zip σ++Fr)))):=.of rs2.1 (rp3.perm (.cons _ (by refine i_.trans ?_;refine D' ?_ i_.symm;exact .cons _ (C_ _ _ _))))
  refine⟨its[i],ie,_,_,rs3,wt i its[i] acc ie w2 ei,fun ie3 σ3 H3 q3 rs4 k4=>?_⟩;refine⟨ie3,_,_,rs4,q3,fun b ie4 H4 q4 rs5=>ff ⟨fun hb=>?_,fun hb=>?_⟩⟩
  ·refine⟨ie4,_,_,rs5,q4.1 hb,fun u ie5 v H5 q5 rs6=>?_⟩;have r7:=rs6.perm (.swap _ _ _);obtain⟨a',ys,ea,hys,ly,r8⟩:=dM r7.head;cases ea;refine⟨ys,hys,by rw[<-ly];exact MR ha (Om hlt hz),m-1,by lia,acc++[u],ie5,q5,.of r7.1 ?_,k2.trans k4,by lia,by rw[e_];simp;omega⟩;refine eF (ts:=acc++[u]) (vs:=ys++[v]) (r8.perm (.cons _ ?_)) (by rw[e_,e_,ly];rfl) Put.up;rw[lZ ly,l_];refine Mk _ ?_;exact i_
  exact⟨m-1,by lia,acc,ie4,q4.2 hb,rs5,k2.trans k4,by lia,by lia⟩
 have:i=its.length:=by lia
 subst this;refine .inl ⟨ok.stop H2 _ rp2,c _ _ _ _ (we acc ie w2) ?_⟩;rw[e0];have ao:mn (frA fr) σ1 σ:=lA fr (cx fr σ) σ1 σ k2.1 k2.2 (iz fr σ);refine n9 ao (env:=ou) ⟨l1.1,?_⟩;refine rp2.part.perm ?_;refine D' ?_ (C_ _ _ _);refine D' i_.symm ?_;exact Mk _ i_.symm
def GTs(X:Cx)(ifs:List Q9)(f:PB):Prop:=PTs X ifs (wB X.K f)
noncomputable def vt:PB:=fun env k=>k true env
theorem bo{X:Cx}:GTs X [] vt:=by rintro ac s σ H Q I ⟨env,Fr,k,rs,q,c⟩;exact DP ac s σ H Q I (c _ _ _ q rs)
theorem zB{f:PB}(h:GT X c f):GTs X [c] f:=DR h
theorem bu{X:Cx}{N ps:List Str}{esc:R6}(S:FnScope N ps esc)(N':List Str)(fr:List (Option Nat))(nd:N'.Nodup){elt target iter:Q9}{ifs:List Q9}{sc:R6}{pos:Pos}{fi:PIt}{g:PG'}{ft:PB}{fe:PF}(C:kN N esc sc N' fr=true)
  (hi:GI X target iter fi) (hg:∀s3 H3 fp,GG (κc fr) (b7 X N' sc s3 H3 fp) target g) (ht:∀s3 H3 fp,GTs (b7 X N' sc s3 H3 fp) ifs ft) (he:∀s3 H3 fp,GE (b7 X N' sc s3 H3 fp) elt fe)
  (hc:X.calm=true:=by rfl) (hN:X.N=N:=by rfl) (hS:X.env.scope=esc:=by rfl) (hs:∀x,R1 iter X.env x=pure x:=by intro _;rfl):GE X (.ListComp elt [⟨target,iter,ifs,0⟩] sc pos) (zH fr fi g ft fe):=
 PE.imp (Ca S N' fr nd C hi hg ht he hc hN hS hs) BN
abbrev PM:=T->List T->(T->T->Prop)->Prop
def MtP(X:Cx)(id:String)(m:PM):Prop:=MtM X id (fun x xs H Q=>∃t ts Γ k,ts.length=xs.length/\Rp X.K H ((t,some x)::(zz ts xs++Γ))/\m t ts k/\∀t' r v H',k t' r->Rp X.K H' ((r,some v)::(t',some x)::Γ)->Q v H')
noncomputable def isL:T->Bool
 | .lst _ _=>true
 | _=>false
def zI(i:Nat)(m:PM)(fr:PFs):PF:=fun env k=>got (env[i]?) fun t0=>isL t0=true/\fr env fun ts al=>got (al[i]?) fun t=>m t ts fun t' r=>k r (al.set i t')
def Bu(m:PM)(fe:PF)(fr:PFs):PF:=fun env k=>fe env fun t al=>isL t=true/\fr al fun ts env2=>m t ts fun _ r=>k r env2
variable {xp:Pos}
section
variable{X:Cx}{e o:Q9}{es:List Q9}{fr:PFs}{fe:PF}{m:PM}{name:Str}{id:String}{apos cpos pos:Pos}
theorem yy(h:isL t=true)(rp:Rp X.K H ((t,some v)::Γ)):tyV X.K "list" v H:=by
 cases t <;> first|cases h|skip
 obtain⟨a,vs,rfl,hq,l,_⟩:=mJ rp;exact .inl ⟨rfl,vs,.inl hq⟩
theorem DT(h:isL t=true):isAny t=false:=by cases t <;> first|rfl|cases h
theorem G4:∀ σ H Q,wE X.K (zI i m fr) σ H Q->tBM X.K "list" (fun x xs H Q=>∃t ts Γ k,ts.length=xs.length/\Rp X.K H ((t,some x)::(zz ts xs++Γ))/\m t ts k/\∀t' r v H',k t' r->Rp X.K H' ((r,some v)::(t',some x)::Γ)->Q v H') (IA i) (wA X.K fr) σ H Q:=by
 rintro σ H Q ⟨env,Fr,k,rs,q,c⟩;obtain⟨t0,e0,hl,q⟩:=aE q;obtain⟨y,ey,rs2⟩:=rs.slot e0;obtain⟨v,rfl⟩:=eM rs2 (DT hl);refine⟨v,ey,yy hl rs2.head,env,Fr,_,rs,q,fun ts al vs H1 q1 l rs1=>?_⟩;obtain⟨t,et,q1⟩:=aE q1;obtain⟨y',ey',rs3⟩:=rs1.slot et;rw[ey]at ey';cases ey';have hi:i<al.length:=(c_.mp et).1;refine⟨t,ts,(al.set i .any).zip σ++Fr,_,l,?_,q1,fun t' r w H' kt rp=>c _ _ _ _ kt ?_⟩
 ·refine rs3.head.perm (.cons _ ?_);exact C_ _ _ _
 have r4:Rs X.K H' (al.set i .any) σ ((t',some v)::(r,some w)::Fr):=.of rs3.1 (rp.perm (by refine D' (.swap _ _ _) ?_;exact .cons _ i_.symm))
 have r5:=Rs.nD (i:=i) r4 (by rw[LX];exact hi) ey;rw[OY]at r5;exact r5
theorem bO(i:Nat){x:Str}(slot:Xe "list" name id)(hty:WU (.builtin id)=pure (.type "method_descriptor"))(hm:MtP X id m)(ha:GA X (e::es) fr)(hN:X.N[i]?=some x:=by rfl)(hv:Vis X.env.scope x:=by first|exact f_ rfl|exact v_ (f_ rfl)|exact v_ (v_ rfl))(hd:(x ==("__debug__":Str))=false:=by decide)(hcd:(x ==("__classdict__":Str))=false:=by decide)
  (hbase:TC (.Name x xp) name X.env (Rw (.Name x xp) X.env)=Rw (.Name x xp) X.env:=by rfl)
  (hfew:((Tv cpos (Ra (e::es) X.env)).all (fun x=>!x.1)&&(backToKw cpos (Yh [] X.env)).all (fun x=>x.1.isSome)&&decide ((e::es).length+([]:List Xf).length+(if([]:List Xf).isEmpty then 0 else 1)<30))=true:=by rfl)
  (hline:(apos.endLine == cpos.line)=true:=by rfl) (hs:Ra (e::es) X.env=(false,Rw e X.env)::Ra es X.env:=by rfl) (hplain:(Tv cpos (Ra es X.env)).any (·.1)=false:=by rfl) :
  GE X (.Call (.Attribute (.Name x xp) name apos) (e::es) [] cpos) (zI i m fr):=PE.imp (JB Ua slot hty hm (jt hN hv hd hcd) ha hbase hfew hline hs hplain) G4
theorem Cm(i:Nat){x:Str}(slot:Xe "list" name id)(hty:WU (.builtin id)=pure (.type "method_descriptor"))(hm:MtP X id m)(hN:X.N[i]?=some x:=by rfl)(hv:Vis X.env.scope x:=by first|exact f_ rfl|exact v_ (f_ rfl)|exact v_ (v_ rfl))(hd:(x ==("__debug__":Str))=false:=by decide)(hcd:(x ==("__classdict__":Str))=false:=by decide)
  (hbase:TC (.Name x xp) name X.env (Rw (.Name x xp) X.env)=Rw (.Name x xp) X.env:=by rfl) (hline:(apos.endLine == cpos.line)=true:=by rfl) :
  GE X (.Call (.Attribute (.Name x xp) name apos) [] [] cpos) (zI i m FC):=by
 refine PE.imp (Bj Ua slot hty hm (jt hN hv hd hcd) hbase hline) fun σ H Q h=>?_;obtain⟨v,ev,ty,env,Fr,k,rs,q,c⟩:=G4 σ H Q h;exact⟨v,ev,ty,c [] env [] H q rfl rs⟩
noncomputable def uN:PM
 | .lst true ts,[t],k=>ts.length<sizeLine/\k (.lst true (ts++[t])) .non
 | _,_,_=>False
noncomputable def tK:PM
 | .lst true ts,[.lst true us],k=>ts.length+us.length<=sizeLine/\k (.lst true (ts++us)) .non
 | _,_,_=>False
def HL:PM
 | .lst true ts,[],k=>got (ts[ts.length-1]?) fun t=>k (.lst true ts.dropLast) t
 | _,_,_=>False
theorem bq:MtP X "list.append" uN:=by
 rintro ac s σ H x xs v us Q I rx r ⟨t,ts,Γ,k,l,rp,g,c⟩;unfold uN at g;split at g
 ·rename_i k ts t;obtain⟨y,rfl⟩:=zz1 l rfl;obtain⟨a,vs,ea,ha,la,rp2⟩:=dM rp;cases ea;refine wM ac s σ H _ _ v us Q I rx r ⟨a,vs,y,rfl,rfl,ha,by rw[<-la];exact g.1,fun H' hp=>c _ _ _ _ g.2 (bQ ?_ fun _=>.non)⟩;refine eF (ts:=ts++[t]) (vs:=vs++[y]) ?_ (by rw[e_,e_,la];rfl) hp;rw[lZ la,l_];exact rp2
 exact Rb g
theorem kj:MtP X "list.extend" tK:=by
 rintro ac s σ H x xs v us Q I rx r ⟨t,ts,Γ,k,l,rp,g,c⟩;unfold tK at g;split at g
 ·rename_i k ts us';obtain⟨y,rfl⟩:=zz1 l rfl;obtain⟨a,vs,ea,ha,la,rp2⟩:=dM rp;cases ea;have rp3:Rp X.K H ((.lst true us',some y)::(.bare,some (.ref a))::(zz ts vs++Γ)):=rp2.perm (by refine D' (.cons _ i_) ?_;exact .swap _ _ _)
  obtain⟨b,ws,eb,hb,lb,rp4⟩:=dM rp3;cases eb;have rp5:Rp X.K H ((.bare,some (.ref a))::(zz (ts++us') (vs++ws)++Γ)):=by rw[lZ la,l_];refine rp4.tail.perm ?_;refine i_.trans (.cons _ ?_);exact C_ _ _ _
  exact yb ac s σ H _ _ v us Q I rx r ⟨a,b,vs,ws,rfl,rfl,ha,hb,by rw[<-la,<-lb];exact g.1,fun H' hp=>c _ _ _ _ g.2 (bQ (eF rp5 (by rw[e_,e_,la,lb]) hp) fun _=>.non)⟩
 exact Rb g
theorem Fu:∀{ts:List T}{vs:List V}{t:T}{w:V},ts.length=vs.length->ts[ts.length-1]?=some t->vs[vs.length-1]?=some w->(zz ts vs).Perm ((t,some w)::zz ts.dropLast vs.dropLast):=by
 intro ts vs t w l e f;have hts:ts=ts.dropLast++[t]:=by rw[<-ON]at e;obtain⟨ys,rfl⟩:=OO.mp e;rw[Ou]
 have hvs:vs=vs.dropLast++[w]:=by rw[<-ON]at f;obtain⟨ys,rfl⟩:=OO.mp f;rw[Ou]
 have:zz ts vs=zz (ts.dropLast++[t]) (vs.dropLast++[w]):=by rw[<-hts,<-hvs]
 rw[this,lZ (by rw[Na,Na,l])];exact MB
theorem EK:MtP X "list.pop" HL:=by
 rintro ac s σ H x xs v us Q I rx r ⟨t,ts,Γ,k,l,rp,g,c⟩;unfold HL at g;split at g
 ·rename_i k ts;have:xs=[]:=by cases xs with|nil=>rfl|cons _ _=>cases l
  subst this;obtain⟨t,et,kt⟩:=aE g;obtain⟨a,vs,ea,ha,la,rp2⟩:=dM rp;cases ea;obtain⟨w,ew⟩:=qy la et;rw[la]at ew;refine HC ac s σ H _ _ v us Q I rx r ⟨a,vs,w,rfl,rfl,ha,ew,c _ _ _ _ kt ?_⟩;have rp3:Rp X.K H ((.bare,some (.ref a))::(zz ts.dropLast vs.dropLast++((t,some w)::Γ))):=rp2.perm (.cons _ (((Fu la et ew).append_right Γ).trans i_.symm));exact(eF rp3 (by rw[Na,Na,la]) Put.up).perm (.swap _ _ _)
 exact Rb g
end
noncomputable def outs(ms:List Bool)(env:Ev):List T:=ms.zipWith (fun b t=>if b then t else .any) env
noncomputable def κm(ms:List Bool)(j:Nat):Bool:=match ms[j]? with
 |some b=>b
 |none=>false
theorem mC{K:QT}{H:Hp}{Γ:Fm}:∀{ms:List Bool}{env:Ev}{σ:L2.St}{vs:List V},ms.length=vs.length->(∀j,κm ms j=true->σ[j]?=(vs[j]?).map some)->Rp K H (env.zip σ++Γ)->Rp K H (zz (outs ms env) vs++Γ)
 | [],env,σ,vs,l,k,h=>h.part
 | _::_,_,_,[],l,_,_=>by cases l
 |m::ms,[],σ,v::vs,l,k,h=>h
 |m::ms,t::env,[],v::vs,l,k,h=>by
  have ih:=mC (ms:=ms) (env:=env) (σ:=[]) (vs:=vs) (by simpa using l) (fun j hj=>by have:=k (j+1) hj;simpa using this) (by simpa using h)
  cases m with
  |true=>have:=k 0 rfl;simp at this
  |false=>exact iR ih
 |m::ms,t::env,x::σ,v::vs,l,k,h=>by
  have h:Rp K H ((t,x)::(env.zip σ++Γ)):=h;have ks:∀j,κm ms j=true->σ[j]?=(vs[j]?).map some:=fun j hj=>by have:=k (j+1) hj;simpa using this
  cases m with
  |true=>
   have e:x=some v:=by have:=k 0 rfl;simpa using this
   subst e;have h2:Rp K H (env.zip σ++((t,some v)::Γ)):=h.perm i_.symm;exact(mC (ms:=ms) (by simpa using l) ks h2).perm i_
  |false=>exact iR (mC (ms:=ms) (by simpa using l) ks h.tail)
theorem Dt(l:ts.length=vs.length)(n:Nat)(h:Rp K H (zz ts vs++Γ)):Rp K H ((ts++M0 n T.any).zip (vs.map some++M0 n none)++Γ):=by
 rw[Qm (by rw[a_];exact l),l_];have:∀n,Rp K H (zz ts vs++((M0 n T.any).zip (M0 n (none:Option V))++Γ)):=by
  intro n;induction n with
  |zero=>exact h
  |succ n ih=>
   rw[PJ,PJ];exact(iR (x:=none) ih).perm i_.symm
 exact this n
variable {N:List Str}
theorem bN{P:Q5}{mg:Str->Option QR}{base:Q_}{x qual:Str}{f:QS}{fd:Rj}{k:Nat}{Pr:FP}(F:Fun K x qual st f fd)(S:FnScope N ps (av st))(ms:List Bool)(hms:ms.length=ps.length)
  (body:∀(cdv:QR) (A:Rh) (outer:List Env) (s:QV) (H:Hp) (E:XK),Room k (A.deeper (UC qual (av st) s.heap.objs.size f cdv))->
   ∃fb,GSs (κm ms) (xY CX0 P w K mg base N qual (av st) f cdv A outer s H E).nox (dw st) fb/\∀ts kk,ts.length=ps.length->Pr ts kk->fb { nx:=fun env=>kk .non (outs ms env),rt:=fun t env=>kk t (outs ms env) } (ts++M0 (N.length-ps.length) .any)) :
  FnOk P w K mg base CX0 (k+1) f fd ps (aL K ps.length Pr):=by
 refine F.ok S (by rintro vs H Q E ⟨ts,Fr,kk,h1,h2,_⟩;exact h2) ?_;rintro cdv A outer s H vs Q E hr ⟨ts,Fr,kk,h1,h2,rp,pr,c⟩;obtain⟨fb,hb,q⟩:=body cdv A outer s H E hr;refine⟨_,hb,ts++M0 (N.length-ps.length) .any,Fr,_,?_,q ts kk (by rw[h1,h2]) pr,?_⟩
 ·unfold L2.start;rw[h2];refine⟨by simp[h1],Dt h1 _ rp⟩
 have kv:∀{σ'},Kept (κm ms) (L2.start N vs) σ'->∀j,κm ms j=true->σ'[j]?=(vs[j]?).map some:=fun{σ'} kp j hj=>by
  rw[kp.2 j hj];unfold L2.start;have hj2:j<vs.length:=by
   rw[h2,<-hms];unfold κm at hj;split at hj
   ·rename_i b e;exact(c_.mp e).1
   cases hj
  rw[MT (by rw[a_];exact hj2),B_]
 refine⟨fun env' σ' H' q' rs' k'=>c _ _ _ _ q' ?_,fun t env' v σ' H' q' rs' k'=>c _ _ _ _ q' ?_,fun _ _ _ z=>z.elim,fun _ _ _ z=>z.elim⟩
 ·exact bQ (mC (by rw[hms,h2]) (kv k') rs'.2) fun _=>.non
 exact(mC (Γ:=(t,some v)::Fr) (by rw[hms,h2]) (kv k') rs'.2).perm i_
open PySem PySem.Spec PyProof.Rows L2
section
variable{X:Cx}{pos:Pos}
theorem Cf{te:TE}(h:PS X st (DY te (yz i))):PS X st (fun D σ H=>te σ H fun v H'=>Gr H H'/\D.nx (σ.set i (some v)) (over H H')):=by
 intro ac s σ H D I q;have key:=h ac s σ H { nx:=fun σ' H'=>Gr H H'/\D.nx σ' (over H H'),rt:=fun _ _=>False} I q;refine thn key fun f s' hs=>?_;cases f with
 |next=>
  obtain⟨σ',H',I',g,q'⟩:=hs;exact⟨σ',over H H',pA I I' g,q'⟩
 |brk=>obtain⟨_,_,_,z⟩:=hs;exact z.elim
 |cont=>obtain⟨_,_,_,z⟩:=hs;exact z.elim
 |ret u=>obtain⟨_,_,_,_,_,z⟩:=hs;exact z.elim
theorem Fv{f:PF}{σ:L2.St}{Q:VK}(h:wE K (fQ f) σ H Q):wE K f σ H fun v H'=>Gr H H'/\Q v (over H H'):=by
 obtain⟨env,Fr,k,rs,q,c⟩:=h;have rv:Rs K H (erL env) σ ((Fr.map fun p=>(er p.1,p.2))++[(.kp H,some .non)]):=by refine⟨by rw[uI];exact rs.1,?_⟩;have:=tB rs.2;rw[q_,oV,l_]at this;exact this
 refine⟨erL env,_,_,rv,q,?_⟩;rintro t env' v H' ⟨n,kt⟩ rs';obtain⟨g,r2⟩:=uC rs.2 (Δ:=env'.zip σ++(Fr.map fun p=>(er p.1,p.2))) (by rw[l_];exact rs'.head) n;exact⟨g,c t env v _ kt (.of rs.1 r2)⟩
theorem qa{esc:R6}(S:FnScope N ps esc){x:Str}{pos pos':Pos}(N':List Str)(fr:List (Option Nat))(nd:N'.Nodup){elt target iter:Q9}{ifs:List Q9}{sc:R6}{pos2:Pos}{g:PG'}(C:kN N esc sc N' fr=true)
  (hi:X.N[i]?=some x) (hx:Loc X.env.scope x) (hκ:κ i=false) (hit:GI X target iter fi) (hg:∀s3 H3 fp,GG (κc fr) (b7 X N' sc s3 H3 fp) target g) (ht:∀s3 H3 fp,GTs (b7 X N' sc s3 H3 fp) ifs ft) (he:∀s3 H3 fp,GE (b7 X N' sc s3 H3 fp) elt fe)
  (hsw:Uv (.ListComp elt [⟨target,iter,ifs,0⟩] sc pos2) (some (.Name x pos')) pos.line X.env=pure true) (hf:X.fn x=true:=by rfl)
  (hc:X.calm=true:=by rfl) (hN:X.N=N:=by rfl) (hS:X.env.scope=esc:=by rfl) (hs:∀x,R1 iter X.env x=pure x:=by intro _;rfl):GS κ X (.Assign [.Name x pos'] (.ListComp elt [⟨target,iter,ifs,0⟩] sc pos2) pos) (HY i (fQ (zH fr fi g ft fe))):=by
 refine PS.imp (Cf (Fi S N' fr nd C hi hx hit hg ht he hsw hf hc hN hS hs)) ?_;rintro D σ H ⟨env,Fr,pe,rs,q,c⟩;exact BN σ H _ (Fv (Q:=fun v H'=>D.nx (σ.set i (some v)) H') ⟨env,Fr,_,rs,q,fun t env' v H' q1 rs1=>c.nx _ _ _ q1 rs1.put (.set hκ)⟩)
theorem jO{x:Str}{n:String}(hg:Gl X x)(hm:X.mg x=none)(hv:SR x=some (.type n))(hn:x≠"__name__":=by decide)(hd:(x ==("__debug__":Str))=false:=by decide):GE X (.Name x pos) (fK (.ty n)):=
 PE.imp (FD (v:=.ty n) hg hm hv rfl hn hd) fun σ H Q ⟨env,Fr,k,rs,q,c⟩=>c _ _ _ _ q (fm rs fun _=>.ty)
def Glb(K:QT)(mg:Str->Option QR)(x:Str)(t:T):Prop:=∃v u,mg x=some u/\RelV v u/\∀Hz H,RepT K Hz H t v []
theorem Jw{x:Str}(G:Glb X.K X.mg x t)(hg:Gl X x)(hd:(x ==("__debug__":Str))=false:=by decide):GE X (.Name x pos) (fK t):=by obtain⟨v,u,hm,r,ht⟩:=G;exact E3 hg hm r ht hd
theorem tN:GE X (.Dict [] [] pos) (fK (.dT true [])):=PE.imp BD (by rintro σ H Q ⟨env,Fr,k,rs,q,c⟩;exact fun p hp=>c _ _ _ _ q (.of rs.1 (Fb rs.2 hp (bL hp _) aO)))
noncomputable def HE:T->Option Ty
 | .non=>some .non
 | .bl _=>some .bl
 | .int _=>some .int
 | .str _=>some .str
 | .tup _=>some .tup
 | .cst _=>some .tup
 | .lst _ _=>some .lst
 | .dK _ _=>some .dct
 | _=>none
noncomputable def EZ:String->Option Ty
 | "NoneType"=>some .non
 | "bool"=>some .bl
 | "int"=>some .int
 | "str"=>some .str
 | "list"=>some .lst
 | "tuple"=>some .tup
 | "dict"=>some .dct
 | _=>none
theorem yM{n:String}{c:Ty}(h:EZ n=some c):n=c.nm:=by unfold EZ at h;split at h <;> cases h <;> rfl
def zX:List T->Option (List Ty)
 | []=>some []
 | .ty n::r=>match EZ n,zX r with
  |some c,some cs=>some (c::cs)
  | _,_=>none
 | _::_=>none
def jv:P1s
 | [x,.ty n],k=>got (HE x) fun t=>got (EZ n) fun c=>k (.bl (isA t c))
 | [x,.tup ts],k=>got (HE x) fun t=>got (zX ts) fun cs=>k (.bl (cs.any (isA t)))
 | _,_=>False
theorem Gf{n:String}(h:Rp K H ((.ty n,some y)::Γ)):y=.ty n:=by obtain⟨_,_,r,_⟩:=iu h rfl;cases r;rfl
theorem D4{K:QT}{H:Hp}{Γ:Fm}:∀{ts:List T}{cs:List Ty}{vs:List V},zX ts=some cs->ts.length=vs.length->Rp K H (zz ts vs++Γ)->vs=cs.map fun c=>V.ty c.nm
 | [],cs,[],e,_,_=>by cases e;rfl
 | [],_,_::_,_,l,_=>by cases l
 | _::_,_,[],_,l,_=>by cases l
 |t::ts,cs,v::vs,e,l,h=>by
  cases t <;> first|cases e|skip
  rename_i n;rw[zX]at e;split at e
  ·rename_i c r e1 e2;cases e;have h:Rp K H ((.ty n,some v)::(zz ts vs++Γ)):=h;rw[Gf h,yM e1,D4 e2 (by simpa using l) h.tail]
   rfl
  cases e
theorem Bq{c:Ty}(e:HE t=some c)(h:Rp K H ((t,some y)::Γ)):TyG K H y c:=by
 cases t with
 |non=>cases e;rw[tS h];exact .non
 |bl b=>cases e;rw[jP h];exact .bl b
 |int i=>cases e;rw[aJ h];exact .int i
 |str x=>cases e;rw[hX h];exact .str x
 |tup ts=>cases e;obtain⟨a,vs,rfl,hq,_⟩:=aD rfl h;exact .tup hq
 |cst ts=>cases e;obtain⟨a,vs,rfl,hq,_⟩:=aD rfl h;exact .tup hq
 |lst o ts=>cases e;obtain⟨a,vs,rfl,hq,_⟩:=aD rfl h;exact .lst hq
 |dK o kvs=>
  cases o with
  |true=>cases e;obtain⟨a,vs,ea,hq,_⟩:=qc h;cases ea;exact .dct (.inl hq)
  |false=>
   cases e;obtain⟨Hz,L,r,g⟩:=iu h rfl;cases r;rename_i a vs hq _;exact .dct (g _ _ hq)
 | _=>cases e
theorem bH:fw X (.builtin "isinstance") jv:=by
 rintro ac s σ H xs us Q I r ⟨ts,Γ,k,l,rp,g,c⟩;unfold jv at g;split at g
 ·rename_i k x n;obtain⟨y,z,rfl⟩:=zz2 l rfl;have rp:Rp X.K H ((x,some y)::(.ty n,some z)::Γ):=rp;obtain⟨t,et,g⟩:=aE g;obtain⟨ct,ec,kt⟩:=aE g;rw[Gf rp.tail,yM ec]at r;have e1:[ct].any (isA t)=isA t ct:=by simp
  refine oC ac s σ H _ us Q I r ⟨y,_,t,[ct],rfl,Bq et rp,.inl ⟨ct,rfl,rfl⟩,?_⟩;rw[e1];exact c _ _ _ kt (bQ rp.tail.tail fun _=>.bl)
 ·rename_i k x us';obtain⟨y,z,rfl⟩:=zz2 l rfl;have rp:Rp X.K H ((x,some y)::(.tup us',some z)::Γ):=rp;obtain⟨t,et,g⟩:=aE g;obtain⟨cs,ec,kt⟩:=aE g;obtain⟨a,vs,rfl,ha,la,rp2⟩:=oZ rp.tail;have hv:=D4 ec la rp2;subst hv;exact oC ac s σ H _ us Q I r ⟨y,_,t,cs,rfl,Bq et rp,.inr ⟨a,rfl,ha⟩,c _ _ _ kt (bQ rp.tail.tail fun _=>.bl)⟩
 exact Rb g
end
section
variable{κ':Type}[DecidableEq κ']
theorem uX:∀{ts:List (κ'×T)}{vs:List (κ'×V)} (q:κ') (t:T) (w:V),ts.map (·.1)=vs.map (·.1)->(iC ts q t).map (·.1)=(putK vs q w).map (·.1):=by
 intro ts vs q t w e;have ha:(ts.any fun kv=>decide (kv.1=q))=(vs.any fun kv=>decide (kv.1=q)):=by
  have e1:(ts.any fun kv=>decide (kv.1=q))=(ts.map (·.1)).any fun k=>decide (k=q):=by rw[OZ];rfl
  have e2:(vs.any fun kv=>decide (kv.1=q))=(vs.map (·.1)).any fun k=>decide (k=q):=by rw[OZ];rfl
  rw[e1,e2,e]
 unfold iC putK;rw[ha];split
 ·rw[z_,z_];have f1:((fun x:κ'×T=>x.1) ∘ fun kv=>if kv.1=q then(kv.1,t)else kv)=fun x=>x.1:=by funext kv;show(if kv.1=q then(kv.1,t)else kv).1=kv.1;split <;> rfl
  have f2:((fun x:κ'×V=>x.1) ∘ fun kv=>if kv.1=q then(kv.1,w)else kv)=fun x=>x.1:=by funext kv;show(if kv.1=q then(kv.1,w)else kv).1=kv.1;split <;> rfl
  rw[f1,f2,e]
 rw[q_,q_,e]
 rfl
theorem sT:∀{ts:List (κ'×T)}{vs:List (κ'×V)} (q:κ') (t:T) (w:V),ts.map (·.1)=vs.map (·.1)->(vs.map (·.1)).Nodup->∃r,((t,some w)::zz (ts.map (·.2)) (vs.map (·.2))).Perm (r++zz ((iC ts q t).map (·.2)) ((putK vs q w).map (·.2))):=by
 intro ts vs q t w e nd;by_cases hm:q∈vs.map (·.1)
 ·
  have ha:(vs.any fun kv=>decide (kv.1=q))=true:=by obtain⟨kv,h1,h2⟩:=t_.mp hm;exact Nj.mpr ⟨kv,h1,decide_eq_true h2⟩
  have hb:(ts.any fun kv=>decide (kv.1=q))=true:=by rw[<-e]at hm;obtain⟨kv,h1,h2⟩:=t_.mp hm;exact Nj.mpr ⟨kv,h1,decide_eq_true h2⟩
  unfold iC putK;rw[if_pos ha,if_pos hb];clear ha hb;induction ts generalizing vs with
  |nil=>
   have:vs=[]:=by cases vs with|nil=>rfl|cons _ _=>cases e
   subst this;cases hm
  |cons a ts ih=>
   cases vs with
   |nil=>cases e
   |cons b vs=>
    obtain⟨k1,t1⟩:=a;obtain⟨k2,v1⟩:=b;rw[k_,k_,MK]at e;have ek:k1=k2:=e.1;subst ek;rw[k_,F_]at nd;by_cases hk:k1=q
    ·subst hk;have n1:∀kv∈ts,kv.1≠k1:=fun kv hkv z=>nd.1 (by rw[<-e.2];exact t_.mpr ⟨kv,hkv,z⟩)
     have n2:∀kv∈vs,kv.1≠k1:=fun kv hkv z=>nd.1 (t_.mpr ⟨kv,hkv,z⟩);have m1:ts.map (fun kv=>if kv.1=k1 then(kv.1,t)else kv)=ts:=by
      conv=>rhs;rw[<-OC ts]
      exact ML fun kv hkv=>if_neg (n1 kv hkv)
     have m2:vs.map (fun kv=>if kv.1=k1 then(kv.1,w)else kv)=vs:=by
      conv=>rhs;rw[<-OC vs]
      exact ML fun kv hkv=>if_neg (n2 kv hkv)
     refine⟨[(t1,some v1)],?_⟩;simp only[k_,if_true,m1,m2];exact .swap _ _ _
    have hm':q∈vs.map (·.1):=by
     rcases p_.mp hm with z|z
     ·exact absurd z.symm hk
     exact z
    obtain⟨r,p⟩:=ih e.2 nd.2 hm';refine⟨r,?_⟩;simp only[k_,if_neg hk];show Qs ((t,some w)::(t1,some v1)::zz (ts.map (·.2)) (vs.map (·.2))) (r++((t1,some v1)::zz ((ts.map fun kv=>if kv.1=q then(kv.1,t)else kv).map (·.2)) ((vs.map fun kv=>if kv.1=q then(kv.1,w)else kv).map (·.2))));exact(M3 _ _ _).trans ((p.cons _).trans i_.symm)
 have ha:(vs.any fun kv=>decide (kv.1=q))=false:=by rw[OK];intro z;obtain⟨kv,h1,h2⟩:=Nj.mp z;exact hm (t_.mpr ⟨kv,h1,of_decide_eq_true h2⟩)
 have hb:(ts.any fun kv=>decide (kv.1=q))=false:=by rw[OK];intro z;obtain⟨kv,h1,h2⟩:=Nj.mp z;exact hm (by rw[<-e];exact t_.mpr ⟨kv,h1,of_decide_eq_true h2⟩)
 unfold iC putK;rw[ha,hb];refine⟨[],?_⟩;simp only[G',if_false,Ot];rw[q_,q_,lZ (by rw[a_,a_];exact bX e)];exact(MB (l₁:=[(t,some w)]))
end
def uW:T->T->T->(T->Prop)->Prop
 | .lst true ts,.int i,v,k=>got (ixN ts.length i) fun j=>k (.lst true (ts.set j v))
 | .dK true kvs,y,v,k=>got (xu y) fun q=>kvs.length<sizeLine/\k (.dK true (iC kvs q v))
 | .dT true kvs,.tup ks,v,k=>got (mY ks) fun q=>kvs.length<sizeLine/\k (.dT true (iC kvs q v))
 | _,_,_,_=>False
section
variable{X:Cx}{κ:Nat->Bool}{pos:Pos}
theorem Cs{P:Q5}{h:Q_}{kvs:List (List Key×V)}(ok:HOk P w H h)(e:H a=some (.dT kvs)):(kvs.map (·.1)).Nodup:=by
 obtain⟨z,y,xs,r,o,es,ep,h1,h2,h3,h4,h5⟩:=ok a _ e;have:kvs.map (·.1)=xs.map (·.1):=by
  clear h4 h5 h1 z e;induction r with
  |nil=>rfl
  |cons q _ ih=>rw[k_,k_,ih,q.1]
 rw[this];exact h5
theorem Ck{P:Q5}{h:Q_}{kvs:List (Key×V)}(ok:HOk P w H h)(e:H a=some (.dK kvs)):(kvs.map (·.1)).Nodup:=by
 obtain⟨z,y,vs,r,o,es,ep,h1,h2,h3,h4,h5,h6⟩:=ok a _ e;have:kvs.map (·.1)=vs.map (·.1):=by
  clear h6 h5 h4 h1 z e;induction r with
  |nil=>rfl
  |cons q _ ih=>rw[k_,k_,ih,q.1]
 rw[this];exact h6
theorem BZ:∀{ts:List T}{vs:List V}{j:Nat}{t:T}{w:V},ts.length=vs.length->j<ts.length->∃r,((t,some w)::zz ts vs).Perm (r::zz (ts.set j t) (vs.set j w))
 | [],vs,j,t,w,l,h=>by cases h
 |a::ts,[],j,t,w,l,h=>by cases l
 |a::ts,b::vs,0,t,w,l,h=>⟨(a,some b),.swap _ _ _⟩
 |a::ts,b::vs,j+1,t,w,l,h=>by obtain⟨r,p⟩:=BZ (ts:=ts) (vs:=vs) (j:=j) (t:=t) (w:=w) (by simpa using l) (by simpa using h);exact⟨r,(M3 _ _ _).trans ((p.cons _).trans (.swap _ _ _))⟩
theorem K7(hr:Room kr X.A):xn X (fun o i v H Q=>∃t ti tv Γ k,Rp X.K H ((t,some o)::(ti,some i)::(tv,some v)::Γ)/\uW t ti tv k/\∀t' H',k t'->Rp X.K H' ((t',some o)::Γ)->Q H'):=by
 rintro ac s σ H o i v ov iv u Q I ro ri rv ⟨t,ti,tv,Γ,k,rp,g,c⟩;cases t with
 |lst own ts=>
  cases own <;> cases ti <;> first|exact Rb g|skip
  rename_i j;obtain⟨m,em,kt⟩:=aE g;rw[aJ rp.tail]at ri;obtain⟨a,vs,ea,ha,la,rp2⟩:=dM rp;cases ea;have hm:m<ts.length:=by have:=(ud em).2.1;exact this
  rw[la]at em;refine Al ac s σ H _ _ v ov iv u Q I ro ri rv ⟨a,vs,j,m,rfl,rfl,ha,em,fun H' hp=>c _ _ kt ?_⟩;obtain⟨r,p⟩:=BZ (t:=tv) (w:=v) la hm;have rp3:Rp X.K H ((.bare,some (.ref a))::(zz ts vs++((tv,some v)::Γ))):=by
   have:Rp X.K H ((.int j,some i)::((.bare,some (.ref a))::(zz ts vs++((tv,some v)::Γ)))):=rp2.perm (by refine D' (.cons _ i_) ?_;exact .swap _ _ _)
   exact this.tail
  have rp4:Rp X.K H (r::((.bare,some (.ref a))::(zz (ts.set m tv) (vs.set m v)++Γ))):=rp3.perm (by refine D' (.cons _ (i_.trans (p.append_right Γ))) ?_;exact .swap _ _ _)
  exact eF rp4.tail (by rw[LX,LX,la]) hp
 |dK own kvs=>
  cases own <;> first|exact Rb g|skip
  have g:got (xu ti) fun q=>kvs.length<sizeLine/\k (.dK true (iC kvs q tv)):=by cases ti <;> exact g
  obtain⟨q,eq,hz,kt⟩:=aE g;rw[yI eq rp.tail]at ri;obtain⟨a,vs,ea,ha,la,rp2⟩:=qc rp;cases ea;cases ro;have hl:vs.length<sizeLine:=by rw[<-bX la];exact hz
  refine nV (se hr) I (.inl ⟨vs,q,ha,rfl,hl,rfl⟩) ri rv fun s' I'=>⟨_,I',c _ _ kt ?_⟩;obtain⟨r,p⟩:=sT q tv v la (Ck I.hok ha);have rp3:Rp X.K H ((.bare,some (.ref a))::(zz (kvs.map (·.2)) (vs.map (·.2))++((tv,some v)::Γ))):=by
   have:Rp X.K H ((ti,some i)::((.bare,some (.ref a))::(zz (kvs.map (·.2)) (vs.map (·.2))++((tv,some v)::Γ)))):=rp2.perm (by refine D' (.cons _ i_) ?_;exact .swap _ _ _)
   exact this.tail
  have rp4:Rp X.K H (r++((.bare,some (.ref a))::(zz ((iC kvs q tv).map (·.2)) ((putK vs q v).map (·.2))++Γ))):=rp3.perm (by refine D' (.cons _ (i_.trans (p.append_right Γ))) ?_;rw[l_];exact i_.symm)
  exact sE rp4.part (uX q tv v la) Put.up
 |dT own kvs=>
  cases own <;> cases ti <;> first|exact Rb g|skip
  rename_i ks;obtain⟨q,eq,hz,kt⟩:=aE g;obtain⟨b,rfl,hb⟩:=zl eq rp.tail;obtain⟨a,vs,ea,ha,la,rp2⟩:=BM rp;cases ea;cases ro;have hl:vs.length<sizeLine:=by rw[<-bX la];exact hz
  refine nV (se hr) I (.inr ⟨vs,q,b,ha,rfl,hb,hl,rfl⟩) ri rv fun s' I'=>⟨_,I',c _ _ kt ?_⟩;obtain⟨r,p⟩:=sT q tv v la (Cs I.hok ha);have rp3:Rp X.K H ((.bare,some (.ref a))::(zz (kvs.map (·.2)) (vs.map (·.2))++((tv,some v)::Γ))):=by
   have:Rp X.K H ((.tup ks,some (.ref b))::((.bare,some (.ref a))::(zz (kvs.map (·.2)) (vs.map (·.2))++((tv,some v)::Γ)))):=rp2.perm (by refine D' (.cons _ i_) ?_;exact .swap _ _ _)
   exact this.tail
  have rp4:Rp X.K H (r++((.bare,some (.ref a))::(zz ((iC kvs q tv).map (·.2)) ((putK vs q v).map (·.2))++Γ))):=rp3.perm (by refine D' (.cons _ (i_.trans (p.append_right Γ))) ?_;rw[l_];exact i_.symm)
  exact AZ rp4.part (uX q tv v la) Put.up
 | _=>cases ti <;> exact Rb g
def Gu(i:Nat)(fi:PF):PG':=fun v env k=>got (env[i]?) fun t0=>isAny t0=false/\fi env fun ti al=>got (al[i]?) fun t=>uW t ti v fun t'=>k (al.set i t')
theorem qN{x:Str}{ix:Q9}{fi:PF}(hr:Room kr X.A)(hi:GE X ix fi)(hN:X.N[i]?=some x:=by rfl)(hv:Vis X.env.scope x:=by first|exact f_ rfl|exact v_ (f_ rfl)|exact v_ (v_ rfl))(hd:(x ==("__debug__":Str))=false:=by decide)(hcd:(x ==("__classdict__":Str))=false:=by decide)
  (ha:∀v,Ug (.Subscript (.Name x xp) ix pos) X.env v=(do
   let ov <-TJ [v] (Rw (.Name x xp) X.env)
   let iv <-TJ [v,ov] (Rw ix X.env)
   Xb pos
   TJ [v,ov,iv] (Xa ov iv v)
   release [v,ov,iv] []):=by intro _;rfl):GG κ X (.Subscript (.Name x xp) ix pos) (Gu i fi):=by
 rintro ac s σ H v u Q I r ⟨tv,env,Fr,k,rs,q,c⟩;obtain⟨t0,e0,na,q⟩:=aE q;obtain⟨y,ey,rs2⟩:=rs.slot e0;obtain⟨w,rfl⟩:=eM rs2 na;refine DM (jt hN hv hd hcd) hi (K7 hr) ha ac s σ H v u Q I r ⟨w,ey,env,(tv,some v)::Fr,_,rs,q,fun ti al iv H1 q1 rs1=>?_⟩;obtain⟨t,et,q1⟩:=aE q1;obtain⟨y',ey',rs3⟩:=rs1.slot et;rw[ey]at ey';cases ey';have hi':i<al.length:=(c_.mp et).1;refine⟨t,ti,tv,(al.set i .any).zip σ++Fr,_,?_,q1,fun t' H' kt rp=>c _ _ _ kt ?_ .refl⟩
 ·refine rs3.head.perm (.cons _ ?_);refine D' i_ (.cons _ ?_);exact i_
 have r4:Rs X.K H' (al.set i .any) σ ((t',some w)::Fr):=.of rs3.1 rp;have r5:=Rs.nD (i:=i) r4 (by rw[LX];exact hi') ey;rw[OY]at r5;exact r5
end
open PySem PySem.Spec PyProof.Rows L2
class Th (α:Type) where
 v:α
noncomputable def Kj(P:FP)(ts:List T)[k:Th (T->List T->Prop)]:Prop:=P ts k.v
def jL(b:Bool)[A:Th Prop][B:Th Prop]:Prop:=cnd b A.v B.v
def d6(o:Option α)[k:Th (α->Prop)]:Prop:=got o k.v
def GF(fr:List (Option Nat))(its:List T)(g:PG')(ft:PB)(fe:PF)(env:Ev)[k:Th (T->Ev->Prop)]:Prop:=Gm fr its g ft fe env k.v
theorem d8{u:α}{k:Th (α->Prop)}:d6 (some u) (k:=k)=k.v u:=rfl
theorem aZ{o:Option α}{u:α}{k:Th (α->Prop)}(e:o=some u)(h:k.v u):d6 o (k:=k):=Hq e h
variable {A B:Th Prop}
theorem dC:jL true (A:=A) (B:=B)=A.v:=propext ⟨fun h=>h.1 rfl,fun h=>Gy h⟩
theorem cA:jL false (A:=A) (B:=B)=B.v:=propext ⟨fun h=>h.2 rfl,fun h=>Gk h⟩
theorem gu:jL (!b) (A:=A) (B:=B)=jL b (A:=B) (B:=A):=by cases b <;> simp only[Py,Pj,dC,cA]
theorem o9(h1:b=true->A.v)(h2:b=false->B.v):jL b (A:=A) (B:=B):=⟨h1,h2⟩
theorem aY{p:Prop}{d:Decidable p}(h1:p->A.v)(h2:¬p->B.v):jL (decide p) (A:=A) (B:=B):=⟨fun h=>h1 (of_decide_eq_true h),fun h=>h2 (of_decide_eq_false h)⟩
theorem tf(e:b=true)(h:A.v):jL b (A:=A) (B:=B):=by rw[e];exact Gy h
theorem F6(e:b=false)(h:B.v):jL b (A:=A) (B:=B):=by rw[e];exact Gk h
variable {gt:PG'}{ko:Option Int->Ev->Prop}
section
variable{f g:PF}{env:Ev}{k:T->Ev->Prop}{kb:Bool->Ev->Prop}{tc td:PB}{pe:PEn}{u v:PSt}{fs:PFs}{fa:PAs}{ks:List T->Ev->Prop}{ka:List Arg->Ev->Prop}
theorem qM:fQ f env k=f (erL env) fun t _=>cv t=true/\k t env:=rfl
theorem kA:fQT tc env kb=tc (erL env) fun b _=>kb b env:=rfl
theorem pK:fK t env k=k t env:=rfl
theorem fE:FJ i env k=d6 (env[i]?) (k:=⟨fun t=>isAny t=false/\aW t=true/\k t env⟩):=by unfold FJ;cases env[i]? <;> rfl
theorem kh:fFz i env k=d6 (env[i]?) (k:=⟨fun t=>isAny t=false/\k (er t) (env.set i (er t))⟩):=by unfold fFz;cases env[i]? <;> rfl
theorem lh:fMv i env k=d6 (env[i]?) (k:=⟨fun t=>isAny t=false/\k t (env.set i .any)⟩):=by unfold fMv;cases env[i]? <;> rfl
theorem fC{p:P2}:AE p f g env k=f env fun x al=>g al fun y env2=>p x y fun t=>k t env2:=rfl
theorem lq{p:T->(T->Prop)->Prop}:fUn p f env k=f env fun t al=>p t fun u=>k u al:=rfl
noncomputable def asB(t:T)[k:Th (Bool->Prop)]:Prop:=match t with
 | .bl b=>k.v b
 | _=>False
theorem kQ{k:Th (Bool->Prop)}:asB (.bl b) (k:=k)=k.v b:=rfl
theorem fU:FG f env kb=f env fun t al=>asB t (k:=⟨fun b=>kb b al⟩):=rfl
theorem gM:JL f env kb=f env fun t al=>EW t fun b=>kb b al:=rfl
theorem d9{p q:P2}{h:PF}:y6 p q f g h env k=f env fun x al=>g al fun y env2=>aW y=true/\p x y fun z=>asB z (k:=⟨fun b=>jL b (A:=⟨h env2 fun u env3=>q y u fun t=>k t env3⟩) (B:=⟨k (.bl false) env2⟩)⟩):=rfl
theorem dS:Gn tc td env kb=tc env fun b al=>jL b (A:=⟨td al kb⟩) (B:=⟨kb false al⟩):=rfl
theorem gy:Kg tc td env kb=tc env fun b al=>jL b (A:=⟨kb true al⟩) (B:=⟨td al kb⟩):=rfl
theorem eI:FY tc env kb=tc env fun b al=>kb (!b) al:=rfl
theorem gI:JA f g env k=f env fun t al=>asB t (k:=⟨fun b=>jL b (A:=⟨g al k⟩) (B:=⟨k (.bl false) al⟩)⟩):=rfl
theorem gf:Jt f env k=f env fun t al=>asB t (k:=⟨fun b=>k (.bl (!b)) al⟩):=rfl
theorem kP:fIf tc f g env k=tc env fun b al=>jL b (A:=⟨f al k⟩) (B:=⟨g al k⟩):=rfl
theorem iA:FC env ks=ks [] env:=rfl
theorem eK:FX f fs env ks=f env fun t al=>fs al fun ts env2=>ks (t::ts) env2:=rfl
theorem fZ:JE fs env k=fs env fun ts al=>ts.length<=sizeLine/\k (.tup ts) al:=rfl
theorem gc:KY fs env k=fs env fun ts al=>ts.length<=sizeLine/\k (.lst true ts) al:=rfl
theorem kT{p:P1s}:fCl p fs env k=fs env fun ts al=>p ts fun t=>k t al:=rfl
theorem gX:Km env ka=ka [] env:=rfl
theorem ip:Kh f fa env ka=f env fun t al=>fa al fun as env2=>ka (.val t::as) env2:=rfl
theorem fL:J5 i fa env ka=d6 (env[i]?) (k:=⟨fun t=>isAny t=false/\fa env fun as env2=>ka (.bor i::as) env2⟩):=by
 unfold J5;cases env[i]? with
 |none=>exact propext ⟨fun h=>h.1,fun h=>h.elim⟩
 |some t=>rfl
theorem gv:Hj n P fa env k=fa env fun as al=>as.length=n/\Kj P (lend as al).1 (k:=⟨fun t ts'=>k t (back as ts' (lend as al).2)⟩):=rfl
theorem eE:zH fr fi gt ft fe env k=fi env fun its al=>GF fr its gt ft fe al (k:=⟨k⟩):=rfl
theorem dZ{m:PM}:zI i m fs env k=d6 (env[i]?) (k:=⟨fun t0=>isL t0=true/\fs env fun ts al=>d6 (al[i]?) (k:=⟨fun t=>m t ts fun t' r=>k r (al.set i t')⟩)⟩):=rfl
theorem cX{m:PM}:Bu m f fs env k=f env fun t al=>isL t=true/\fs al fun ts env2=>m t ts fun _ r=>k r env2:=rfl
theorem m8{fl fh:PO'}:fSl f fl fh env k=f env fun t al=>fl al fun lo env2=>fh env2 fun hi env3=>slT t lo hi fun u=>k u env3:=rfl
theorem iG:JU env ko=ko none env:=rfl
noncomputable def asI(t:T)[k:Th (Int->Prop)]:Prop:=match t with
 | .int b=>k.v b
 | _=>False
theorem fG{b:Int}{k:Th (Int->Prop)}:asI (.int b) (k:=k)=k.v b:=rfl
theorem fY:Jc f env ko=f env fun t al=>asI t (k:=⟨fun i=>ko (some i) al⟩):=rfl
theorem eC:Ge pe env=pe.nx env:=rfl
theorem gU:JT u v pe env=u {pe with nx:=v pe} env:=rfl
theorem eN:Gv f pe env=f env fun _ al=>pe.nx al:=rfl
theorem gD:Kv f pe env=f env fun t al=>pe.rt t al:=rfl
theorem kx:sIf tc u v pe env=tc env fun b al=>jL b (A:=⟨u pe al⟩) (B:=⟨v pe al⟩):=rfl
theorem fM:HY i f pe env=f env fun t al=>pe.nx (al.set i t):=rfl
theorem ig:JY f gt pe env=f env fun t al=>gt t al pe.nx:=rfl
noncomputable def asP(ts:List T)(k:T->T->Prop):Prop:=match ts with
 | [t,u]=>k t u
 | _=>False
theorem lY{u:T}{k:T->T->Prop}:asP [t,u] k=k t u:=rfl
theorem gx{p:P2}:Ia i f p pe env=d6 (env[i]?) (k:=⟨fun t=>isAny t=false/\aW t=true/\f env fun u al=>p t u fun w=>pe.nx (al.set i w)⟩):=by
 unfold Ia;cases env[i]? with
 |none=>exact propext ⟨fun h=>h.1,fun h=>h.elim⟩
 |some t=>exact propext ⟨fun⟨⟨a,b⟩,c⟩=>⟨a,b,c⟩,fun⟨a,b,c⟩=>⟨⟨a,b⟩,c⟩⟩
theorem de:Cy tc u pe env=wN tc u pe env:=rfl
theorem g9:KI fi gt u pe env=fi env fun its al=>forL its gt u pe al:=rfl
variable{t:T}{ke:Ev->Prop}{ts:List T}{gt:PG'}{gts:r9}
theorem qG:gN i t env ke=ke (env.set i t):=rfl
theorem gF:GD [] env ke=ke env:=propext ⟨fun h=>h.2,fun h=>⟨rfl,h⟩⟩
theorem eG:D7 gt gts (t::ts) env ke=gt t env fun al=>gts ts al ke:=rfl
theorem iw:gTp n gts (.tup ts) env ke=(ts.length=n/\gts ts env ke):=rfl
theorem e9{fi:PF}:Gu i fi t env ke=d6 (env[i]?) (k:=⟨fun t0=>isAny t0=false/\fi env fun ti al=>d6 (al[i]?) (k:=⟨fun t1=>uW t1 ti t fun t'=>ke (al.set i t')⟩)⟩):=rfl
variable{ki:List T->Ev->Prop}
theorem gH:JF f env ki=f env fun t al=>d6 (items t) (k:=⟨fun ts=>ki (erL ts) al⟩):=rfl
noncomputable def as1(ts:List T)(k:Int->Prop):Prop:=match ts with
 | [.int j]=>k j
 | _=>False
noncomputable def as2(ts:List T)(k:Int->Int->Prop):Prop:=match ts with
 | [.int i,.int j]=>k i j
 | _=>False
theorem jZ{j:Int}{k:Int->Prop}:as1 [.int j] k=k j:=rfl
theorem kM{i j:Int}{k:Int->Int->Prop}:as2 [.int i,.int j] k=k i j:=rfl
theorem kE:iR1 fs env ki=fs env fun ts al=>as1 ts fun j=>(-(2 ^ 62)<=j/\j<2 ^ 62)/\ki (jN 0 j.toNat) al:=rfl
theorem kD:iR2 fs env ki=fs env fun ts al=>as2 ts fun i j=>(-(2 ^ 62)<=i/\i<2 ^ 62/\-(2 ^ 62)<=j/\j<2 ^ 62)/\ki (jN i (j-i).toNat) al:=rfl
theorem lJ:iZp fs env ki=fs env fun ts al=>asP ts fun t u=>d6 (items t) (k:=⟨fun as=>d6 (items u) (k:=⟨fun bs=>ki (((erL as).zip (erL bs)).map fun p=>.tup [p.1,p.2]) al⟩)⟩):=rfl
end
variable {kb:Bool->Prop}{kvs:List (List Key×T)}
section
variable{k:T->Prop}{i j l:Int}{x y:Str}{ts us:List T}{o o' b c:Bool}{t:T}
theorem fV:Hc (.int i) (.int j) k=k (.int (i+j)):=rfl
theorem fP:Hc (.lst o ts) (.lst o' us) k=(ts.length+us.length<=sizeLine/\k (.lst true (ts++us))):=rfl
theorem iq:Ji (.int i) (.int j) k=k (.int (i-j)):=rfl
theorem hZ:J9 (.int i) (.int j) k=(wy i j/\k (.int (i*j))):=rfl
theorem i6:JX (.int i) (.int j) k=(Fh i j/\k (.int (i/j))):=rfl
theorem dQ:FW (.int i) (.int j) k=k (.int (i+j)):=rfl
theorem kR:ltT (.int i) (.int j) k=k (.bl (decide (i<j))):=rfl
theorem lu:leT (.int i) (.int j) k=k (.bl (decide (i<=j))):=rfl
theorem lF:gtT (.int i) (.int j) k=k (.bl (decide (j<i))):=rfl
theorem lX:geT (.int i) (.int j) k=k (.bl (decide (j<=i))):=rfl
theorem lC:Jy (.int i) k=k (.int (-i)):=rfl
noncomputable def iT(ns:List Int):T:=.tup (ns.map T.int)
theorem fD:JQ t .non k=(isV t=true/\k (.bl (qi t))):=by cases t <;> rfl
theorem iy:ixT (.tup ts) (.int i) k=d6 (atI ts i) (k:=⟨k⟩):=rfl
theorem ij:ixT (.cst ts) (.int i) k=d6 (atI ts i) (k:=⟨k⟩):=rfl
theorem iD:ixT (.lst o ts) (.int i) k=d6 (atI ts i) (k:=⟨k⟩):=rfl
theorem eW:mY []=some []:=rfl
theorem eJ:mY (.int i::ts)=(mY ts).map fun ks=>U_ i::ks:=by rw[mY];cases mY ts <;> rfl
theorem qO(a:α)(l:List α):atI (a::l) 0=some a:=cH (j:=0) rfl
theorem pQ(a b:α)(l:List α):atI (a::b::l) 1=some b:=cH (j:=1) rfl
theorem qD(a b c:α)(l:List α):atI (a::b::c::l) 2=some c:=cH (j:=2) rfl
theorem qk(a b c d:α)(l:List α):atI (a::b::c::d::l) 3=some d:=cH (j:=3) rfl
theorem qH(a b c d e:α)(l:List α):atI (a::b::c::d::e::l) 4=some e:=cH (j:=4) rfl
theorem qr(a b c d e f:α)(l:List α):atI (a::b::c::d::e::f::l) 5=some f:=cH (j:=5) rfl
theorem pV(a b c d e f g:α)(l:List α):atI (a::b::c::d::e::f::g::l) 6=some g:=cH (j:=6) rfl
theorem qS(a b c d e f g h:α)(l:List α):atI (a::b::c::d::e::f::g::h::l) 7=some h:=cH (j:=7) rfl
theorem eR:El [.lst o ts] k=k (.int ts.length):=rfl
theorem dY:El [.cst ts] k=k (.int ts.length):=rfl
theorem gP:El [.dT o kvs] k=k (.int kvs.length):=rfl
theorem lH:Jb [.int i] k=k (.int i.natAbs):=rfl
theorem lO:DN [.int i,.int j] k=k (.int (max i j)):=rfl
theorem kF:DN [.int i,.int j,.int l] k=k (.int (max (max i j) l)):=rfl
theorem m9:Bl [.int i,.int j] k=k (.int (min i j)):=rfl
theorem lT:Bl [.int i,.int j,.int l] k=k (.int (min (min i j) l)):=rfl
theorem lM:DN [.lst o ts] k=d6 (intsOf ts) (k:=⟨fun ns=>ns≠[]/\∀r,iL ns r->k (.int r)⟩):=rfl
theorem kS:Bl [.lst o ts] k=d6 (intsOf ts) (k:=⟨fun ns=>ns≠[]/\∀r,iO ns r->k (.int r)⟩):=rfl
theorem dX:qA [.lst o ts] k=k (.tup ts):=rfl
theorem kW:GU [.lst o ts] k=d6 (boolsOf ts) (k:=⟨fun bs=>k (.bl (bs.all id))⟩):=rfl
theorem qV{lo hi:Option Int}:slT (.lst o ts) lo hi k=k (.lst true (rm ts lo hi)):=rfl
theorem kY:EW (.bl b) kb=kb b:=rfl
theorem lB:EW (.lst o ts) kb=kb (!ts.isEmpty):=rfl
variable{km:T->T->Prop}
theorem cw:uN (.lst true ts) [t] km=(ts.length<sizeLine/\km (.lst true (ts++[t])) .non):=rfl
theorem cq:tK (.lst true ts) [.lst true us] km=(ts.length+us.length<=sizeLine/\km (.lst true (ts++us)) .non):=rfl
theorem gS:HL (.lst true ts) [] km=d6 (ts[ts.length-1]?) (k:=⟨fun t=>km (.lst true ts.dropLast) t⟩):=rfl
theorem lN{ti:T}:uW (.lst true ts) (.int i) t k=d6 (ixN ts.length i) (k:=⟨fun j=>k (.lst true (ts.set j t))⟩):=rfl
theorem ik:uW (.dT true kvs) (.tup ts) t k=d6 (mY ts) (k:=⟨fun q=>kvs.length<sizeLine/\k (.dT true (iC kvs q t))⟩):=rfl
end
theorem cf(g:α->T)(l:List α):bC (l.map g)=l.all fun x=>aW (g x):=by rw[eV,NV];rfl
theorem bM(g:α->T)(l:List α):cQ (l.map g)=l.all fun x=>cv (g x):=by rw[rN,NV];rfl
theorem cu(l m:List T):bC (l++m)=(bC l&&bC m):=by rw[eV,eV,eV,List.all_append]
theorem fj(l:List α):(l.all fun _=>true)=true:=by induction l with|nil=>rfl|cons _ _ ih=>rw[Pz,ih];rfl
theorem dq:isAny (.non)=false:=rfl
theorem fH:isV (.non)=true:=rfl
theorem cU:qi (.non)=true:=rfl
theorem dR:isAny (.bl b)=false:=rfl
theorem cY{i:Int}:isAny (.int i)=false:=rfl
theorem i7{i:Int}:isV (.int i)=true:=rfl
theorem cV{i:Int}:qi (.int i)=false:=rfl
theorem df:isAny (.tup ts)=false:=rfl
theorem iK:isV (.tup ts)=true:=rfl
theorem dg:qi (.tup ts)=false:=rfl
theorem cR:isAny (.cst ts)=false:=rfl
theorem cW:isAny (.lst o ts)=false:=rfl
theorem fI:isV (.lst o ts)=true:=rfl
theorem dh:qi (.lst o ts)=false:=rfl
theorem eS:isAny (.dT o kvs)=false:=rfl
theorem fO:isL (.lst o ts)=true:=rfl
theorem du:items (.tup ts)=some ts:=rfl
theorem d5:items (.lst o ts)=some ts:=rfl
variable {its:List T}
theorem aU{g:PG'}(W:Nat->Ev->Prop)(h0:W 0 env)(ht:∀i t env,W i env->its[i]?=some t->g t env fun env2=>fb {pe with nx:=W (i+1),ct:=W (i+1),bk:=pe.nx} env2)(he:∀env,W its.length env->pe.nx env):forL its g fb pe env:=⟨W,h0,ht,he⟩
theorem AU(W:Nat->Ev->Prop)(m:Nat)(h0:W m env)(ht:∀m env,W m env->tc env fun b al=>jL b (A:=⟨fb {pe with nx:=fun e=>∃m',m'<m/\W m' e,ct:=fun e=>∃m',m'<m/\W m' e,bk:=pe.nx} al⟩) (B:=⟨pe.nx al⟩)):wN tc fb pe env:=⟨W,⟨m,h0⟩,ht⟩
theorem aP{g:PG'}{k:Th (T->Ev->Prop)}(hz:its.length<sizeLine)(W:Nat->List T->Ev->Prop)(h0:W 0 [] (lend (frA fr) env).1)(ht:∀i t acc ie,W i acc ie->its[i]?=some t->g t ie fun ie2=>ft ie2 fun b ie3=>jL b (A:=⟨fe ie3 fun u ie4=>W (i+1) (acc++[u]) ie4⟩) (B:=⟨W (i+1) acc ie3⟩))
  (he:∀acc ie,W its.length acc ie->k.v (.lst true acc) (back (frA fr) ie (lend (frA fr) env).2)):GF fr its g ft fe env (k:=k):=⟨hz,W,h0,ht,he⟩
noncomputable def sq(b:Bool)(ts:List T):T:=match b with
 |true=>.tup ts
 |false=>.lst false ts
abbrev pt(x y:Int):T:=.tup [.int x,.int y]
end PL
namespace ZG
open PySem
open Sem (wp)
theorem AV{prog:Q5}{w:Q8}{A:Rh}(hh:A.handled=none)(it d:QS)(hne:d≠it)(o:Obj)(es:Array RX)(ep:Nat)(hd:o.data=.dict es ep) :
  Yt prog w A it [it,d] [it] es.size (fun i v=>∃e,es[i]?=some e/\v=e.key) (fun i h=>h.IsKeyIter it d i es.size ep/\h.get? d=some o) where
 sub:=fun b hb=>by simp at hb;simp[hb]
 frame:=fun _ _ _ st hk=>⟨st.1.at fun o e=>hk it (by simp) o e,hk d (by simp) o st.2⟩
 item:=fun i s Q E hi st hQ=>by have hx:es[i]?=some es[i]:=j_ hi;refine G9 st.1 st.2 hd hx fun h' hit' hs'=>?_;exact hQ _ h' s.toks ⟨_,hx,rfl⟩ ⟨hit',hs'.extBut d o hne st.2⟩ fun b o hb e=>hs'.extBut b o (fun z=>hb (by simp[z])) e
 done:=fun s Q E st hQ=>Kn hh st.1 st.2 hd (Mh (b_ _)) fun h' he'=>hQ h' s.toks fun b o hb e=>he' b o (fun z=>hb (by simp[z])) e
 self:=fun _ _ _ _ st hQ=>V0 st.1 hQ
theorem FK{prog:Q5}{w:Q8}{d:QS}{o:Obj}{es:Array RX}{ep:Nat}(lo:(d == RS)=false)(hc:o.ExactDict)(hd:o.data=.dict es ep) :
  PySem.W.KdlSrc prog w "dict" d d es.size (fun i v=>∃e,es[i]?=some e/\v=e.key) (fun h=>h.get? d=some o) where
 type:=fun _ hm=>⟨o,hm,hc.1⟩
 there:=fun _ hm=>⟨Q1 hm,Q1 hm⟩
 keep:=fun _ _ hm hk=>hk d (.inl rfl) o hm
 notList:=by decide
 notTuple:=by decide
 hint:=fun _ _ _ _ hm hq=>PySem.W.kdl_hint_dict ⟨o,hm,hc.1⟩ hq
 iter:=fun _ _ hh hm=>⟨_,_,(fun _ _ hq=>Gw lo hm hc hd hq),AV hh _ d (s_ (Q1 hm)) o es ep hd,⟨⟨_,Q0 _ rfl,rfl,rfl⟩,QW _ hm⟩⟩
end ZG
namespace L2
open PySem PySem.Spec PyProof.Rows
section
variable{X:Cx}
theorem xZ(hc:X.calm=true):bE X (.type "list") (fun xs H Q=>∃d kvs,xs=[.ref d]/\Rd H d (.dT kvs)/\∀bs:List QS,S8 (fun(b:QS) (p:List Key×V)=>H b=some (.tup (p.1.map kV))) bs kvs->(kvs.map (·.1)).Nodup->New (.lst (bs.map V.ref)) H Q):=by
 intro ac s σ H xs us Q I r h;obtain⟨d,kvs,rfl,hd,q⟩:=h;obtain⟨u,rfl,ru⟩:=vals1 r;cases ru;obtain⟨z,lo,xs,kt,o,es,ep,g1,g2,g3,g4,g5⟩:=(show b6 X.prog X.w H s.heap d (.dT kvs)from hd.ok I.hok);have hes:es.size=kvs.length:=by rw[<-g_,g4,a_];exact(R' kt).symm
 refine PySem.W.kdl_call (ZG.FK lo g2 g3) (I.ok.hd hc) g1 (by lia) fun h' tk acc c kp e it=>?_
 have hacc:acc.toList=(xs.map fun x=>x.2.1).map Rx:=by
  refine P4 fun j=>?_;rw[gV,B_,B_];by_cases hj:j<es.size
  ·have hx:j<xs.length:=by rw[<-g_,g4,a_]at hj;exact hj
   have hja:j<acc.size:=by rw[it.1];exact hj
   have ha:acc[j]?=some acc[j]:=j_ hja;obtain⟨en,e1,e2⟩:=it.2 j _ ha;rw[ha,e2,d_ hx];rw[<-gV,g4,B_,d_ hx]at e1;cases e1
   rfl
  have hx:¬j<xs.length:=by rw[<-g_,g4,a_]at hj;exact hj
  rw[Mh (by rw[it.1];lia),NF (by lia)]
  rfl
 have rel:∀(l:List QS),Vals (l.map V.ref) (l.map Rx):=fun l=>by
  induction l with
  |nil=>exact .nil
  |cons a t ih=>exact .cons rfl ih
 have hq:∀{kvs':List (List Key×V)}{xs':List (List Key×QS×QR)},KT H kvs' xs'->S8 (fun(b:QS) (p:List Key×V)=>H b=some (.tup (p.1.map kV))) (xs'.map fun x=>x.2.1) kvs':=fun{kvs' xs'} k=>by
  induction k with
  |nil=>exact .nil
  |cons h t ih=>exact .cons h.2.1 ih
 have ek:∀{kvs':List (List Key×V)}{xs':List (List Key×QS×QR)},KT H kvs' xs'->kvs'.map (·.1)=xs'.map fun x=>x.1:=fun{kvs' xs'} k=>by
  induction k with
  |nil=>rfl
  |cons h t ih=>rw[k_,k_,ih,h.1]
 have e':h'.get? s.heap.objs.size=some { cls:=.type "list",dict:=none,data:=.seq ((xs.map fun x=>x.2.1).map Rx).toArray c,slots:=#[] }:=by rw[<-hacc];exact e
 exact⟨.ref s.heap.objs.size,_,I.laid (t':=tk) kp (b_ _) (show b6 X.prog X.w _ h' _ (.lst ((xs.map fun x=>x.2.1).map V.ref))from⟨by rw[a_,a_,<-R' kt];omega,_,c,rel _,e'⟩),rfl,(q _ (hq kt) (by rw[ek kt];exact g5)).at (I.hok.fresh (b_ _))⟩
abbrev mG(K:QT)(H:Hp):List V->List (List Int)->Prop:=S8 fun v k=>k≠[]/\∃b,v=.ref b/\SqT K H b (k.map V.int)
theorem uU{ac:List (QS×Obj)}{σ:St}{H:Hp}{s:QV}(I:Inv X ac σ H s):∀{ys:List V}{its:List QR}{ks:List (List Int)},Vals ys its->mG X.K H ys ks->(∀v∈its,ZS.FU s.heap v/\∃b,v=.ref b/\ZS.jM s.heap v≠[]/\SqT X.K H b ((ZS.jM s.heap v).map V.int))/\its.map (ZS.jM s.heap)=ks:=by
 intro ys its ks x;induction x generalizing ks with
 |nil=>intro r;cases r;exact⟨fun v hv=>(nomatch hv),rfl⟩
 | @cons v _ _ its hv tv ih=>
  intro r;rcases r with _|⟨hk,tk⟩;rename_i k ks;obtain⟨hne,b,rfl,hb⟩:=hk;cases hv;obtain⟨j1,j2⟩:=ih tk;obtain⟨its',r',⟨o,ho,hc,n,hd⟩,hz⟩:=I.tuple hb;obtain⟨ps,e1,e2⟩:=cg r';have kv:ZS.jM s.heap (.ref b)=k:=by
   rw[ZS.uk ho hd];show its'.map ZS.gn=k;rw[e1,z_,<-e2]
   rfl
  refine⟨fun w hw=>?_,by rw[k_,kv,j2]⟩;rcases p_.mp hw with e|e
  ·subst e;refine⟨⟨b,o,_,n,rfl,ho,hc,hd,fun v hv=>?_,?_⟩,b,rfl,by rw[kv];exact hne,by rw[kv];exact hb⟩
   ·have hv:v∈its':=hv;rw[e1]at hv;obtain⟨p,_,e⟩:=t_.mp hv;exact⟨p.1,p.2,e.symm⟩
   rw[o_,e1,a_,<-a_ (f:=(·.1)),e2];exact PH.mpr hne
  exact j1 w e
theorem rB:∀{ys:List V}{us:List QR}{u:QR}{b:QS},Vals ys us->u∈us->u=.ref b->V.ref b∈ys:=by
 intro ys us u b x;induction x with
 |nil=>intro h _;cases h
 | @cons y _ _ _ r t ih=>
  intro h e;rcases p_.mp h with z|h
  ·subst z;subst e;have:y=.ref b:=RelV.inj r (show RelV (.ref b) (.ref b)from rfl);rw[this];exact u_
  exact n_ _ (ih h e)
theorem tL:bE X (.builtin "sorted") (fun xs H Q=>∃p ys ks,xs=[.ref p]/\SqL X.K H p ys/\mG X.K H ys ks/\∀zs ls,mG X.K H zs ls->(∀v∈zs,v∈ys)->ls.Perm ks->ls.Pairwise (fun x y=>ZS.ltL y x=false)->New (.lst zs) H Q):=by
 intro ac s σ H xs us Q I r h;obtain⟨p,ys,ks,rfl,hq,hr,q⟩:=h;obtain⟨u,rfl,ru⟩:=vals1 r;cases ru;obtain⟨its,rv,pl,hz⟩:=I.list hq;have hlen:=rv.length;obtain⟨f1,f2⟩:=uU I rv hr;refine ZS.xI (kd:=Xk true) (rk:=fun x=>ZS.rnk ZS.ltL ks (ZS.jM s.heap x.1)) (S:=fun x=>x.1∈its) pl.isList (by lia) (fun v hv=>hv) (fun h' kp {Q}{E} hne q=>ZS.wk (h0:=s.heap) (fun v hv=>(f1 v hv).1) (fun b o e _=>kp b o e) hne q)
  (fun h' E kp=>ZS.vq (h0:=s.heap) (ks:=ks) (fun x hx=>⟨(f1 _ hx).1,by rw[<-f2];exact Mn hx⟩) fun b o e _=>kp b o e) fun o a c h' op os ha kp e=>?_
 have mem:∀v∈o,v∈its:=fun v hv=>op.mem_iff.mp hv;have mk:∀(l:List QR),(∀v∈l,v∈its)->∃zs,Vals zs l/\mG X.K H zs (l.map (ZS.jM s.heap))/\zs.length=l.length/\∀v∈zs,v∈ys:=by
  intro l;induction l with
  |nil=>exact fun _=>⟨[],.nil,.nil,rfl,fun v hv=>(by cases hv)⟩
  |cons v t ih=>
   intro hl;obtain⟨zs,k1,k2,k3,k6⟩:=ih fun v hv=>hl v (.tail _ hv);obtain⟨_,b,e,k4,k5⟩:=f1 v (hl v (.head _));refine⟨.ref b::zs,.cons e k1,.cons ⟨k4,b,rfl,k5⟩ k2,by rw[h_,h_,k3],fun w hw=>?_⟩;rcases p_.mp hw with rfl|hw
   ·exact rB rv (hl v (.head _)) e
   exact k6 w hw
 obtain⟨zs,k1,k2,k3,k6⟩:=mk o mem;refine⟨.ref a,_,I.laid (t':=s.toks) kp ha (show b6 X.prog X.w _ h' _ (.lst zs)from⟨by rw[k3,op.length_eq];lia,o,c,k1,e⟩),rfl,(q zs _ k2 k6 ?_ ?_).at (I.hok.fresh ha)⟩
 ·rw[<-f2];exact op.map _
 rw[LV];refine MD (fun{x y} hx hy hxy=>?_) os;cases z:ZS.ltL (ZS.jM s.heap y) (ZS.jM s.heap x)
 ·rfl
 have:=ZS.tZ ZS.CK (ks:=ks) (by rw[<-f2];exact Mn (mem y hy)) z;exact absurd this (Pq.mpr hxy)
abbrev Bb(H:Hp):List V->List (List Int)->Prop:=S8 fun v k=>k≠[]/\∃b,v=.ref b/\H b=some (.tup (k.map V.int))
end
end L2
namespace ZS
open PySem PyProof.Rows
noncomputable def ltI(a b:Int):Bool:=decide (a<b)
theorem Ky:Tot ltI:=⟨fun a=>decide_eq_false (Int.lt_irrefl a),fun a b c h g=>decide_eq_true (Int.lt_trans (of_decide_eq_true h) (of_decide_eq_true g)),fun a b h g=>by have h:=of_decide_eq_false h;have g:=of_decide_eq_false g;lia⟩
variable {ns:List Int}
section
variable{prog:Q5}{w:Q8}{A:Rh}{E:QR->QV->Prop}{s:QV}
theorem Cg{S:QY->Prop}(hS:∀x,S x->∃i t,x.1=.int i t/\i∈ns):cP (Q3 prog w) A E s WM (fun x=>rnk ltI ns (gn x.1)) S:=by intro x y st Q sx sy kd q;obtain⟨i,t,ex,mi⟩:=hS x sx;obtain⟨j,u,ey,mj⟩:=hS y sy;rw[lt'_eq];refine Q2 (TM ?_);rw[kd,ex,ey,keyLt'_oneType];refine Q2 (Vg (RZ (oneLt_int ⟨rfl,?_⟩)));refine Q7 ?_;dsimp only at q;rw[yx Ky (show gn x.1∈ns by rw[ex];exact mi),ex,ey]at q;exact q
theorem C1{M:Ts}{v1:QR}{vs:List QR}{Q:R3->QV->Prop}(hI:So (v1::vs) ns)(q:Q WM s):QX M A (UR (v1::vs).toArray) Q E s:=by
 have e:UR (v1::vs).toArray=pure WM:=by
  rw[keyKind'_eq,P5,mapM_first_ints hI];simp only[map_pure,pure_bind];rw[if_neg (by simp),if_neg (by simp),oneTypeOnly'_eq,P5,mapM_typeOf_ints hI];simp only[map_pure,pure_bind];have hal:((LO (fun _=>R5 "int") (v1::vs)).toArray.all fun x=>x == R5 "int")=true:=by simp only[List.all_toArray,NV,Nh];exact fun _ _=>rfl
  have hz:(LO (fun _=>R5 "int") (v1::vs)).toArray[0]?=some (R5 "int"):=by simp
  rw[hz];simp only[hal,if_true,pure_bind,PN]
 rw[e];exact QU q
end
end ZS
namespace PL
open PySem PySem.Spec PyProof.Rows L2
section
variable{κ:Type}{lt:κ->κ->Bool}
noncomputable def AY(lt:κ->κ->Bool)(x:κ):List κ->List κ
 | []=>[x]
 |y::r=>if lt y x=true then y::AY lt x r else x::y::r
def wY(lt:κ->κ->Bool):List κ->List κ
 | []=>[]
 |x::r=>AY lt x (wY lt r)
theorem oq(x:κ):∀l:List κ,(AY lt x l).Perm (x::l)
 | []=>.refl _
 |y::r=>by
  rw[AY];split
  ·exact((oq x r).cons y).trans (.swap _ _ _)
  exact .refl _
theorem ny:∀l:List κ,(wY lt l).Perm l
 | []=>.refl _
 |x::r=>(oq x _).trans ((ny r).cons x)
theorem oz(T:ZS.Tot lt)(x:κ):∀{l:List κ},l.Pairwise (fun a b=>lt b a=false)->(AY lt x l).Pairwise (fun a b=>lt b a=false)
 | [],_=>N4 _ _
 |y::r,h=>by
  rw[Mt]at h;rw[AY];split
  ·rename_i hy;rw[Mt];refine⟨fun b hb=>?_,oz T x h.2⟩;rcases p_.mp ((oq x r).mem_iff.mp hb)with rfl|hb
   ·cases z:lt b y
    ·rfl
    have:=T.tr _ _ _ z hy;rw[T.irr]at this;cases this
   exact h.1 b hb
  rename_i hy;have hy:lt y x=false:=OK.mpr hy;rw[Mt];refine⟨fun b hb=>?_,Mt.mpr h⟩;rcases p_.mp hb with rfl|hb
  ·exact hy
  cases z:lt b x
  ·rfl
  have h1:=h.1 b hb;cases w:lt y b
  ·have:=T.tot _ _ h1 w;subst this;rw[z]at hy;cases hy
  have:=T.tr _ _ _ w z;rw[hy]at this;cases this
theorem jf(T:ZS.Tot lt):∀l:List κ,(wY lt l).Pairwise (fun a b=>lt b a=false)
 | []=>N5
 |x::r=>oz T x (jf T r)
theorem oJ(T:ZS.Tot lt):∀{l m:List κ},l.Perm m->l.Pairwise (fun a b=>lt b a=false)->m.Pairwise (fun a b=>lt b a=false)->l=m
 | [],m,p,_,_=>(List.Perm.nil_eq p)
 |a::l,[],p,_,_=>(List.Perm.eq_nil p)
 |a::l,b::m,p,h,g=>by
  rw[Mt]at h g;have e:a=b:=by
   have ha:a∈b::m:=p.mem_iff.mp u_;have hb:b∈a::l:=p.mem_iff.mpr u_;rcases p_.mp ha with e|ha
   ·exact e
   rcases p_.mp hb with e|hb
   ·exact e.symm
   exact T.tot _ _ (g.1 a ha) (h.1 b hb)
  subst e;rw[oJ T (List.Perm.cons_inv p) h.2 g.2]
theorem Et(T:ZS.Tot lt){l m:List κ}(p:l.Perm m)(h:l.Pairwise (fun a b=>lt b a=false)):l=wY lt m:=
 oJ T (p.trans (ny m).symm) h (jf T m)
end
abbrev uK(ks:List (List Int)):List (List Int):=wY ZS.ltL ks
abbrev L9(ks:List Int):List Int:=wY ZS.ltI ks
def rowOf:T->Option (List Int)
 | .tup ts=>match intsOf ts with
  |some (n::r)=>some (n::r)
  | _=>none
 | _=>none
def rowsOf:List T->Option (List (List Int))
 | []=>some []
 |t::r=>match rowOf t,rowsOf r with
  |some k,some ks=>some (k::ks)
  | _,_=>none
theorem Bf{t:T}{k:List Int}(h:rowOf t=some k):t=iT k/\k≠[]:=by
 cases t <;> first|cases h|skip
 rename_i ts;rw[rowOf]at h;split at h
 ·rename_i n r e;cases h;exact⟨by rw[cC e];rfl,by simp⟩
 cases h
theorem BK{k:List Int}(h:k≠[]):rowOf (iT k)=some k:=by
 cases k with
 |nil=>exact absurd rfl h
 |cons n r=>
  show(match intsOf ((n::r).map T.int)with|some (n::r)=>some (n::r) | _=>none)=_;rw[ye]
theorem nN:∀{ts:List T}{ks:List (List Int)},rowsOf ts=some ks->ts=ks.map iT/\∀k∈ks,k≠[]
 | [],ks,h=>by cases h;exact⟨rfl,fun k hk=>by cases hk⟩
 |t::ts,ks,h=>by
  rw[rowsOf]at h;split at h
  ·rename_i k r e1 e2;cases h;obtain⟨h1,h2⟩:=Bf e1;obtain⟨h3,h4⟩:=nN e2;refine⟨by rw[h1,h3];rfl,fun q hq=>?_⟩;rcases p_.mp hq with rfl|hq
   ·exact h2
   exact h4 q hq
  cases h
theorem xJ{ks:List (List Int)}(h:∀k∈ks,k≠[]):rowsOf (ks.map iT)=some ks:=by
 induction ks with
 |nil=>rfl
 |cons k r ih=>
  rw[k_,rowsOf,BK (h k u_),ih fun q hq=>h q (n_ _ hq)]
theorem oH{α:Type}(g:α->T)(f:α->List Int)(h:∀x,g x=iT (f x))(n:∀x,f x≠[])(l:List α):rowsOf (l.map g)=some (l.map f):=by
 have:l.map g=(l.map f).map iT:=by rw[z_];exact ML fun x _=>h x
 rw[this];exact xJ fun k hk=>by obtain⟨x,_,rfl⟩:=t_.mp hk;exact n x
def L0:P1s
 | [.lst _ ts],k=>match intsOf ts with
  |some ns=>k (.lst true ((L9 ns).map T.int))
  |none=>got (rowsOf ts) fun ks=>k (.lst true ((uK ks).map iT))
 | [.dT _ kvs],k=>∃ks,kvs.map (·.1)=ks.map kI/\(∀q∈ks,q≠[])/\(ks.Nodup->k (.lst true ((uK ks).map iT)))
 | _,_=>False
variable {H:Hp}{K:QT}{lo:Int}{n:Nat}
section
variable{X:Cx}
theorem pL{K:QT}{H:Hp}{Γ:Fm}:∀{ks:List (List Int)}{vs:List V},(∀k∈ks,k≠[])->(ks.map iT).length=vs.length->Rp K H (zz (ks.map iT) vs++Γ)->mG K H vs ks/\∀v∈vs,∃(b:QS) (k:List Int),v=.ref b/\H b=some (.tup (k.map V.int))
 | [],[],_,_,_=>⟨.nil,fun v hv=>by cases hv⟩
 | [],_::_,_,l,_=>by cases l
 | _::_,[],_,l,_=>by cases l
 |k::ks,v::vs,n,l,h=>by
  have h:Rp K H ((iT k,some v)::(zz (ks.map iT) vs++Γ)):=h;obtain⟨a,us,rfl,ha,la,h2⟩:=oZ h;have eu:=dy la h2;subst eu;obtain⟨r1,r2⟩:=pL (fun q hq=>n q (n_ _ hq)) (by simpa using l) h.tail;refine⟨.cons ⟨n k u_,a,rfl,SqT.of ha⟩ r1,fun w hw=>?_⟩;rcases p_.mp hw with rfl|hw
  ·exact⟨a,k,rfl,ha⟩
  exact r2 w hw
theorem ji{K:QT}{H:Hp}{Γ:Fm}:∀{ks:List (List Int)}{vs:List V},Bb H vs ks->Rp K H Γ->Rp K H (zz (ks.map iT) vs++Γ)/\(ks.map iT).length=vs.length
 | [],_,r,h=>by cases r;exact⟨h,rfl⟩
 |k::ks,_,r,h=>by rcases r with _|⟨hd,t⟩;rename_i v vs;obtain⟨_,b,e,hb⟩:=hd;obtain⟨h1,l1⟩:=ji t h;subst e;refine⟨?_,by simp at l1 ⊢;exact l1⟩;show Rp K H ((iT k,some (.ref b))::(zz (ks.map iT) vs++Γ));exact eO (ts:=k.map T.int) (vs:=k.map V.int) (rp_intsP k h1) (by rw[a_,a_]) .bY hb
where
 rp_intsP {Γ:Fm}:∀(ns:List Int),Rp K H Γ->Rp K H (zz (ns.map T.int) (ns.map V.int)++Γ)
 | [],h=>h
 | _::r,h=>bQ (rp_intsP r h) fun _=>.int
theorem uO{K:QT}{H:Hp}{Γ:Fm}:∀(ns:List Int),Rp K H Γ->Rp K H (zz (ns.map T.int) (ns.map V.int)++Γ)
 | [],h=>h
 | _::r,h=>bQ (uO r h) fun _=>.int
theorem zW:∀{zs:List V}{ls:List (List Int)},(∀v∈zs,∀b,v=.ref b->∀xs,SqT K H b xs->H b=some (.tup xs))->mG K H zs ls->Bb H zs ls:=by
 intro zs ls h r;induction r with
 |nil=>exact .nil
 |cons hk t ih=>
  obtain⟨n,b,e,hb⟩:=hk;exact .cons ⟨n,b,e,h _ u_ b e _ hb⟩ (ih fun v hv=>h v (n_ _ hv))
theorem qZ{acc:Array QR}(h:Xm (fun(i:Nat) (v:QR)=>∃t:Tok,v=SQ (lo+i*1) t) acc n):Vals (((B' n).map fun(i:Nat)=>lo+(i:Int)).map V.int) acc.toList:=by
 have gen:∀(m:Nat) (l:List QR),l.length=m->(∀(j:Nat) (v:QR),l[j]?=some v->∃t:Tok,v=SQ (lo+(j:Int)) t)->Vals (((B' m).map fun(i:Nat)=>lo+(i:Int)).map V.int) l:=by
  intro m;induction m with
  |zero=>intro l hl _;have:l=[]:=List.length_eq_zero_iff.mp hl;subst this;exact .nil
  |succ m ih=>
   intro l hl hv;have hne:l≠[]:=by intro z;subst z;simp at hl
   obtain⟨l',v,rfl⟩:∃l' v,l=l'++[v]:=⟨l.dropLast,l.getLast hne,(List.dropLast_concat_getLast hne).symm⟩;have hl':l'.length=m:=by simpa using hl
   rw[NU,q_,q_];refine Vals.append (ih l' hl' fun j w e=>hv j w ?_) ?_
   ·rw[MT (c_.mp e).1];exact e
   obtain⟨t,e⟩:=hv m v (by rw[Mb (by lia),hl',Ni];rfl);exact .cons ⟨t,e⟩ .nil
 refine gen n _ (by rw[g_];exact h.1) fun j v e=>?_
 rw[gV]at e;obtain⟨t,q⟩:=h.2 j v e;exact⟨t,by rw[q,P8]⟩
theorem oQ{ac:List (QS×Obj)}{σ:L2.St}{s:QV}{hi:Int}{t u v:Tok}{tk:Nat}{Q:VK}(I:Inv X ac σ H s)(hc:X.calm=true)(h1:-(2 ^ 62)<=lo)(h2:lo<2 ^ 62)(h3:-(2 ^ 62)<=hi)(h4:hi<2 ^ 62)(hz:(hi-lo).toNat<=2 ^ 24)
  (q:New (.lst (((B' (hi-lo).toNat).map fun(i:Nat)=>lo+(i:Int)).map V.int)) H Q):QX (Q3 X.prog X.w) X.A (call (.type "list") [.ref s.heap.objs.size]) (EP X ac σ Q) X.xe {s with heap:=s.heap.push { cls:=.type "range",data:=.fields #[.int lo t,.int hi u,.int 1 v] },toks:=tk}:=by
 refine call_list_range (n:=(hi-lo).toNat) (I.ok.hd hc) (Yg ..) (small_one h1 h2 h3 h4) (rangeSize_nat _ _) hz fun h' tk' acc c hk e it=>?_;have esz:(s.heap.push { cls:=.type "range",data:=.fields #[.int lo t,.int hi u,.int 1 v] }).objs.size=s.heap.objs.size+1:=by simp[Uy]
 dsimp only at hk e ⊢;rw[esz]at e ⊢;have hfr:H (s.heap.objs.size+1)=none:=I.hok.fresh (Nw _);have rv:=qZ it;refine⟨.ref (s.heap.objs.size+1),_,I.laid (t':=tk') (h':=h') (fun b o z=>hk b o (QW _ z)) (Nw _) (show b6 X.prog X.w _ h' _ (.lst _)from⟨?_,acc.toList,c,rv,by simpa using e⟩),rfl,q _ _ hfr (bL hfr _) aO⟩;rw[a_,a_,Mo,sizeLine_eq];exact hz
variable{e a b:Q9}{fr:PFs}{p1 p2 pos1 pos2:Pos}
theorem L7{k:Nat}{A:Rh}(r:Room k A):A.units+20<cLine:=by have:=r.un;lia
def pairOf:T->Option (List Key×T)
 | .tup [.tup ks,v]=>match mY ks with
  |some q=>some (q,v)
  |none=>none
 | _=>none
def pairsOf:List T->Option (List (List Key×T))
 | []=>some []
 |t::r=>match pairOf t,pairsOf r with
  |some k,some ks=>some (k::ks)
  | _,_=>none
noncomputable def putAll(kvs:List (List Key×T)):List (List Key×T):=kvs.foldl (fun a x=>iC a x.1 x.2) []
def BR:P1s
 | [.lst true ts],k=>got (pairsOf ts) fun kvs=>i5 kvs=true/\k (.dT true (putAll kvs))
 | _,_=>False
theorem B0{t:T}{q:List Key×T}(h:pairOf t=some q):∃ks,t=.tup [.tup ks,q.2]/\mY ks=some q.1:=by
 unfold pairOf at h;split at h
 ·rename_i ks v;split at h
  ·rename_i z e;cases h;exact⟨ks,rfl,e⟩
  cases h
 cases h
theorem RepXs.put {Hz:Hp}{q:List Key}{t:T}{w:V}(h:RepT K Hz H t w []):∀{ts:List (List Key×T)}{vs:List (List Key×V)},RepXs K Hz H ts vs []->RepXs K Hz H (iC ts q t) (putK vs q w) []:=by
 intro ts vs c;have ek:=c.toL.1;have ha:(ts.any fun kv=>decide (kv.1=q))=(vs.any fun kv=>decide (kv.1=q)):=by
  have e1:(ts.any fun kv=>decide (kv.1=q))=(ts.map (·.1)).any fun k=>decide (k=q):=by rw[OZ];rfl
  have e2:(vs.any fun kv=>decide (kv.1=q))=(vs.map (·.1)).any fun k=>decide (k=q):=by rw[OZ];rfl
  rw[e1,e2,ek]
 have mp:∀{ts:List (List Key×T)}{vs:List (List Key×V)}{L:List QS},RepXs K Hz H ts vs L->L=[]->RepXs K Hz H (ts.map fun kv=>if kv.1=q then(kv.1,t)else kv) (vs.map fun kv=>if kv.1=q then(kv.1,w)else kv) []:=by
  intro ts vs L c e;induction ts generalizing vs L with
  |nil=>cases c;exact .nil
  |cons x ts ih=>
   cases c with
   | @cons k t1 v1 L1 M N ts' vs' e1 h1 c1=>
    subst e;have z:=Ob.mp e1.symm;obtain⟨rfl,rfl⟩:=z;rw[k_,k_];by_cases hk:k=q
    ·rw[if_pos hk,if_pos hk];exact .cons rfl h (ih c1 rfl)
    rw[if_neg hk,if_neg hk];exact .cons rfl h1 (ih c1 rfl)
 have ap:∀{ts:List (List Key×T)}{vs:List (List Key×V)}{L:List QS},RepXs K Hz H ts vs L->L=[]->RepXs K Hz H (ts++[(q,t)]) (vs++[(q,w)]) []:=by
  intro ts vs L c e;induction ts generalizing vs L with
  |nil=>cases c;exact .cons rfl h .nil
  |cons x ts ih=>
   cases c with
   | @cons k t1 v1 L1 M N ts' vs' e1 h1 c1=>
    subst e;have z:=Ob.mp e1.symm;obtain⟨rfl,rfl⟩:=z;exact .cons rfl h1 (ih c1 rfl)
 unfold iC putK;rw[ha];split
 ·exact mp c rfl
 exact ap c rfl
theorem sD{K:QT}{Hz H:Hp}:∀{ts:List T}{kvs:List (List Key×T)}{vs:List V}{L:List QS},pairsOf ts=some kvs->i5 kvs=true->RepTs K Hz H ts vs L->∃xs,wH H vs xs/\RepXs K Hz H kvs xs []
 | [],kvs,_,_,e,_,r=>by cases r;cases e;exact⟨[],.nil,.nil⟩
 |t::ts,kvs,_,_,e,n,r=>by
  cases r with
  |cons e1 h c=>
   rw[pairsOf]at e;split at e
   ·rename_i k r e2 e3;cases e;obtain⟨q,v⟩:=k;obtain⟨ks,rfl,ek⟩:=B0 e2;rw[i5,Mc]at n;obtain⟨xs,px,rx⟩:=sD e3 n.2 c;cases h with
    |tup ha ca=>
     cases ca with
     |cons e4 h4 c4=>
      cases c4 with
      | @cons _ w _ _ _ _ _ e5 h5 c5=>
       cases c5;cases h4 with
       |tup hb cb=>
        have hL:=h5.nil_of n.1;subst hL;refine⟨(q,w)::xs,.cons ⟨_,_,rfl,ha,?_⟩ px,.cons rfl h5 rx⟩;rw[hb,oj ek cb]
   cases e
theorem pE{K:QT}{Hz H:Hp}:∀{kvs:List (List Key×T)}{xs:List (List Key×V)}{L:List QS}{a:List (List Key×T)}{b:List (List Key×V)},RepXs K Hz H kvs xs L->L=[]->RepXs K Hz H a b []->RepXs K Hz H (kvs.foldl (fun a x=>iC a x.1 x.2) a) (xs.foldl (fun a x=>putK a x.1 x.2) b) []
 | _,_,_,_,_,.nil,_,h=>h
 | _,_,_,_,_,.cons e1 h1 c1,e,h=>by subst e;obtain⟨rfl,rfl⟩:=Ob.mp e1.symm;rw[NR,NR];exact pE c1 rfl (RepXs.put h1 h)
theorem x8(hc:X.calm=true)(hu:X.A.units+20<cLine):fw X (.type "dict") BR:=by
 rintro ac s σ H xs us Q I r ⟨ts,Γ,k,l,rp,g,c⟩;unfold BR at g;split at g
 ·rename_i k ts;obtain⟨x,rfl⟩:=zz1 l rfl;have rp:Rp X.K H ((.lst true ts,some x)::Γ):=rp;obtain⟨kvs,ek,n,kt⟩:=aE g;obtain⟨a,vs,ea,ha,la,rp2⟩:=dM rp;cases ea;obtain⟨Hz,N,h,nd,gz,d⟩:=rp2.tail;obtain⟨L,M,rfl,h1,h2⟩:=h.split;obtain⟨ys,py,ry⟩:=sD ek n (h1.xg la);refine y0 hc hu ac s σ H _ us Q I r ⟨a,vs,ys,rfl,ha,py,fun p H' hp g' e'=>c _ _ _ kt ?_⟩;have rd:=pE ry rfl (.nil:RepXs X.K Hz H [] [] []);have hm:=h2.move (bz.tk g') .bY fun b m u e=>fB g' b u e;refine⟨Hz,[p]++M,.cons rfl (.inr ⟨_,rfl,.dTO e' (rd.move (bz.tk g') .bY fun b m=>by cases m)⟩) hm,?_,gz.trans (.of g'),?_⟩
  ·rw[Oj,F_];refine⟨fun m=>?_,(Mz.mp nd).2.1⟩;obtain⟨⟨u,e⟩,_⟩:=h2.there p m;rw[hp]at e;cases e
  intro b m;rcases p_.mp m with rfl|m
  ·exact gz.none hp
  exact d b (r_ _ m)
 exact Rb g
end
section
variable{b:Bool}{ts us:List T}{k:T->Prop}{i:Int}{t u:T}{env:Ev}{ke:T->Ev->Prop}
theorem Az(ts:List T)(n:Nat):rm ts (some (n:Int)) none=ts.drop n:=by
 unfold rm;rw[HT.DW,HT.CI];by_cases h:n<=ts.length
 ·rw[O7 h,Mx];rw[K_];lia
 rw[OU (by lia),Pe (by lia),Pe (by lia),List.take_nil]
theorem cO(lo:Int)(n:Nat):(jN lo n).length=n:=by rw[jN,a_,Mo]
theorem fR{i:Nat}{t:T}(h:(jN lo n)[i]?=some t):i<n:=by have:=(c_.mp h).1;rwa[cO]at this
theorem pH{i:Nat}{t:T}(h:(jN lo n)[i]?=some t):t=.int (lo+(i:Int)):=by
 have hi:=fR h;rw[jN,B_,OA hi]at h;cases h
 rfl
theorem aM{α:Type}{g:α->T}{l:List α}{i:Nat}{t:T}(h:(l.map g)[i]?=some t):∃x,l[i]?=some x/\t=g x:=by
 rw[B_]at h;cases e:l[i]? with
 |none=>rw[e]at h;cases h
 |some x=>rw[e]at h;cases h;exact⟨x,rfl,rfl⟩
end
noncomputable def KP(f g:PSt):PSt:=fun pe env=>∃W:Ev->Prop,f {pe with nx:=W} env/\∀e,W e->g pe e
theorem dN{X:Cx}{κ:Nat->Bool}{st:RC}{rest:List RC}{f g:PSt}(h1:GS κ X st f)(h2:GSs κ X rest g):GSs κ X (st::rest) (KP f g):=by refine PSs.imp (bR h1 h2) ?_;rintro D σ H ⟨env,Fr,pe,rs,⟨W,q,w⟩,c⟩;refine⟨env,Fr,_,rs,q,⟨fun env' σ' H' q1 rs1 k1=>⟨env',Fr,pe,rs1,w _ q1,c.later k1⟩,c.rt,c.bk,c.ct⟩⟩
theorem gp{f g:PSt}{pe:PEn}{env:Ev}(W:Ev->Prop)(h1:f {pe with nx:=W} env)(h2:∀e,W e->g pe e):KP f g pe env:=⟨W,h1,h2⟩
theorem BL:∀(as bs:List T) (xs ys:List V) (n0:Nat) (Γ:Fm),as.length=xs.length->bs.length=ys.length->xs.length=ys.length->Rp K H (zz as xs++(zz bs ys++Γ))->(∀j x y,xs[j]?=some x->ys[j]?=some y->H (n0+j)=some (.tup [x,y]))->
  Rp K H (zz ((as.zip bs).map fun p=>T.tup [p.1,p.2]) ((NN n0 xs.length).map V.ref)++Γ):=by
 intro as;induction as with
 |nil=>
  intro bs xs ys n0 Γ l1 l2 l3 rp _;cases xs with
  |nil=>
   cases ys with
   |nil=>
    cases bs with
    |nil=>exact rp
    |cons b bs=>cases l2
   |cons y ys=>cases l3
  |cons x xs=>cases l1
 |cons a as ih=>
  intro bs xs ys n0 Γ l1 l2 l3 rp h;cases xs with
  |nil=>cases l1
  |cons x xs=>
   cases ys with
   |nil=>cases l3
   |cons y ys=>
    cases bs with
    |nil=>cases l2
    |cons b bs=>
     have rp1:Rp K H ((a,some x)::(zz as xs++((b,some y)::(zz bs ys++Γ)))):=rp;have rp2:Rp K H ((a,some x)::(b,some y)::(zz as xs++(zz bs ys++Γ))):=rp1.perm (.cons _ i_);have e0:=h 0 x y rfl rfl;have rp3:Rp K H ((.tup [a,b],some (.ref n0))::(zz as xs++(zz bs ys++Γ))):=eO (ts:=[a,b]) (vs:=[x,y]) rp2 rfl (fun _ _ q=>q) e0;have rp4:Rp K H (zz as xs++(zz bs ys++((.tup [a,b],some (.ref n0))::Γ))):=rp3.perm (by rw[<-l_,<-l_];exact i_.symm)
     have rp5:=ih bs xs ys (n0+1) _ (MN l1) (MN l2) (MN l3) rp4 fun j x' y' hx hy=>by have:=h (j+1) x' y' hx hy;rw[Nat.add_right_comm];exact this
     exact rp5.perm (by rw[h_,List.range'_succ];exact i_)
open PySem L2
def xU:P1s
 | [.dT _ kvs],k=>∃ks:List (List Int),kvs.map (·.1)=ks.map kI/\(∀q∈ks,q≠[])/\(ks.Nodup->k (.lst true (ks.map iT)))
 | _,_=>False
section
variable{X:Cx}
theorem sM:∀{bs:List QS}{kvs:List (List Key×V)}{ks:List (List Int)},S8 (fun(b:QS) (p:List Key×V)=>H b=some (.tup (p.1.map kV))) bs kvs->kvs.map (·.1)=ks.map kI->(∀k∈ks,k≠[])->Bb H (bs.map V.ref) ks:=by
 intro bs kvs ks h;induction h generalizing ks with
 |nil=>
  intro e _;cases ks with
  |nil=>exact .nil
  |cons a b=>simp at e
 |cons h t ih=>
  intro e hn;cases ks with
  |nil=>simp at e
  |cons a b=>
   rw[k_,k_,MK]at e;refine .cons ⟨hn a u_,_,rfl,?_⟩ (ih e.2 fun k hk=>hn k (n_ _ hk));rw[h,e.1,Lb]
theorem vP(hc:X.calm=true):fw X (.type "list") xU:=by
 rintro ac s σ H xs us Q I r ⟨ts,Γ,k,l,rp,g,c⟩;unfold xU at g;split at g
 ·rename_i k o kvs;obtain⟨x,rfl⟩:=zz1 l rfl;have rp:Rp X.K H ((.dT o kvs,some x)::Γ):=rp;obtain⟨a,vs,rfl,hq,ek,rp2⟩:=qQ rp;obtain⟨ks,e1,e2,kt⟩:=g;refine xZ hc ac s σ H _ us Q I r ⟨a,vs,rfl,hq,fun bs pr nd p H' hp g' e'=>?_⟩;have nd':ks.Nodup:=by rw[<-ek,e1]at nd;exact(LV.mp nd).imp fun{a b} h z=>h (by rw[z])
  refine c _ _ _ (kt nd') ?_;obtain⟨rp3,l3⟩:=ji (sM pr (by rw[<-ek];exact e1) e2) rp.tail;exact fu rp3 l3 hp g' e'
 exact Rb g
end
theorem BF{o:Bool}{kvs:List (List Key×T)}{k:T->Prop}:xU [.dT o kvs] k=∃ks:List (List Int),kvs.map (·.1)=ks.map kI/\(∀q∈ks,q≠[])/\(ks.Nodup->k (.lst true (ks.map iT))):=rfl
end PL
namespace L2
open PySem PySem.Spec PyProof.Rows
section
variable{X:Cx}
theorem AM(hc:X.calm=true):bE X (.builtin "sum") (fun xs H Q=>∃(a:QS) (ns:List Int),xs=[.ref a]/\SqL X.K H a (ns.map V.int)/\Q (.int ns.sum) H):=by
 intro ac s σ H xs us Q I r h;obtain⟨a,ns,rfl,hq,q⟩:=h;obtain⟨u,rfl,ru⟩:=vals1 r;cases ru;obtain⟨its,rv,p,z⟩:=I.list hq;obtain⟨ps,e1,e2⟩:=cg rv;subst e1;have hl:s.heap.IsList a (RL ps.toArray):=by
  have e:RL ps.toArray=(ps.map fun p=>SQ p.1 p.2).toArray:=by simp[RL]
  rw[e];exact p.isList
 have hlen:ps.length=ns.length:=by rw[<-e2];simp
 have k:∀i,i<=ns.length->preSum (Tg ps.toArray) i=(ns.take i).sum:=fun i=>by
  induction i with
  |zero=>exact fun _=>rfl
  |succ i ih=>
   intro hi;show preSum (Tg ps.toArray) i+Tg ps.toArray i=_;rw[ih (by lia),cN e2 hi,LU,d_ hi,List.sum_append_int];simp
 refine sum_intListG (I.ok.hd hc) hl fun h' tk t' hk=>?_;rw[o_,hlen,k _ (b_ _),w_];exact⟨.int _,H,I.kept (t':=tk) hk,⟨t',rfl⟩,q⟩
end
end L2
namespace PL
open PySem L2
def Iu:P1s
 | [.lst _ ts],k=>got (intsOf ts) fun ns=>k (.int ns.sum)
 | _,_=>False
section
variable{X:Cx}
theorem sG(hc:X.calm=true):fw X (.builtin "sum") Iu:=by
 rintro ac s σ H xs us Q I r ⟨ts,Γ,k,l,rp,g,c⟩;unfold Iu at g;split at g
 ·rename_i k o ts;obtain⟨x,rfl⟩:=zz1 l rfl;have rp:Rp X.K H ((.lst o ts,some x)::Γ):=rp;obtain⟨a,vs,rfl,hq,l2,rp2⟩:=mJ rp;obtain⟨ns,en,kt⟩:=aE g;have:=cC en;subst this;have:=dy l2 rp2;subst this;exact AM hc ac s σ H _ us Q I r ⟨a,ns,rfl,.inl hq,c _ _ _ kt (bQ rp.tail fun _=>.int)⟩
 exact Rb g
end
theorem jX{o:Bool}{ts:List T}{k:T->Prop}:Iu [.lst o ts] k=d6 (intsOf ts) (k:=⟨fun ns=>k (.int ns.sum)⟩):=rfl
end PL
namespace L2
open PySem PySem.Spec PyProof.Rows
def Itf(o:Obj)(d:QS):It:=
  ⟨fun i H=>∃kvs,Rd H d (.frz o (.dT kvs))/\i<kvs.length,
   fun i H v H'=>H'=H/\∀kvs,Rd H d (.frz o (.dT kvs))->∃k x b,kvs[i]?=some (k,x)/\v=.ref b/\H b=some (.tup (k.map kV)),
   fun i H=>∃kvs,Rd H d (.frz o (.dT kvs))/\kvs.length<=i⟩
theorem Fc{H:Hp}{d:QS}{o:Obj}{a b:List (List Key×V)}(h:Rd H d (.frz o (.dT a)))(g:Rd H d (.frz o (.dT b))):a=b:=by rcases h with h|⟨o1,h⟩ <;> rcases g with g|⟨o2,g⟩ <;> rw[h]at g <;> cases g <;> rfl
theorem vn{X:Cx}{ac:List (QS×Obj)}{σ:St}{H:Hp}{s:QV}{o:Obj}{d:QS}{kvs:List (List Key×V)}(I:Inv X ac σ H s)(e:Rd H d (.frz o (.dT kvs))) :
  s.heap.get? d=some o/\(d == RS)=false/\∃xs es ep,KT H kvs xs/\o.ExactDict/\o.data=.dict es ep/\es.toList=xs.map (U6 (Sl (b8 X.prog X.w)))/\es.size=kvs.length:=by
 obtain⟨h0,h1,h2,xs,kt,o',es,ep,g1,g2,g3,g4,g5⟩:=(show b6 X.prog X.w H s.heap d (.frz o (.dT kvs))from e.ok I.hok);rw[h0]at g1;cases g1;refine⟨h0,h2,xs,es,ep,kt,g2,g3,g4,?_⟩;rw[<-g_,g4,a_];exact(R' kt).symm
theorem wF{P:Q5}{w:Q8}{K:QT}{tg:Q9}(o:Obj)(d it:QS)(es:Array RX)(ep:Nat)(hdat:o.data=.dict es ep):Turn P w K tg (Itf o d) [it] it (fun i h=>h.IsKeyIter it d i es.size ep) where
 mem:=by simp
 obj:=fun i h st b hb=>by
  have e:b=it:=by simpa using hb
  subst e;obtain⟨oi,q1,q2,q3⟩:=st;exact⟨oi,q1,fun v z=>by rw[q3]at z;cases z⟩
 keep:=fun i h h' st k=>st.at fun oo e=>k it (by simp) oo e
 item:=by
  intro X hP hw hK hc i ac s σ H E I hf st hg;subst hP hw hK;obtain⟨kvs,hq,hx⟩:=hg;obtain⟨h0,h1,xs,es',ep',kt,g2,g3,g4,g5⟩:=vn I hq;rw[hdat]at g3;cases g3;obtain⟨f0,f1,f2,f3,f4,f5⟩:=hf it (by simp);have hi:i<es.size:=by lia
  have hxs:i<xs.length:=by rw[<-g_,g4,a_]at hi;exact hi
  have he:es[i]?=some (U6 (Sl (b8 X.prog X.w)) xs[i]):=by
   rw[<-gV,g4,B_,d_ hxs]
   rfl
  refine ZG.G9 st h0 hdat he fun h' st' sb=>?_;have I1:Inv X ac σ H {s with heap:=h'}:=I.turned (t':=s.toks) (fun b ob hb e=>(sb.2 b hb).trans e) f0 f1 f3 f4 f5;obtain⟨oi,q1,q2,q3⟩:=id st';refine⟨_,rfl,zU (s:={s with heap:=h'}) q1 q2 q3 (by decide) ⟨.ref xs[i].2.1,H,I1,rfl,⟨rfl,fun kvs' hk'=>?_⟩,st',fun b hb=>(hf b hb).1⟩⟩;cases Fc hq hk';obtain⟨p,p1,p2,p3,p4⟩:=qx kt (d_ hxs);exact⟨p.1,p.2,_,p1,rfl,p3⟩
 done:=by intro X hP hw hK hc i ac s σ H E I hf st hg;subst hP hw hK;obtain⟨kvs,hq,hx⟩:=hg;obtain⟨h0,h1,xs,es',ep',kt,g2,g3,g4,g5⟩:=vn I hq;rw[hdat]at g3;cases g3;obtain⟨f0,f1,f2,f3,f4,f5⟩:=hf it (by simp);exact ZG.Kn (I.ok.hd hc) st h0 hdat (by rw[Mh];lia) fun h' eb=>⟨rfl,I.turned (t':=s.toks) (fun b ob hb e=>eb b ob hb e) f0 f1 f3 f4 f5⟩
 self:=fun _ _ _ _ _ st h=>V0 st h
def K8(te:TE):TI:=fun σ H R=>te σ H fun x H1=>∃d kvs,x=.ref d/\((H1 d=some (.dT kvs)/\∀o H2,Put H1 d (.frz o (.dT kvs)) H2->R (Itf o d) H2)\/∃o,H1 d=some (.frz o (.dT kvs))/\R (Itf o d) H1)
theorem CW{X:Cx}{tg l:Q9}{tl:TE}(hl:PE X l tl):PI X tg l (K8 tl):=by
 intro ac s σ H R I h;refine thn (hl ac s σ H _ I h) ?_;rintro v s1 ⟨x,H1,I1,r1,q1⟩;obtain⟨d,kvs,e,q1⟩:=q1;subst e;cases r1;have key:∀(o:Obj) (H2:Hp),Inv X ac σ H2 s1->H2 d=some (.frz o (.dT kvs))->R (Itf o d) H2->QX (Q3 X.prog X.w) X.A (Uh (.ref d)) (PIE X ac σ tg R) X.xe s1:=fun o H2 I2 e2 q2=>by
  obtain⟨h0,h1,xs,es,ep,kt,g2,g3,g4,g5⟩:=E7 I2 e2;refine ZG.Gw h1 h0 g2 g3 ⟨s1.heap.objs.size,[s1.heap.objs.size],_,_,H2,rfl,I2.kept (t':=s1.toks) fun b ob z=>QW _ z,wF o d _ es ep g3,⟨_,Q0 _ rfl,rfl,rfl⟩,fun b hb=>?_,q2⟩;have e:b=s1.heap.objs.size:=by simpa using hb
  subst e;exact I2.wJ (b_ _) (I2.hok.fresh (b_ _))
 rcases q1 with⟨e1,q⟩|⟨o,e1,q⟩
 ·obtain⟨z,hd,xs,kt,o,es,ep,g1,g2,g3,g4,g5⟩:=(show b6 X.prog X.w H1 s1.heap d (.dT kvs)from I1.hok d _ e1);refine key o (upd H1 d (.frz o (.dT kvs))) ?_ aO (q o _ Put.up);refine p8 (h':=s1.heap) (t':=s1.toks) (ob:=.frz o (.dT kvs)) I1 (by rw[e1];exact SO) ⟨rfl,fun _ _=>rfl⟩ ⟨o,g1⟩ ⟨g1,z,hd,xs,KT.keeps kt fun c zs ec=>?_,o,es,ep,g1,g2,g3,g4,g5⟩;rw[aN (Dp ec e1 (fun z=>nomatch z))];exact ec
 exact key o H1 I1 e1 q
end L2
namespace PL
open PySem PySem.Spec PyProof.Rows L2
noncomputable def kyI:Key->T
 | .inl i=>.int i
 | .inr (some s)=>.str s
 | .inr none=>.non
def kyT(k:List Key):T:=.tup (k.map kyI)
noncomputable def kpG(o:Obj)(d:QS)(vs:List (List Key×V)):Hp:=fun b=>if b=d then some (.frz o (.dT vs))else none
variable {vs:List (List Key×V)}
section
variable{K:QT}
theorem zM{H H2:Hp}{d:QS}{o:Obj}{ts:List (List Key×T)}{Γ:Fm}(h:Rp K H ((.dT false ts,some (.ref d))::Γ))(h1:H d=some (.dT vs)\/H d=some (.frz o (.dT vs)))(h2:H2 d=some (.frz o (.dT vs)))(h3:∀b,b≠d->H2 b=H b):Rp K H2 ((.kp (kpG o d vs),some .non)::(.dT false ts,some (.ref d))::Γ):=by
 obtain⟨Hz,N,h,nd,g,dj⟩:=h;have hz:∃w,Hz d=some w:=by
  cases h with
  |cons e h c=>
   rcases h with⟨z,_⟩|⟨v,ev,h⟩
   ·cases z
   cases ev;cases h with
   |dTZ r _=>exact Rd.some r
 let Z:Hp:=fun b=>if b=d then some (.frz o (.dT vs))else Hz b
 have zd:Z d=some (.frz o (.dT vs)):=if_pos rfl;have ze:∀b,b≠d->Z b=Hz b:=fun b hb=>if_neg hb;have gz:Gr Hz Z:=fun b u r=>by
  by_cases e:b=d
  ·subst e;rcases g b u r with q|⟨o',q⟩ <;> rcases h1 with h1|h1 <;> rw[h1]at q <;> cases q
   ·exact .inr ⟨o,zd⟩
   ·exact .inl zd
   exact .inr ⟨o,zd⟩
  unfold Rd at *;rw[ze b e];exact r
 have gh:Gr Z H2:=fun b u r=>by
  by_cases e:b=d
  ·subst e;unfold Rd at *;rw[zd]at r;rw[h2];exact r
  unfold Rd at r;rw[ze b e]at r;have:=g b u r;unfold Rd at *;rw[h3 b e];exact this
 have hd:∀b∈N,b≠d:=fun b m z=>by obtain⟨w,e⟩:=hz;rw[<-z,dj b m]at e;cases e
 refine⟨Z,[]++N,.cons rfl (.inr ⟨_,rfl,.kp fun b u r=>?_⟩) (h.move (fun b xs e=>?_) gz fun b m u e=>?_),nd,gh,fun b m=>?_⟩
 ·by_cases e:b=d
  ·subst e;unfold Rd kpG at r;rw[if_pos rfl]at r;unfold Rd;rw[zd];exact r
  unfold Rd kpG at r;rw[if_neg e]at r;rcases r with r|⟨_,r⟩ <;> cases r
 ·by_cases z:b=d
  ·subst z;rcases h1 with h1|h1 <;> rw[h1]at e <;> cases e
  rw[h3 b z];exact e
 ·rw[h3 b (hd b m)];exact⟨e,fun n=>n⟩
 have m:b∈N:=m;rw[ze b (hd b m)];exact dj b m
theorem tP{H:Hp}{Γ:Fm}:∀(k:List Key),Rp K H Γ->Rp K H (zz (k.map kyI) (k.map kV)++Γ)
 | [],h=>h
 | .inl _::r,h=>bQ (tP r h) fun _=>.int
 | .inr (some _)::r,h=>bQ (tP r h) fun _=>.str
 | .inr none::r,h=>bQ (tP r h) fun _=>.non
theorem BY{o:Obj}{d:QS}:ItOk K (Itf o d) (vs.map fun p=>kyT p.1) [(.kp (kpG o d vs),some .non)] where
 turn:=fun i t H Γ ei rp=>by
  have rd:Rd H d (.frz o (.dT vs)):=by
   obtain⟨Hz,N,h,_,g,_⟩:=rp;cases h with
   |cons e h c=>
    rcases h with⟨z,_⟩|⟨v,ev,h⟩
    ·cases z
    cases h with
    |kp gr=>exact g _ _ (gr d _ (.inl (if_pos rfl)))
  rw[B_]at ei;cases e:vs[i]? with
  |none=>rw[e]at ei;cases ei
  |some p=>
   rw[e]at ei;cases ei;refine⟨⟨vs,rd,(c_.mp e).1⟩,fun x H' hy=>?_⟩;obtain⟨rfl,hy⟩:=hy;obtain⟨k,w,b,e1,rfl,hb⟩:=hy vs rd;rw[e]at e1;cases e1;exact eO (ts:=k.map kyI) (vs:=k.map kV) (tP k rp) (by rw[a_,a_]) .bY hb
 stop:=fun H Γ rp=>by
  have rd:Rd H d (.frz o (.dT vs)):=by
   obtain⟨Hz,N,h,_,g,_⟩:=rp;cases h with
   |cons e h c=>
    rcases h with⟨z,_⟩|⟨v,ev,h⟩
    ·cases z
    cases h with
    |kp gr=>exact g _ _ (gr d _ (.inl (if_pos rfl)))
  exact⟨vs,rd,by rw[a_];exact b_ _⟩
end
def Hg(fe:PF):PIt:=fun env k=>fe env fun t al=>match t with
 | .dT _ kvs=>k (kvs.map fun p=>kyT p.1) al
 | _=>False
section
variable{X:Cx}{pos:Pos}{e tg:Q9}{fe:PF}
theorem yO(h:GE X e fe):GI X tg e (Hg fe):=by
 rintro ac s σ H R I ⟨env,Fr,k,rs,q,c⟩;refine CW h ac s σ H R I ⟨env,Fr,_,rs,q,fun t al v H1 q1 rs1=>?_⟩;cases t <;> first|exact q1.elim|skip
 rename_i o ts;have rf:Rp X.K H1 ((.dT false (erT ts),some v)::(al.zip σ++Fr)):=qq rs1.head;obtain⟨d,vs,rfl,hq,ek,rp2⟩:=qQ rf;have ek2:ts.map (·.1)=vs.map (·.1):=by
  rw[<-ek];clear ek rf q1 rs1 rp2;induction ts with
  |nil=>rfl
  |cons a l ih=>rw[erT,k_,k_,ih]
 have e3:(ts.map fun p=>kyT p.1)=vs.map fun p=>kyT p.1:=by have:=congrArg (LO kyT) ek2;rw[z_,z_]at this;exact this
 have q1:k (ts.map fun p=>kyT p.1) al:=q1;rw[e3]at q1;refine⟨d,vs,rfl,?_⟩;rcases hq with hq|⟨ob,hq⟩
 ·refine .inl ⟨hq,fun ob H2 p=>c _ _ _ [(.kp (kpG ob d vs),some .non)] _ q1 ?_ BY⟩;have r:=zM (o:=ob) (H2:=H2) rf (.inl hq) p.at_ fun b hb=>p.else_ b hb;exact .of rs1.1 (r.perm (.swap _ _ _)).tail
 refine .inr ⟨ob,hq,c _ _ _ [(.kp (kpG ob d vs),some .non)] _ q1 ?_ BY⟩;have r:=zM (o:=ob) (H2:=H1) rf (.inr hq) hq fun b hb=>rfl;exact .of rs1.1 (r.perm (.swap _ _ _)).tail
end
noncomputable def asD(t:T)[k:Th (List (List Key×T)->Prop)]:Prop:=match t with
 | .dT _ kvs=>k.v kvs
 | _=>False
theorem pO{o:Bool}{kvs:List (List Key×T)}{k:Th (List (List Key×T)->Prop)}:asD (.dT o kvs) (k:=k)=k.v kvs:=rfl
theorem gq{env:Ev}{fe:PF}{ki:List T->Ev->Prop}:Hg fe env ki=fe env fun t al=>asD t (k:=⟨fun kvs=>ki (kvs.map fun p=>kyT p.1) al⟩):=by unfold Hg asD;refine congrArg (fe env) (funext fun t=>funext fun al=>?_);cases t <;> rfl
end PL
namespace ZT
open PySem
abbrev Up(l:List Nat):Prop:=l.Pairwise (·<·)
variable {i j:Nat}
theorem yi{l:List Nat}(h:Up l){x y:Nat}(hi:l[i]?=some x)(hj:l[j]?=some y)(hij:i<j):x<y:=by obtain⟨a,rfl⟩:=c_.mp hi;obtain⟨b,rfl⟩:=c_.mp hj;exact Nd.mp h i j a b hij
theorem uG{xs:Array Nat}{j:Nat}(hu:Up xs.toList):∀(f lo hi:Nat),lo<=hi->hi<=xs.size->hi-lo<=f->(∀k x,k<lo->xs[k]?=some x->x<j)->(∀k x,hi<=k->xs[k]?=some x->j<=x)->
  Ue xs j f lo hi<=xs.size/\(∀k x,k<Ue xs j f lo hi->xs[k]?=some x->x<j)/\∀k x,Ue xs j f lo hi<=k->xs[k]?=some x->j<=x
 |0,lo,hi,h1,h2,h3,a,b=>by
  have e:lo=hi:=by omega
  subst e;exact⟨h2,a,b⟩
 |f+1,lo,hi,h1,h2,h3,a,b=>by
  unfold Ue;by_cases hl:lo<hi
  ·rw[if_pos hl];have hm:(lo+hi)/2<xs.size:=by omega
   have e:xs.getD ((lo+hi)/2) j=xs[(lo+hi)/2]:=by rw[M7,j_ hm];rfl
   have em:xs.toList[(lo+hi)/2]?=some xs[(lo+hi)/2]:=by rw[gV];exact j_ hm
   dsimp only;rw[e];by_cases hx:xs[(lo+hi)/2]<j
   ·rw[if_pos hx];refine uG hu f _ _ (by omega) h2 (by omega) (fun k x hk ek=>?_) b;by_cases hk2:k=(lo+hi)/2
    ·subst hk2;rw[j_ hm]at ek;cases ek;exact hx
    exact Om (yi hu (by rw[gV];exact ek) em (by omega)) hx
   rw[if_neg hx];refine uG hu f _ _ (by omega) (by omega) (by omega) a fun k x hk ek=>?_
   by_cases hk2:k=(lo+hi)/2
   ·subst hk2;rw[j_ hm]at ek;cases ek;exact Md hx
   have:=yi hu em (by rw[gV];exact ek) (by omega);omega
  rw[if_neg hl];have e:lo=hi:=by omega
  subst e;exact⟨h2,a,b⟩
variable {xs:Array Nat}
theorem m7(j:Nat)(hu:Up xs.toList):RB xs j<=xs.size/\(∀k x,k<RB xs j->xs[k]?=some x->x<j)/\∀k x,RB xs j<=k->xs[k]?=some x->j<=x:=
 uG hu _ _ _ (E_ _) (b_ _) (by omega) (fun k x hk=>by omega) fun k x hk ek=>by rw[Mh hk]at ek;cases ek
theorem below_at(hu:Up xs.toList){x:Nat}(hi:xs[i]?=some x):RB xs (x+1)=i+1:=by
 obtain⟨h1,h2,h3⟩:=m7 (x+1) hu;have hlt:i<xs.size:=(M_.mp hi).1;have a:i<RB xs (x+1):=OV fun z=>by have:=h3 i x z hi;omega
 by_cases c:i+1<RB xs (x+1)
 ·have hn:i+1<xs.size:=by omega
  have:=h2 (i+1) _ c (j_ hn);have g:=yi hu (by rw[gV];exact hi) (by rw[gV];exact j_ hn) (Nk i);omega
 omega
theorem EO(hu:Up xs.toList):RB xs 0=0:=by
 obtain⟨h1,h2,h3⟩:=m7 0 hu;refine Nat.eq_zero_of_not_pos fun z=>?_;have hn:0<xs.size:=by omega
 have:=h2 0 _ z (j_ hn);omega
theorem Ah(hu:Up xs.toList)(hj:xs[RB xs j]?≠some j):Up (YK xs (RB xs j) j).toList:=by
 obtain⟨h1,h2,h3⟩:=m7 j hu;rw[X3];have sp:xs.toList=xs.toList.take (RB xs j)++xs.toList.drop (RB xs j):=(G_ _ _).symm;have hu':=hu;rw[sp]at hu';obtain⟨p,q,r⟩:=D_.mp hu';have lt:∀x∈xs.toList.take (RB xs j),x<j:=fun x hx=>by obtain⟨k,hk,e⟩:=Mg.mp hx;rw[C']at hk;rw[List.getElem_take]at e;exact h2 k x (by omega) (by rw[<-gV,c_];exact⟨by omega,e⟩)
 have gt:∀x∈xs.toList.drop (RB xs j),j<x:=fun x hx=>by
  obtain⟨k,hk,e⟩:=Mg.mp hx;rw[K_]at hk;rw[List.getElem_drop]at e;have e2:xs[RB xs j+k]?=some x:=by rw[<-gV,c_];exact⟨by omega,e⟩
  refine Nt (h3 _ x (by omega) e2) fun z=>?_
  subst z;by_cases k0:k=0
  ·subst k0;exact hj e2
  have hb:RB xs j<xs.size:=by rw[g_]at hk;omega
  have g:=yi hu (i:=RB xs j) (j:=RB xs j+k) (by rw[gV];exact j_ hb) (by rw[gV];exact e2) (by omega);have:=h3 _ _ (b_ _) (j_ hb);omega
 exact D_.mpr ⟨p,Mt.mpr ⟨gt,q⟩,fun a ha b hb=>by
  rcases p_.mp hb with e|hb
  ·rw[e];exact lt a ha
  exact r a ha b hb⟩
structure Gd (bt:Bool) (t:RQ):Prop where
 up:Up t.place.toList
 no:t.dummies=#[]
 led:bt=false->t.led=true
theorem Ci(bt:Bool)(f m:Nat):Gd bt (.fresh f m (!bt)):=⟨.nil,rfl,fun e=>by rw[e];rfl⟩
variable {t:RQ}
theorem mL{bt:Bool}(h:Gd bt t)(n:Nat):Gd bt (t.standIn n):=⟨by show Up (Array.range n).toList;rw[Array.toList_range];exact Oe,rfl,h.led⟩
theorem Kq{bt:Bool}(h:Gd bt t)(n:Nat):Gd bt (t.orStandIn n):=by
 unfold YH;split
 ·exact h
 exact mL h n
theorem FH(j:Nat):X4 #[] j=false:=rfl
theorem y9{bt:Bool}(h:Gd bt t)(e:t.slot j=.empty):t.place[RB t.place j]?≠some j:=fun z=>by unfold XG at e;dsimp only at e;rw[z,if_pos (beq_self_eq_true _)]at e;cases e
theorem oD{t:RQ}(hd:t.dummies=#[]){H:Nat->Int}{h:Int}:∀(f:Nat) (p:Y3) (j:Nat) (d:Option Nat),p.dummy=none->Wt t H h f p=some (.empty j d)->t.slot j=.empty/\d=none
 |0,p,j,d,_,e=>by cases e
 |f+1,p,j,d,hp,e=>by
  unfold Wt at e;split at e
  ·rename_i z;cases e;exact⟨z,hp⟩
  ·rename_i z;unfold XG at z;dsimp only at z;rw[hd,FH]at z;split at z <;> first|cases z|(rename_i q;split at z <;> cases z)
  have ad:(t.advance p).dummy=none:=by unfold YT;split <;> exact hp
  split at e
  ·cases e
  exact oD hd f _ j d ad e
theorem IF{bt:Bool}(h:Gd bt t)(e:t.slot j=.empty):Gd bt (t.put j).1:=by
 refine⟨Ah h.up (y9 h e),?_,h.led⟩;show(if X4 t.dummies j then _ else t.dummies)=#[];rw[h.no]
 rfl
theorem Ht{bt:Bool}(h:Gd bt t)(es:Array (Int×QR))(k:Int)(x:QR):Gd bt (layNew t es k x).2.1:=by
 unfold layNew;split
 ·rename_i slot wd e;have hs:t.slot slot=.empty:=by
   unfold YL at e;split at e
   ·rename_i j d q;cases e;obtain⟨a,b⟩:=oD h.no _ _ _ _ rfl q;rw[b];exact a
   cases e
  exact Kq (IF h hs) _
 exact mL h _
theorem BA{bt:Bool}(h:Gd bt t)(es:Array (Int×QR))(n:Nat):Gd bt (Vh t es n).2.1:=by
 unfold Vh;split
 ·rename_i t' order e;dsimp only;split
  ·unfold Y0 Y5 at e;cases q:YM (Wm n-1) (es.map fun x=>x.1)with
   |none=>rw[q]at e;cases e
   |some ow=>
    rw[q]at e;cases e;refine⟨?_,rfl,h.led⟩;show List.Pairwise (fun x y=>x<y) (LO (fun x=>x.1) (List.filterMap (fun j=>(ow.getD j none).map fun y=>(j,y)) (B' (Wm n-1+1))));rw[LV,List.pairwise_filterMap];refine P6 (fun{a b} hab c hc d hd=>?_) Oe;obtain⟨_,_,ec⟩:=Oa.mp hc;obtain⟨_,_,ed⟩:=Oa.mp hd;rw[<-ec,<-ed];exact hab
  exact mL h _
 exact mL h _
open PySem PyProof.Rows
variable {S:Int->Prop}{a:QS}{ep m:Nat}{es:Array (Int×QR)}{h:Q_}{ns:List Int}{o:Obj}{vs:List QR}
section
variable{prog:Q5}{w:Q8}{A:Rh}{E:QR->QV->Prop}{s:QV}
noncomputable abbrev bt(w:Q8):Bool:=w.params.followText "set-order"
structure SI (prog:Q5) (w:Q8) (o:Obj) (ks:List Int) (es:Array (Int×QR)) (ep:Nat) (t:RQ):Prop where
 ex:o.ExactSet
 dat:o.data=.set es ep t
 el:ElemsOf (Tj prog w) es.toList
 rd:So (es.toList.map (·.2)) ks
 nd:ks.Nodup
 sm:es.size<scanBound
 ft:t.fits es.size=true
 gd:Gd (bt w) t
noncomputable def SG(prog:Q5)(w:Q8)(h:Q_)(a:QS)(S:Int->Prop)(n:Nat):Prop:=∃o ks es ep t,h.get? a=some o/\SI prog w o ks es ep t/\(∀z,z∈ks↔S z)/\ks.length<=n
theorem nh:∀{vs:List QR}{ns:List Int},So vs ns->vs.length=ns.length
 | _,_,.nil=>rfl
 | _,_,.cons n t h=>by rw[h_,h_,nh h]
theorem IQ{k i:Int}{t:Tok}:(Tj prog w).is k (.int i t)=decide (k=i):=KeyKind.is_eq_decide (V1 prog w i t) k
theorem qu:∀{es:List (Int×QR)}{ks:List Int},So (es.map (·.2)) ks->∀k,k∈ks↔∃e∈es,(Tj prog w).is k e.2=true
 | [],_,.nil,k=>⟨fun h=>(nomatch h),fun⟨e,h,_⟩=>(nomatch h)⟩
 | (h0,_)::es,_,.cons n t h,k=>by
  rw[p_,qu h k];constructor
  ·rintro(rfl|⟨e,m,q⟩)
   ·exact⟨_,.head _,V1 _ _ _ _⟩
   exact⟨e,.tail _ m,q⟩
  rintro⟨e,m,q⟩;rcases p_.mp m with rfl|m
  ·exact .inl (of_decide_eq_true (by rw[<-IQ (prog:=prog) (w:=w) (t:=t)];exact q))
  exact .inr ⟨e,m,q⟩
theorem jz:∀{us vs:List QR},us.Perm vs->∀{ns:List Int},So us ns->∃ms,So vs ms/\ns.Perm ms:=by
 intro us vs p;induction p with
 |nil=>exact fun h=>⟨_,h,.refl _⟩
 |cons x p ih=>
  intro ns h;cases h with
  |cons n t h=>
   obtain⟨ms,a,b⟩:=ih h;exact⟨n::ms,.cons n t a,.cons n b⟩
 |swap x y l=>
  intro ns h;cases h with
  |cons n t h=>
   cases h with
   |cons m u h=>exact⟨_,.cons m u (.cons n t h),.swap _ _ _⟩
 |trans p q ih jh=>
  intro ns h;obtain⟨ms,a,b⟩:=ih h;obtain⟨ls,c,d⟩:=jh a;exact⟨ls,c,b.trans d⟩
theorem A8{n:Int}{t:Tok}(h:So vs ns):So (vs++[.int n t]) (ns++[n]):=by
 induction h with
 |nil=>exact .cons n t .nil
 |cons m u h ih=>exact .cons m u ih
theorem stored{es':Array (Int×QR)}{t':RQ}(ho:h.get? a=some o)(hd:o.data=.set es ep t) :
  (h.update a (W6 es' t')).get? a=some {o with data:=.set es' (ep+1) t'}:=by
 have e:=Rr (W6 es' t') ho (by rw[putSet_of es' t' hd];rfl);rw[putSet_of es' t' hd]at e;exact e
theorem vz{g:Bool->Sem Unit}(hg:∀(b:Bool) (s₁:QV) (Q':Unit->QV->Prop),Q' () s₁->QX (Q3 prog w) A (g b) Q' E s₁)
  {a:QS}{o:Obj}{es es1:Array (Int×QR)}{ep:Nat}{t t2:RQ}{ks:List Int} (ho:s.heap.get? a=some o) (hd:o.data=.set es ep t)
  (hI:SI prog w {o with data:=.set es1 (ep+1) t2} ks es1 (ep+1) t2) {wd:Bool} {R:Option Bool->QV->Prop}
  (h:∀h' o' es' ep' t' ks',Rq a s.heap h'->h'.get? a=some o'->SI prog w o' ks' es' ep' t'->ks'.Perm ks->R (some true) {s with heap:=h'}) :
  QX (Q3 prog w) A (storeSet a es1 t2 >>= fun _=>if(!wd&&t2.tooFull)=true then g (Vh t2 es1 (S7 es1.size)).2.2 >>= fun _=>storeSet a (Vh t2 es1 (S7 es1.size)).1 (Vh t2 es1 (S7 es1.size)).2.1 >>= fun _=>pure (some true)else pure (some true)) R E s:=by
 refine QQ (Wu ho hd ?_ (Tu hI.sm));have e1:=stored (es':=es1) (t':=t2) ho hd;have b1:=RF s.heap a (W6 es1 t2);split
 ·have hp:=relayAll_perm t2 es1 (S7 es1.size);have hf:=relayAll_fits t2 es1 (S7 es1.size);have hG:=BA hI.gd es1 (S7 es1.size);generalize Vh t2 es1 (S7 es1.size)=Rl at hp hf hG ⊢;obtain⟨es2,t3,gave⟩:=Rl;dsimp only at hp hf hG ⊢;have sz:es2.size=es1.size:=by rw[<-g_,hp.length_eq,g_]
  have sm2:es2.size<scanBound:=by rw[sz];exact hI.sm
  obtain⟨ks2,rd2,kp⟩:=jz (hp.symm.map (·.2)) hI.rd;refine QQ (hg _ _ _ (QQ (Wu e1 rfl ?_ (Tu sm2))));have e2:=stored (es':=es2) (t':=t3) e1 rfl;exact QU (h _ _ es2 _ t3 ks2 (b1.trans (RF _ a _)) e2 ⟨hI.ex,rfl,hI.el.perm hp,rd2,kp.nodup_iff.mp hI.nd,sm2,hf,hG⟩ kp.symm)
 exact QU (h _ _ es1 _ t2 ks b1 e1 hI (.refl _))
theorem add_int{n:Int}{tk:Tok}{Q:Bool->QV->Prop}(hS:SG prog w s.heap a S m)(hm:m+1<scanBound)
  (h:∀b h',Rq a s.heap h'->SG prog w h' a (fun z=>S z\/z=n) (m+1)->Q b {s with heap:=h'}) :
  QX (Q3 prog w) A (X5 a (.int n tk) ((Tj prog w).hash n)) Q E s:=by
 obtain⟨o,ks,es,ep,t,ho,I,mem,kl⟩:=hS;have kn:es.size=ks.length:=by rw[<-nh I.rd,a_,g_]
 have hk:=V1 prog w n tk;unfold X5 setAddHashedIn;refine Rm (QQ (S5 ho I.dat I.ft ?_));dsimp only;rw[byScan_of rfl I.sm I.el,if_pos rfl];unfold setAddByScan;refine QQ (QQ (Sy (QQ (wpAny_setScan_of hk ho I.dat I.ft I.el ?_))));cases hr:List.findIdx? (fun e=>(Tj prog w).is n e.2) es.toList with
 |some j=>
  dsimp only;obtain⟨hj,pj,_⟩:=List.findIdx?_eq_some_iff_getElem.mp hr;have hn:n∈ks:=(qu (prog:=prog) (w:=w) I.rd n).mpr ⟨_,MQ hj,pj⟩;refine QU (QU ?_);exact h _ s.heap (YN a s.heap) ⟨o,ks,es,ep,t,ho,I,fun z=>by rw[mem z];exact⟨.inl,fun q=>q.elim id fun e=>by rw[e];exact(mem n).mp hn⟩,by omega⟩
 |none=>
  dsimp only;have hn:n ∉ ks:=fun z=>by obtain⟨e,me,q⟩:=(qu (prog:=prog) (w:=w) I.rd n).mp z;have:=List.findIdx?_eq_none_iff.mp hr e me;rw[q]at this;cases this
  have pm:=layNew_perm t es ((Tj prog w).hash n) (.int n tk);have ft:=layNew_fits t es ((Tj prog w).hash n) (.int n tk);have gd:=Ht I.gd es ((Tj prog w).hash n) (.int n tk);generalize layNew t es ((Tj prog w).hash n) (.int n tk)=L at pm ft gd ⊢;obtain⟨es1,t1,wd,gave⟩:=L;dsimp only at pm ft gd ⊢;rw[MV]at pm;have s1:es1.size=es.size+1:=by rw[<-g_,pm.length_eq,e_,g_];rfl
  have el1:ElemsOf (Tj prog w) es1.toList:=(I.el.push hk rfl).perm pm;have rdp:So (LO (·.2) (es.toList++[((Tj prog w).hash n,SQ n tk)])) (ks++[n]):=by rw[q_];exact A8 I.rd
  obtain⟨ks1,rd1,kp⟩:=jz (pm.symm.map (·.2)) rdp;have nd1:ks1.Nodup:=kp.nodup_iff.mp (Mz.mpr ⟨I.nd,F_.mpr ⟨(nomatch ·),MG⟩,fun x hx y hy e=>by rw[A_.mp hy]at e;exact hn (e▸hx)⟩);have fin:∀h' o' es' ep' t' ks',Rq a s.heap h'->h'.get? a=some o'->SI prog w o' ks' es' ep' t'->ks'.Perm ks1->Q true {s with heap:=h'}:=fun h' o' es' ep' t' ks' b g I' p=>by
   refine h _ h' b ⟨o',ks',es',ep',t',g,I',fun z=>?_,?_⟩
   ·rw[p.mem_iff,<-kp.mem_iff,x_,mem z,A_]
   rw[p.length_eq,<-kp.length_eq,e_];exact Qc kl
  have gw:∀(b:Bool) (s₁:QV) (Q':Unit->QV->Prop),Q' () s₁->QX (Q3 prog w) A (match b with|true=>rule "set.scan.the-table-gave-way" |false=>pure ()) Q' E s₁:=fun b s₁ Q' q=>by cases b <;> first|exact QU q|exact Sy q
  refine QQ (?_:QX _ _ (match gave with|true=>_|false=>_) _ _ _);have sm1:es1.size<scanBound:=by omega
  refine gw gave s _ ?_;split
  ·refine QQ ?_;rw[hashByValue_scannable 8 (x:=.int n tk) rfl];refine QU ?_;refine vz (ks:=ks1) gw ho I.dat ⟨I.ex,rfl,el1,rd1,nd1,sm1,?_,?_⟩ fun h' o' es' ep' t' ks' b g I' p=>QU (fin h' o' es' ep' t' ks' b g I' p)
   ·exact ft
   exact gd
  refine QQ (QU ?_);rw[if_pos rfl];exact vz (ks:=ks1) gw ho I.dat ⟨I.ex,rfl,el1,rd1,nd1,sm1,ft,gd⟩ fun h' o' es' ep' t' ks' b g I' p=>QU (fin h' o' es' ep' t' ks' b g I' p)
end
open PySem PyProof.Rows
theorem Es:WK Yr "set.__iter__"=some RW.«frozenset.__iter__»:=Xn (id':="frozenset.__iter__") (by kernel_rfl) rfl (by rfl') (by kernel_rfl)
theorem eZ:Xe "set_iterator" "__next__" "set_iterator.__next__":=
 .of (owner:="set_iterator") (n:="__next__") (by rw[Vu,Ux];kernel_rfl) (by rfl') (by rfl') (by rfl') (by first|exact .inl (by rfl')|exact .inr (by rfl')) (by rw[VM];kernel_rfl)
theorem zZ:Xe "set_iterator" "__iter__" "set_iterator.__iter__":=
 .of (owner:="set_iterator") (n:="__iter__") (by rw[Vu,Ux];kernel_rfl) (by rfl') (by rfl') (by rfl') (by first|exact .inl (by rfl')|exact .inr (by rfl')) (by rw[VM];kernel_rfl)
theorem F9:WK Yr "set_iterator.__iter__"=some RW.«dict_keyiterator.__iter__»:=Xn (id':="dict_keyiterator.__iter__") (by kernel_rfl) rfl (by rfl') (by kernel_rfl)
theorem yw:WK Yr "set_iterator.__next__"=some RW.«set_iterator.__next__»:=WL (by kernel_rfl)
theorem Gx:Y1.lookup (String.ofList ['r','o','t','a','r','e','t','i','_','t','e','s'].reverse)=some XR:=by kernel_rfl
theorem zt(a:QR):X6 "set_iterator.__next__" ⟨[a],[]⟩:=by unfold X6;rw[XH (id:="set_iterator.__next__") (n:=['_','_','t','x','e','n','_','_']) (o:=['r','o','t','a','r','e','t','i','_','t','e','s']) (by kernel_rfl) Gx];kernel_rfl
theorem Fw(a:QR):X6 "set_iterator.__iter__" ⟨[a],[]⟩:=by unfold X6;rw[XH (id:="set_iterator.__iter__") (n:=['_','_','r','e','t','i','_','_']) (o:=['r','o','t','a','r','e','t','i','_','t','e','s']) (by kernel_rfl) Gx];kernel_rfl
theorem uo{α:Type}:∀{l:List α}{i:Nat} (h:i<l.length),(l[i]::l.eraseIdx i).Perm l
 |x::l,0,_=>.refl _
 |x::l,i+1,h=>by have g:i<l.length:=Nat.lt_of_succ_lt_succ h;show(l[i]::x::l.eraseIdx i).Perm (x::l);exact(M3 ..).trans (.cons x (uo g))
theorem rR{α:Type}{next:Nat->Nat}:∀(f k:Nat) (l:List α) (out:Array α),l.length=f->(X7 next f k l out).toList.Perm (out.toList++l)
 |0,k,l,out,h=>by rw[Mf h,I_];exact .refl _
 |f+1,k,l,out,h=>by
  unfold X7;have lt:next k%l.length<l.length:=QO _ (by omega)
  rw[d_ lt];refine(rR f _ _ _ (by rw[OJ lt];omega)).trans ?_;rw[MV,l_];refine Mk _ ?_;exact uo lt
variable {Q:QR->QV->Prop}{f:QR}{it:QS}{n:Nat}{sl:Nat->Nat}
section
variable{prog:Q5}{w:Q8}{A:Rh}{E:QR->QV->Prop}{s:QV}
theorem wp_choose{src:Source}{Q:Nat->QV->Prop}(hn:n≠0)(h:∀i d,i<n->Q i {s with drawn:=d}):QX (Q3 prog w) A (choose src n) Q E s:=
 fun _ _ _=>⟨hn,h _ _ (QO _ (Ml hn))⟩
theorem yD{α:Type}:∀(n:Nat) (xs:List α) {s:QV}{Q:List α->QV->Prop},xs.length=n->(∀ys d,ys.Perm xs->Q ys {s with drawn:=d})->QX (Q3 prog w) A (drawOrder n xs) Q E s
 |0,xs,s,Q,hl,h=>by rw[Mf hl]at h ⊢;exact QU (h [] s.drawn (.refl _))
 |n+1,[],s,Q,hl,h=>by cases hl
 |n+1,x::xs,s,Q,hl,h=>by unfold drawOrder;refine QQ (wp_choose (by simp) fun i d hi=>?_);rw[d_ hi];dsimp only;refine QQ (yD n _ (by rw[OJ hi,hl];rfl) fun ys d' p=>QU (h _ d' ?_));exact(OB _ p).trans (uo hi)
noncomputable def Itr(h:Q_)(it:QS)(first:QR)(i:Nat)(a:QS)(n ep:Nat):Prop:=∃o,h.get? it=some o/\o.cls=.type "set_iterator"/\o.data=.fields #[first,.int i 0,.ref a,.int n 0,.int ep 0]
theorem Itr.ty (x:Itr s.heap it f i a n ep):s.TypeIs (.ref it) "set_iterator":=let ⟨o,ho,hc,_⟩:=x;⟨o,ho,hc⟩
theorem Itr.at {h':Q_}(x:Itr h it f i a n ep)(e:∀o,h.get? it=some o->h'.get? it=some o):Itr h' it f i a n ep:=let ⟨o,ho,r⟩:=x;⟨o,e _ ho,r⟩
theorem zR(x:Itr s.heap it f i a n ep)(h:Q (.ref it) s):QX (Q3 prog w) A (Uh (.ref it)) Q E s:=by refine Uc x.ty zZ (Rz zZ x.ty F9 ?_ (Fw _));show QX _ _ (ret (.ref it)) _ _ s;exact QU ⟨_,rfl,"set_iterator",_,x.ty,eZ.lookup,h⟩
noncomputable def Nx(prog:Q5)(w:Q8)(a:QS)(o:Obj)(ep:Nat)(vs:List QR)(sl:Nat->Nat):Prop:=∀(A:Rh) (E:QR->QV->Prop) (s:QV) (i:Nat) (Q:Option (QR×Nat)->QV->Prop),s.heap.get? a=some o->i<=vs.length->Q (vs[i]?.map fun v=>(v,sl (i+1))) s->QX (Q3 prog w) A (Xo a (sl i) i ep) Q E s
theorem zm{Q:Option QR->QV->Prop}(x:Itr s.heap it (.int (sl i) 0) i a es.size ep)(ho:s.heap.get? a=some o)(hd:o.data=.set es ep t)(hf:t.fits es.size=true)(N:Nx prog w a o ep vs sl)(hi:i<=vs.length)(hh:A.handled=none)
  (h1:∀v h',vs[i]?=some v->Itr h' it (.int (sl (i+1)) 0) (i+1) a es.size ep->Rq it s.heap h'->Q (some v) {s with heap:=h'}) (h2:∀h',vs[i]?=none->Tq it s.heap h'->Q none {s with heap:=h'}):QX (Q3 prog w) A (R7 (.ref it)) Q E s:=by
 obtain⟨oi,hoi,hc,hdi⟩:=id x;unfold R7;refine QQ (RZ (Ry (name:=RP "__next__") x.ty eZ (Rz eZ x.ty yw ?_ (zt _))));unfold RW.«set_iterator.__next__»;refine QQ (QU (QQ (Tx hoi hdi ?_)));show QX _ _ (setEntries a >>= _) _ _ s;refine QQ (UM ho hd hf ?_);rw[if_neg (show ¬_ by simp)];show QX _ _ (Xo a _ _ _ >>= _) _ _ s;refine QQ ?_;rw[LR,LR,LR];refine N _ _ _ i _ ho hi ?_;cases e:vs[i]? with
 |some v=>
  dsimp only[NK];refine QQ (R0 hoi hdi (by simp) ?_);have e1:=Rr (TF (·.setIfInBounds 0 (RH (sl (i+1))))) hoi (Sw (RD hdi _));refine QQ (R0 e1 (RD hdi _) (by simp) ?_);have e2:=Rr (TF (·.setIfInBounds 1 (RH ((i:Int)+1)))) e1 (Sw (RD (RD hdi _) _));refine QU ⟨_,rfl,QU (h1 v _ e ⟨_,e2,((Tt ..).trans (Tt ..)).trans hc,?_⟩ ((RF ..).trans (RF ..)))⟩;rw[RD (RD hdi _)];simp[RH]
 |none=>
  dsimp only[NK];refine QQ (R0 hoi hdi (by simp) (show QX _ _ (UD (.type "StopIteration") [] >>= _) _ _ _ from QQ ?_));simp only[UD,VU];refine QQ (Ri (QQ (m:=Sd _ _) (Tr (a:=Rn) (by first|rfl|(simp only[Sd];rfl)) (Ri ?_ (by size_fits)))) (by size_fits));simp only[VX];refine QQ (Us ?_);rw[show A.in1.handled=none from hh];refine QQ (QU (UT ?_));refine QQ (Tb (T:="StopIteration") (b:=true) (by exact⟨_,Q0 _ rfl,rfl⟩) T8 (QU ?_));exact h2 _ e (((RF ..).extBut.push _).push _)
theorem C8(hne:a≠it)(hd:o.data=.set es ep t)(hf:t.fits es.size=true)(N:Nx prog w a o ep vs sl)(hh:A.handled=none) :
  Yt prog w A it [it,a] [it] vs.length (fun i v=>vs[i]?=some v) (fun i h=>i<=vs.length/\Itr h it (.int (sl i) 0) i a es.size ep/\h.get? a=some o) where
 sub:=fun b hb=>by simp at hb;simp[hb]
 frame:=fun _ _ _ st hk=>⟨st.1,st.2.1.at fun o e=>hk it (by simp) o e,hk a (by simp) o st.2.2⟩
 item:=fun i s Q E hi st hQ=>zm st.2.1 st.2.2 hd hf N st.1 hh (fun v h' e x sb=>hQ v h' s.toks e ⟨hi,x,sb.extBut a o hne st.2.2⟩ fun b o hb e=>sb.extBut b o (fun z=>hb (by simp[z])) e) fun h' e=>by rw[d_ hi]at e;cases e
 done:=fun s Q E st hQ=>zm st.2.1 st.2.2 hd hf N st.1 hh (fun v h' e=>by rw[NF (b_ _)]at e;cases e) fun h' _ eb=>hQ h' s.toks fun b o hb e=>eb b o (fun z=>hb (by simp[z])) e
 self:=fun _ _ _ _ st hQ=>zR st.2.1 hQ
end
open PySem PyProof.Rows
variable {ks:List Int}{ps:List Nat}
section
variable{prog:Q5}{w:Q8}{A:Rh}{E:QR->QV->Prop}{s:QV}
theorem wp_text{Q:Bool->QV->Prop}(h:Q (bt w) s):QX (Q3 prog w) A setsByText Q E s:=QQ (Vi (QU h))
theorem DL:(es.toList.map (·.2))[i]?=es[i]?.map (·.2):=by rw[B_,gV]
theorem Eu(I:SI prog w o ks es ep t)(hb:bt w=true) :
  Nx prog w a o ep ((pickOrder (w.params.setOrder a ep) es).toList.map (·.2)) (fun _=>0):=by
 intro A E s i Q ho hi h;unfold Xo;refine QQ (S5 ho I.dat I.ft (QQ (wp_text ?_)));rw[hb,if_pos rfl];dsimp only;rw[if_neg (by simp)];refine QQ ?_;unfold setWalk;refine QQ (S5 ho I.dat I.ft (QQ (wp_text ?_)));rw[hb,if_pos rfl];refine QQ (Vi (QU (QU ?_)));rw[DL,Option.map_map]at h;exact h
noncomputable def slP(t:RQ):Nat->Nat
 |0=>0
 |i+1=>t.place.getD i 0+1
theorem DC(I:SI prog w o ks es ep t)(hb:bt w=false)(hdr:(!t.plain&&decide (es.size > 1))=false) :
  Nx prog w a o ep (es.toList.map (·.2)) (slP t):=by
 intro A E s i Q ho hi h;have hz:t.place.size=es.size:=by have:=I.ft;unfold Y6 at this;simp at this;exact this.1
 unfold Xo;refine QQ (S5 ho I.dat I.ft (QQ (wp_text ?_)));rw[hb,if_neg (by simp)];dsimp only;refine Sz (fun z=>absurd (show(!t.plain&&decide (es.size > 1))=true from z) (by rw[hdr];simp)) fun _=>QQ ?_
 show QX _ _ (if(!t.led&&!es.isEmpty)=true then _ else _) _ _ _;rw[I.gd.led hb,if_neg (by simp)];refine QU ?_;have eb:RB t.place (slP t i)=i:=by
  match i,hi with
  |0,_=>exact EO I.gd.up
  |i+1,hi=>
   have hi:i<t.place.size:=by rw[a_,g_]at hi;omega
   have e:t.place[i]?=some (t.place.getD i 0):=by rw[j_ hi,M7,j_ hi];rfl
   exact below_at I.gd.up e
 rw[eb];refine QU ?_;rw[DL]at h;by_cases c:i<es.size
 ·rw[j_ c,j_ (show i<t.place.size by omega)];rw[j_ c]at h;have e:slP t (i+1)=t.place[i]+1:=by show t.place.getD i 0+1=_;rw[M7,j_ (by omega)];rfl
  dsimp only[NK]at h;rw[e]at h;exact h
 rw[Mh (by omega)];rw[Mh (by omega)]at h;exact h
theorem zY{tp:QS}{ot:Obj}{c:Nat}{Q:Option QR->QV->Prop}(x:Itr s.heap it (.ref tp) i a es.size ep)(ho:s.heap.get? a=some o)(hd:o.data=.set es ep t)(hf:t.fits es.size=true)(hot:s.heap.get? tp=some ot)(hdt:ot.data=.seq (ps.map fun(j:Nat)=>RH j).toArray c)(hps:∀p∈ps,p<es.size)(hh:A.handled=none)
  (h1:∀p v h',ps[i]?=some p->(es[p]?.map (·.2))=some v->Itr h' it (.ref tp) (i+1) a es.size ep->Rq it s.heap h'->Q (some v) {s with heap:=h'}) (h2:∀h',ps[i]?=none->Tq it s.heap h'->Q none {s with heap:=h'}):QX (Q3 prog w) A (R7 (.ref it)) Q E s:=by
 obtain⟨oi,hoi,hc,hdi⟩:=id x;unfold R7;refine QQ (RZ (Ry (name:=RP "__next__") x.ty eZ (Rz eZ x.ty yw ?_ (zt _))));unfold RW.«set_iterator.__next__»;refine QQ (QU (QQ (Tx hoi hdi ?_)));show QX _ _ (setEntries a >>= _) _ _ s;refine QQ (UM ho hd hf ?_);rw[if_neg (show ¬_ by simp)];show QX _ _ (Vt (.ref tp) >>= _) _ _ s;unfold Vt;refine QQ (QQ (VP hot ?_));rw[hdt];refine QU ?_;dsimp only;rw[LR,LR];have ea:((ps.map fun(j:Nat)=>RH j).toArray)[i]?=ps[i]?.map fun(j:Nat)=>RH j:=by rw[List.getElem?_toArray,B_]
 rw[ea];cases e:ps[i]? with
 |some p=>
  have hp:=hps p (F' e);dsimp only[NK,RH];unfold setNextDrawn;refine QQ (QQ (S5 ho hd hf ?_));dsimp only;rw[if_neg (by simp),LR,j_ hp];refine QU (QQ (R0 hoi hdi (by simp) ?_));have e1:=Rr (TF (·.setIfInBounds 1 (RH ((i:Int)+1)))) hoi (Sw (RD hdi _));refine QU ⟨_,rfl,QU (h1 p _ _ e (by rw[j_ hp];rfl) ⟨_,e1,(Tt ..).trans hc,?_⟩ (RF ..))⟩;rw[RD hdi _];simp[RH]
 |none=>
  dsimp only[NK];refine QQ (R0 hoi hdi (by simp) ?_);have e1:=Rr (TF (·.setIfInBounds 0 (RH 0))) hoi (Sw (RD hdi _));refine QQ (R0 e1 (RD hdi _) (by simp) (show QX _ _ (UD (.type "StopIteration") [] >>= _) _ _ _ from QQ ?_));simp only[UD,VU];refine QQ (Ri (QQ (m:=Sd _ _) (Tr (a:=Rn) (by first|rfl|(simp only[Sd];rfl)) (Ri ?_ (by size_fits)))) (by size_fits));simp only[VX];refine QQ (Us ?_);rw[show A.in1.handled=none from hh];refine QQ (QU (UT ?_));refine QQ (Tb (T:="StopIteration") (b:=true) (by exact⟨_,Q0 _ rfl,rfl⟩) T8 (QU ?_));exact h2 _ e ((((RF ..).trans (RF ..)).extBut.push _).push _)
theorem Bm{tp:QS}(hne:a≠it)(hnt:tp≠it){ot:Obj}{c:Nat}(hd:o.data=.set es ep t)(hf:t.fits es.size=true)(hdt:ot.data=.seq (ps.map fun(j:Nat)=>RH j).toArray c)(hps:∀p∈ps,p<es.size)(hh:A.handled=none) :
  Yt prog w A it [it,a,tp] [it] ps.length (fun i v=>∃p,ps[i]?=some p/\es[p]?.map (·.2)=some v) (fun i h=>Itr h it (.ref tp) i a es.size ep/\h.get? a=some o/\h.get? tp=some ot) where
 sub:=fun b hb=>by simp at hb;simp[hb]
 frame:=fun _ _ _ st hk=>⟨st.1.at fun o e=>hk it (by simp) o e,hk a (by simp) o st.2.1,hk tp (by simp) ot st.2.2⟩
 item:=fun i s Q E hi st hQ=>zY st.1 st.2.1 hd hf st.2.2 hdt hps hh (fun p v h' e1 e2 x sb=>hQ v h' s.toks ⟨p,e1,e2⟩ ⟨x,sb.extBut a o hne st.2.1,sb.extBut tp ot hnt st.2.2⟩ fun b o hb e=>sb.extBut b o (fun z=>hb (by simp[z])) e) fun h' e=>by rw[d_ hi]at e;cases e
 done:=fun s Q E st hQ=>zY st.1 st.2.1 hd hf st.2.2 hdt hps hh (fun p v h' e=>by rw[NF (b_ _)]at e;cases e) fun h' _ eb=>hQ h' s.toks fun b o hb e=>eb b o (fun z=>hb (by simp[z])) e
 self:=fun _ _ _ _ st hQ=>zR st.1 hQ
end
open PySem PyProof.Rows
variable {acc:Array QR}
section
variable{prog:Q5}{w:Q8}{A:Rh}{E:QR->QV->Prop}{s:QV}
theorem B6(h:Xm (fun i v=>vs[i]?=some v) acc vs.length):acc.toList=vs:=by
 refine P4 fun j=>?_;rw[gV];by_cases hj:j<vs.length
 ·have hja:j<acc.size:=by rw[h.1];exact hj
  have e:=j_ hja;rw[e];exact(h.2 j _ e).symm
 rw[Mh (by rw[h.1];omega),NF (by omega)]
theorem Dw(hp:ps.Perm (B' es.size))(h:Xm (fun i v=>∃p,ps[i]?=some p/\es[p]?.map (·.2)=some v) acc ps.length):acc.toList.Perm (es.toList.map (·.2)):=by
 have e:acc.toList=ps.filterMap fun p=>es[p]?.map fun(x:Int×QR)=>x.2:=by
  have g:∀(qs:List Nat) (vs:List QR),vs.length=qs.length->(∀(j:Nat) v,vs[j]?=some v->∃p:Nat,qs[j]?=some p/\es[p]?.map (fun(x:Int×QR)=>x.2)=some v)->vs=qs.filterMap fun p=>es[p]?.map fun(x:Int×QR)=>x.2:=by
   intro qs;induction qs with
   |nil=>exact fun vs l _=>Mf l
   |cons q qs ih=>
    intro vs l k
    match vs,l,k with
    |v::vs,l,k=>
     obtain⟨p,e1,e2⟩:=k 0 v rfl;cases e1;rw[List.filterMap_cons_some (f:=fun p=>NK (fun(x:Int×QR)=>x.2) es[p]?) e2,<-ih vs (MN l) fun j v e=>k (j+1) v e]
  exact g ps acc.toList (by rw[g_];exact h.1) fun j v e=>h.2 j v (by rw[<-gV];exact e)
 rw[e];refine(hp.filterMap _).trans ?_;have e2:(B' es.size).filterMap (fun p=>es[p]?.map (·.2))=((B' es.size).filterMap fun p=>es[p]?).map (·.2):=by rw[List.map_filterMap]
 rw[e2,filterMap_getElem?_range]
theorem D9(ho:s.heap.get? a=some o)(I:SI prog w o ks es ep t)(hh:A.handled=none)
  (h:∀(h1:Q_) d (it:QS) (fp:List QS) (P:Nat->QR->Prop) (St:Nat->Q_->Prop),s.heap.objs.size<=it->it<h1.objs.size->(∀b u,s.heap.get? b=some u->h1.get? b=some u)->(∀b∈fp,b=a\/s.heap.objs.size<=b)->Yt prog w A it fp [it] es.size P St->St 0 h1->(∀acc,Xm P acc es.size->acc.toList.Perm (es.toList.map (·.2)))->Q (.ref it) {s with heap:=h1,drawn:=d}) :
  QX (Q3 prog w) A (Uh (.ref a)) Q E s:=by
 have hT:s.TypeIs (.ref a) "set":=⟨o,ho,I.ex.1⟩;have lt:=Q1 ho;have hz:es.size<=sizeLine:=Tu I.sm;refine Uc hT W7 (Rz W7 hT Es ?_ (F.args_set_iter_1 _));unfold RW.«frozenset.__iter__»;refine QQ ?_;unfold X';refine QQ (QU (QU (QQ ?_)));unfold X8;refine QQ (UM ho I.dat I.ft (QU (QQ ?_)));unfold setDrawn;refine QQ (S5 ho I.dat I.ft (QQ (wp_text (QU ?_))));have plain:∀(vs:List QR) (sl:Nat->Nat),sl 0=0->vs.Perm (es.toList.map (·.2))->Nx prog w a o ep vs sl->Q (.ref s.heap.objs.size) {s with heap:=s.heap.push { cls:=.type "set_iterator",data:=.fields #[.int 0 0,.int 0 0,.ref a,.int es.size 0,.int ep 0] } }:=fun vs sl h0 pm N=>by
  have ln:vs.length=es.size:=by rw[pm.length_eq,a_,g_]
  have W:=C8 (A:=A) (it:=s.heap.objs.size) (s_ lt) I.dat I.ft N hh;rw[ln]at W;refine h _ s.drawn _ _ _ _ (b_ _) (by rw[RG];exact Nk _) (fun b u e=>QW _ e) (fun b hb=>?_) W ⟨E_ _,⟨_,Q0 _ rfl,rfl,?_⟩,QW _ ho⟩ fun acc it=>?_
  ·rcases p_.mp hb with e|hb
   ·exact .inr (NB e.symm)
   exact .inl (A_.mp hb)
  ·rw[h0]
   rfl
  rw[<-ln]at it;rw[B6 it];exact pm
 cases hb:bt w with
 |true=>
  refine QQ ?_;refine QU ?_;refine QQ (U5 ho I.dat I.ft ?_);refine QQ (Ri ?_);refine QU ⟨_,rfl,"set_iterator",_,⟨_,Q0 _ rfl,rfl⟩,eZ.lookup,?_⟩;exact plain _ _ rfl ((rR _ _ _ _ (by rw[g_])).map _) (Eu I hb)
 |false=>
  cases hdr:(!t.plain&&decide (es.size > 1))with
  |false=>
   refine Sz (fun z=>absurd (show(!false&&(!t.plain&&decide (es.size > 1)))=true from z) (by rw[hdr];simp)) fun _=>QQ (QU ?_)
   refine QQ (U5 ho I.dat I.ft ?_);refine QQ (Ri ?_);refine QU ⟨_,rfl,"set_iterator",_,⟨_,Q0 _ rfl,rfl⟩,eZ.lookup,?_⟩;exact plain _ _ rfl (.refl _) (DC I hb hdr)
  |true=>
   refine Sz (fun _=>?_) fun z=>absurd (show(!false&&(!t.plain&&decide (es.size > 1)))=true by rw[hdr];rfl) z
   refine QQ (yD _ _ (by rw[Mo]) fun ys d pm=>?_);refine QQ (Ri ?_ ?_);refine QQ (U5 (QW _ ho) I.dat I.ft ?_);refine QQ (Ri ?_);refine QU ⟨_,rfl,"set_iterator",_,⟨_,Q0 _ rfl,rfl⟩,eZ.lookup,?_⟩
   ·have yl:ys.length=es.size:=by rw[pm.length_eq,Mo]
    have hz2:∀x:Obj,(s.heap.push x).objs.size=s.heap.objs.size+1:=fun x=>RG ..;have W:=Bm (prog:=prog) (w:=w) (A:=A) (it:=s.heap.objs.size+1) (a:=a) (tp:=s.heap.objs.size) (s_ (My lt)) (s_ (Nk _)) (ot:={ cls:=.type "tuple",data:=.seq (ys.map fun(j:Nat)=>RH j).toArray}) I.dat I.ft rfl (fun p hp=>LP.mp (pm.mem_iff.mp hp)) hh;rw[yl]at W;have e2:∀x y:Obj,y.isFreed=false->((s.heap.push x).push y).get? (s.heap.objs.size+1)=some y:=fun x y q=>by rw[<-hz2 x];exact Q0 _ q
    have r:=h ((s.heap.push { cls:=.type "tuple",data:=.seq (ys.map fun(j:Nat)=>RH j).toArray}).push { cls:=.type "set_iterator",data:=.fields #[.ref s.heap.objs.size,.int 0 0,.ref a,.int es.size 0,.int ep 0] }) d (s.heap.objs.size+1) _ _ _ (Nw _) (by rw[RG,RG];exact Nk _) (fun b u e=>QW _ (QW _ e)) (fun b hb=>?_) W ⟨⟨_,e2 _ _ rfl,rfl,rfl⟩,QW _ (QW _ ho),QW _ (Q0 _ rfl)⟩ fun acc it=>Dw pm (by rw[yl];exact it)
    ·rw[<-hz2]at r;exact r
    simp only[p_,Mi,or_false]at hb;rcases hb with e|e|e
    ·exact .inr (by rw[e];exact Nw _)
    ·exact .inl e
    exact .inr (NB e.symm)
   show _<=_;rw[o_,a_,pm.length_eq,Mo];exact hz
end
open PySem PyProof.Rows
section
variable{prog:Q5}{w:Q8}{A:Rh}{E:QR->QV->Prop}{s:QV}
theorem Dz{Q:Bool->QV->Prop}(hT:s.TypeIs (.ref a) "set")(h:Q false s):QX (Q3 prog w) A (UW (.ref a)) Q E s:=by
 unfold UW;refine QQ (Vr hT F.slot_set_len.lookup ?_);generalize hid:("set.__len__":String)=id0
 wp_delta
 rw[show splitId id0=some ("set","__len__")from by subst hid;rfl'];subst hid;refine QQ (Tb (T:="set") (b:=true) hT (by rw[VM];kernel_rfl) ?_);refine Sz (fun z=>absurd z (by decide)) fun _=>Sz (fun _=>QQ (TV hT (QU h))) fun z=>absurd (by rfl') z
theorem E1{R:We->QV->Prop}(ho:s.heap.get? a=some o)(I:SI prog w o ks es ep t)(hh:A.handled=none)(S:QS)(hSa:S≠a)(res:QR)(c₀:Nat)(hS:s.heap.get? S=some { cls:=.type "list",data:=.seq #[] c₀ })
  (hR:∀h' tk d acc c,(∀b u,b≠S->s.heap.get? b=some u->h'.get? b=some u)->h'.get? S=some { cls:=.type "list",dict:=none,data:=.seq acc c,slots:=#[] }->acc.toList.Perm (es.toList.map (·.2))->R (.ok (.ret res)) {s with heap:=h',drawn:=d,toks:=tk}) :
  QX (Q3 prog w) A.in1 (SX (.ref S) (.ref a) res) (fun fin s'=>match fin with | .done f=>R (.ok f) s' | .again c'=>c'.quiet=true/\SM (Q3 prog w) A c' R s') (fun e s'=>R (.error e) s') s:=by
 have hz:es.size<=sizeLine:=Tu I.sm;have lS:=Q1 hS;unfold SX;refine QQ (TV (T:="set") ⟨o,ho,I.ex.1⟩ ?_);have h1:Td (.ref S) (.ref a)=false:=by simp[Td,hSa]
 have h2:(R5 "set" == R5 "list")=false:=by decide
 have h3:(R5 "set" == R5 "tuple")=false:=by decide
 simp only[h1,h2,h3,Qu,G',if_false];refine QQ (D9 ho I hh fun h1 d it fp P St hit hlt kp hfp W st pm=>?_);have hSf:S ∉ fp:=fun z=>(hfp S z).elim hSa fun z=>Oh z lS;have hSi:S≠it:=fun z=>by rw[z]at lS;exact Oh hit lS
 have key:∀(h:Q_) (c₁:Nat) (tk:Nat),St 0 h->(∀b u,b≠S->h1.get? b=some u->h.get? b=some u)->h.get? S=some { cls:=.type "list",data:=.seq #[] c₁ }->SM (Q3 prog w) A (.builtin "list.extend.loop" ⟨[.ref S,.ref it,res],[]⟩) R {s with heap:=h,drawn:=d,toks:=tk}:=by
  intro h c₁ tk hst hk hS₁;refine codeAny_extend_loopS W.toS hz S hSf res es.size 0 _ #[] c₁ rfl (E_ _) hst hS₁ (ItemsOf.nil _) fun s' acc' c' hm hS' hacc=>?_;rw[Moved.eq_with hm];refine hR s'.heap s'.toks d acc' c' (fun b u hb e=>hm.heap b u (fun z=>?_) (hk b u hb (kp b u e))) hS' (pm _ hacc);rcases p_.mp z with z|z
  ·exact hb z
  have:=Q1 e;rw[A_.mp z]at this;exact Oh hit this
 have hS₁:=kp _ _ hS;refine QQ (Rm (Dz ⟨o,kp _ _ ho,I.ex.1⟩ ?_));refine Sz (fun _=>?_) (fun _=>QU ⟨SH U9 _,key _ c₀ _ st (fun b u _ e=>e) hS₁⟩);refine QQ (Sy ?_);refine QQ ?_;show QX _ _ (Vx S (·.push .none) >>= fun _=>Vx S (·.pop)) _ _ _;refine QQ (Tp hS₁ rfl ?_);have hS₂:=Rr (Rf (·.push Rn)) hS₁ rfl;refine Tp (hz:=by seq_fits) hS₂ rfl ?_;have hS₃:=Rr (Rf (·.pop)) hS₂ rfl;refine QU ⟨SH U9 _,key _ _ _ ?_ (fun b u hb e=>?_) hS₃⟩
 ·refine W.frame 0 _ _ st fun b hb u e=>?_;have hbS:b≠S:=fun z=>hSf (z▸hb);exact(RV _ _ (SK hbS)).trans ((RV _ _ (SK hbS)).trans e)
 exact(RV _ _ (SK hb)).trans ((RV _ _ (SK hb)).trans e)
theorem wa{Q:List QR->QV->Prop}(ho:s.heap.get? a=some o)(I:SI prog w o ks es ep t)(hh:A.handled=none)
  (h:∀h' tk d (vs:List QR),s.heap.objs.size<=h'.objs.size->(∀b u,s.heap.get? b=some u->h'.get? b=some u)->vs.Perm (es.toList.map (·.2))->Q vs {s with heap:=h',drawn:=d,toks:=tk}):QX (Q3 prog w) A (collect (.ref a)) Q E s:=by
 unfold collect;refine QQ (Xp (R8 F.entry_proto_collect ?_));rw[RT F.plain_proto_collect _];show QX _ A.in1 (newList [] >>= fun l=>again (.builtin "list.__iadd__" ⟨[l,.ref a],[]⟩)) _ _ s;refine QQ (Ri ?_);refine QU ⟨SH Wv _,R8 F.entry_list_iadd ?_⟩;rw[RT Wv _];have hS:(s.heap.push { cls:=.type "list",data:=.seq ([]:List QR).toArray}).get? s.heap.objs.size=some { cls:=.type "list",data:=.seq ([]:List QR).toArray}:=Q0 _ rfl;have hne:s.heap.objs.size≠a:=MU (Q1 ho);have fin:∀(s':QV) (h':Q_) (tk:Nat) (d:XM) (acc:Array QR) (c:Nat),s'={s with heap:=h',drawn:=d,toks:=tk}->(∀b u,s.heap.get? b=some u->h'.get? b=some u)->h'.get? s.heap.objs.size=some { cls:=.type "list",dict:=none,data:=.seq acc c,slots:=#[] }->acc.toList.Perm (es.toList.map (·.2))->
   QX (Q3 prog w) A (load s.heap.objs.size >>= fun o=>match o.data with
    | .seq xs _=>pure xs.toList
    | _=>unsupported "internal:collect") Q E s':=fun s' h' tk d acc c es' kp e it=>by
  subst es';refine QQ (VP e ?_);exact QU (h h' tk d _ (LQ (Q1 e)) kp it)
 refine RA (E1 (s:={s with heap:=s.heap.push { cls:=.type "list",data:=.seq ([]:List QR).toArray} }) (R:=fun r s'=>∃(h':Q_) (tk:Nat) (d:XM) (acc:Array QR) (c:Nat),r=.ok (.ret (.ref s.heap.objs.size))/\s'={s with heap:=h',drawn:=d,toks:=tk}/\(∀b u,s.heap.get? b=some u->h'.get? b=some u)/\h'.get? s.heap.objs.size=some { cls:=.type "list",dict:=none,data:=.seq acc c,slots:=#[] }/\acc.toList.Perm (es.toList.map (·.2)))
  (QW _ ho) I hh s.heap.objs.size hne (.ref s.heap.objs.size) 0 hS (fun h' tk d acc c kp e it=>⟨h',tk,d,acc,c,rfl,rfl,fun b u eb=>kp b u (s_ (Q1 eb)) (QW _ eb),e,it⟩)) (fun fn s' hf=>?_) (fun e s' hf=>?_)
 ·cases fn with
  |done f=>
   obtain⟨h',tk,d,acc,c,ef,es',kp,e,it⟩:=hf;cases ef;exact fin s' h' tk d acc c es' kp e it
  |again c'=>
   refine⟨hf.1,S9 hf.2 fun r s'' hr=>?_⟩;obtain⟨h',tk,d,acc,c,er,es',kp,e,it⟩:=hr;subst er;exact fin s'' h' tk d acc c es' kp e it
 obtain⟨_,_,_,_,_,ef,_⟩:=hf;cases ef
end
open PySem PyProof.Rows
section
variable{prog:Q5}{w:Q8}{A:Rh}{R:We->QV->Prop}{I:QS}{fp wr:List QS}{G:Array WA->Array WA->Prop}{n:Nat}{P:Nat->QR->Prop}{St:Nat->QV->Prop}
theorem SG.at {h':Q_}(x:SG prog w h a S m)(k:∀o,h.get? a=some o->h'.get? a=some o):SG prog w h' a S m:=by obtain⟨o,ks,es,ep,t,e,r⟩:=x;exact⟨o,ks,es,ep,t,k _ e,r⟩
theorem SG.congr {S':Int->Prop}(x:SG prog w h a S m)(k:∀z,S z↔S' z):SG prog w h a S' m:=by obtain⟨o,ks,es,ep,t,e,r,q⟩:=x;exact⟨o,ks,es,ep,t,e,r,fun z=>(q.1 z).trans (k z),q.2⟩
theorem C5(W:WalksS prog w A.in1 I fp wr G n P St)(S:QS)(hSf:S ∉ fp)(val:Nat->Int)(hval:∀i v,P i v->∃t,v=.int (val i) t)(hb:n+1<scanBound) :
  ∀(k i:Nat) (s:QV),n-i=k->i<=n->St i s->SG prog w s.heap S (fun z=>∃j,j<i/\val j=z) i->(∀s',Moved (S::wr) G s s'->SG prog w s'.heap S (fun z=>∃j,j<n/\val j=z) n->R (.ok (.ret .none)) s')->SM (Q3 prog w) A (.builtin "set.update.loop" ⟨[.ref S,.ref I],[]⟩) R s:=by
 have hSw:S ∉ wr:=fun h=>hSf (W.sub _ h);have hsub:∀b∈wr,b∈S::wr:=fun b hb=>n_ _ hb;intro k;induction k with
 |zero=>
  intro i s hk hi hst hS hR;obtain rfl:i=n:=by omega
  refine R8 Vn ?_;rw[RT Ub _];show QX _ A.in1 (R7 (.ref I) >>= _) _ _ s;refine QQ (W.done s _ _ hst fun s' hm=>?_);show QX _ A.in1 (ret Rn) _ _ s';exact QU (hR s' (hm.mono hsub) (hS.at fun o e=>hm.heap S _ hSw e))
 |succ k ih=>
  intro i s hk hi hst hS hR;have hlt:i<n:=by omega
  refine R8 Vn ?_;rw[RT Ub _];show QX _ A.in1 (R7 (.ref I) >>= _) _ _ s;refine QQ (W.item i s _ _ hlt hst fun v s' hP hst' hm=>?_);obtain⟨t,rfl⟩:=hval i v hP;have hS':=hS.at (h':=s'.heap) fun o e=>hm.heap S _ hSw e;show QX _ A.in1 (TJ [SQ (val i) t] (setAdd S (.int (val i) t)) >>= _) _ _ s';refine QQ (Rm ?_);unfold setAdd;refine Rm (QQ ((Tj prog w).pyHash (k:=val i) (V1 _ _ _ _) ?_));refine add_int (s:={s' with toks:=s'.toks+1}) hS' (by omega) fun _ h' sb hS2=>?_
  have hSi:SG prog w h' S (fun z=>∃j,j<i+1/\val j=z) (i+1):=hS2.congr fun z=>⟨fun q=>q.elim (fun⟨j,a,b⟩=>⟨j,by omega,b⟩) fun e=>⟨i,by omega,e.symm⟩,fun⟨j,a,b⟩=>by
   by_cases c:j=i
   ·exact .inr (by rw[<-b,c])
   exact .inl ⟨j,by omega,b⟩⟩
  refine QU ⟨SH Ub _,ih (i+1) _ (by omega) hlt (W.frame _ s' _ _ hst' (Nw _) fun b hb o e=>?_) hSi fun s'' hm'' hS''=>?_⟩
  ·rw[sb.2 b (fun h:b=S=>hSf (by rw[<-h];exact hb))];exact e
  refine hR s'' (Moved.trans W.gtrans ((hm.mono hsub).then_heap (Nw _) fun b o hb e=>?_) hm'') hS'';rw[sb.2 b (fun h:b=S=>hb (by rw[h];exact u_))];exact e
end
section
variable{prog:Q5}{w:Q8}{A:Rh}{E:QR->QV->Prop}{s:QV}
noncomputable abbrev nob(w:Q8):Obj:={ cls:=.type "set",dict:=none,data:=.set #[] 0 (.fresh 0 0 (!bt w)) }
theorem DS(a:QR)(h:Q (.ref s.heap.objs.size) {s with heap:=s.heap.push (nob w) }):SM (Q3 prog w) A (.call (.builtin "set.__new__") ⟨[.type "set",a],[]⟩) (wants Q E) s:=by
 refine W8 ?_;show QX _ A.in1 (checkBuiltinCall "set.__new__" ⟨[.type "set",a],[]⟩ >>= fun _=>again (.builtin "set.__new__" ⟨[.type "set",a],[]⟩)) _ _ s;refine QQ (Tr (F.newCall_set_1 a) (QU ⟨SH W9 _,R8 F.entry_set_new ?_⟩));rw[RT W9 _];unfold RW.«set.__new__» XI;have hsub:=sub_set_self;obtain⟨hp,g,d,tk,os⟩:=s;dsimp only
 wp_walk
 refine Vi (QU ?_);dsimp only;simp only[newObj];refine QQ (wpAny_alloc (QU ?_));exact QU h
theorem HU:SG prog w (h.push (nob w)) h.objs.size (fun _=>False) 0:=
 ⟨_,[],#[],0,_,Q0 _ rfl,⟨⟨rfl,rfl,rfl⟩,rfl,fun e he=>(nomatch he),.nil,MG,by decide,rfl,Ci _ _ _⟩,fun z=>⟨(nomatch ·),Rb⟩,b_ _⟩
set_option maxHeartbeats 3200000 in
theorem CF{l:QS}{items:Array QR}(hh:A.handled=none)(hl:s.heap.IsList l items)(hi:So items.toList ns)(hb:items.size+1<scanBound)
  (h:∀(h':Q_) (tk:Nat),SG prog w h' s.heap.objs.size (fun z=>z∈ns) items.size->(∀b o,b<s.heap.objs.size->s.heap.get? b=some o->h'.get? b=some o)->Q (.ref s.heap.objs.size) {s with heap:=h',toks:=tk}) :
  QX (Q3 prog w) A (call (.type "set") [.ref l]) Q E s:=by
 obtain⟨c,tl,hmro⟩:=Te.mro;have hmade:=Te.made;have hsub:=Te.sub;refine wpAny_call (W8 ?_);show QX _ _ (callAny (.type "set") _) _ _ _;refine QU ⟨Code.quiet_builtin _ (by rfl'),R8 F.entry_type_call ?_⟩;rw[Around.under_plain (weight_type_call_type "set" [.ref l] []) rfl];have h1:=Te.notType;have h2:=Te.canCreate;have hct:=F.typeCall_set_1 (.ref l)
 repeat (any_goals (first|assumption|wp_step))
 refine S9 (DS (.ref l) (E:=E) (Q:=fun obj s₁=>obj=.ref s.heap.objs.size/\s₁={s with heap:=s.heap.push (nob w) }) ⟨rfl,rfl⟩) fun r s₁ hr=>?_;cases r with
 |error e=>exact hr
 |ok fl=>
  cases fl with
  |ret obj=>
   obtain⟨rfl,rfl⟩:=hr;have hS:(s.heap.push (nob w)).get? s.heap.objs.size=some (nob w):=Q0 _ rfl;have hT:U2 {s with heap:=s.heap.push (nob w) } (.ref s.heap.objs.size) "set":=⟨_,hS,rfl⟩;have hli:=Te.init.lookup;have hbi:=Te.init.bind (.ref s.heap.objs.size)
   repeat (any_goals (first|assumption|wp_step))
   refine S9 (codeAny_call_builtin (R:=wants (fun r s₂=>r=.none/\∃h' tk,s₂={s with heap:=h',toks:=tk}/\SG prog w h' s.heap.objs.size (fun z=>z∈ns) items.size/\(∀b o,b<s.heap.objs.size->s.heap.get? b=some o->h'.get? b=some o)) E) Te.init.plain F.entry_set_init (check_set_init_1 hT ?_)) fun r₂ s₂ hr₂=>?_
   ·obtain⟨ol,hol,hcl,nl,hdl⟩:=hl;obtain⟨ocls,odict,odata,oslots⟩:=ol;simp only at hcl hdl;subst hcl;subst hdl;have hol':(s.heap.push (nob w)).get? l=some { cls:=.type "list",dict:=odict,data:=.seq items nl,slots:=oslots}:=QW _ hol;have hsls:=F.sub_list_set;have hslf:=F.sub_list_frozenset;have hne:(R5 "list" == R5 "dict")=false:=by decide
    have hl1:(s.heap.push (nob w)).IsList l items:=⟨_,hol',rfl,nl,rfl⟩;unfold RW.«set.__init__» noKeywords Xq;generalize hPI:Uh=PI
    wp_walk
    subst hPI;refine Sj hl1 ?_;refine QQ (Xp ?_);have hlS:l<s.heap.objs.size:=Q1 hol;have hh3:A.in1.in1.in1.handled=none:=by simp[hh]
    have hneI:l≠(s.heap.push (nob w)).objs.size:=by rw[RG];exact s_ (My hlS)
    have hSf:s.heap.objs.size ∉ [(s.heap.push (nob w)).objs.size,l]:=by rw[RG];simp only[p_,A_,Mi,or_false,not_or];exact⟨s_ (Nk _),MU hlS⟩
    have hval:∀(i:Nat) (v:QR),items[i]?=some v->∃t,v=.int ((fun i=>ns.getD i 0) i) t:=fun i v hv=>IntsAre.int_at hi i v (by rw[gV];exact hv)
    refine C5 ((Yq hh3 _ l hneI items).toS) s.heap.objs.size hSf (fun i=>ns.getD i 0) hval hb (items.size-0) 0 _ (by omega) (E_ _) ⟨⟨_,Q0 _ rfl,rfl,rfl⟩,(hl1.push _)⟩ ?hS0 ?hR
    case hS0=>exact(HU.at fun o e=>QW _ e).congr fun z=>⟨Rb,fun⟨j,a,_⟩=>absurd a (by omega)⟩
    case hR=>
     intro s' hm hS';obtain⟨h',g',d',tk',os'⟩:=s';have eg:g'=s.gens:=hm.gens;have ed:d'=s.drawn:=hm.drawn;have eo:os'=s.os:=hm.os;subst eg;subst ed;subst eo;refine QU ?_;show QX _ _ (ret Rn) _ _ _;have nl:items.size=ns.length:=by rw[<-nh hi,g_]
     refine QU ⟨rfl,h',tk',rfl,hS'.congr fun z=>⟨fun⟨j,a,b⟩=>?_,fun q=>?_⟩,fun b o hb e=>?_⟩
     ·rw[<-b,J_,d_ (by omega)];exact MQ _
     ·obtain⟨j,a,b⟩:=Mg.mp q;exact⟨j,by omega,by rw[J_,d_ a];exact b⟩
     refine hm.heap b o ?_ (QW _ (QW _ e));rw[RG];simp only[p_,A_,Mi,or_false,not_or];exact⟨s_ hb,s_ (My hb)⟩
   ·cases r₂ with
    |error e=>exact hr₂
    |ok fl₂=>
     cases fl₂ with
     |ret r=>
      obtain⟨rfl,h',tk,rfl,hS',hk'⟩:=hr₂
      repeat (any_goals (first|assumption|wp_step))
      exact h _ _ hS' hk'
     | _=>exact hr₂.elim
  | _=>exact hr.elim
end
open PySem PyProof.Rows
section
variable{prog:Q5}{w:Q8}{A:Rh}{E:QR->QV->Prop}{s:QV}
theorem oh:∀{vs:List QR}{ns:List Int},So vs ns->vs.map ZS.gn=ns/\∀v∈vs,∃i t,v=.int i t/\i∈ns
 | _,_,.nil=>⟨rfl,fun v h=>(nomatch h)⟩
 | _,_,.cons n t h=>by
  obtain⟨a,b⟩:=oh h;refine⟨by rw[k_,a];rfl,fun v hv=>?_⟩;rcases p_.mp hv with e|hv
  ·exact⟨n,t,e,.head _⟩
  obtain⟨i,u,e,m⟩:=b v hv;exact⟨i,u,e,.tail _ m⟩
theorem yd(ho:s.heap.get? a=some o)(I:SI prog w o ks es ep t)(hh:A.handled=none)
  (h:∀(out:List QR) (ms:List Int) p c h' tk d,So out ms->ms.Perm ks->ms.Pairwise (·<=·)->s.heap.objs.size<=p->(∀b u,s.heap.get? b=some u->h'.get? b=some u)->h'.get? p=some (Ro "list" out.toArray c)->Q (.ref p) {s with heap:=h',drawn:=d,toks:=tk}) :
  QX (Q3 prog w) A (call (.builtin "sorted") [.ref a]) Q E s:=by
 refine TR Wy Wk Wl (X0 _) ?_;unfold RW.«sorted»;refine QQ (m:=W5 "sorted" 1 1 _) (QU ?_);refine QQ (wa ho I hh fun h0 tk d vs le k0 pm=>?_);obtain⟨ns,hI,kp⟩:=jz pm.symm I.rd;obtain⟨keys,each⟩:=oh hI;have hz:vs.length<=sizeLine:=by rw[pm.length_eq,a_,g_];exact Tu I.sm
 refine QQ (Tn ?_ hz);have hoL:(h0.push (Ro "list" vs.toArray 0)).get? h0.objs.size=some (Ro "list" vs.toArray 0):=Q0 _ rfl;have keep:∀b o,s.heap.get? b=some o->(h0.push (Ro "list" vs.toArray 0)).get? b=some o:=fun b o q=>QW _ (k0 b o q);show QX _ _ _ _ _ {s with heap:=h0.push (Ro "list" vs.toArray 0),drawn:=d,toks:=tk};have ne:∀b o,s.heap.get? b=some o->b≠h0.objs.size:=fun b o e=>s_ (Q1 (k0 b o e));generalize h0.push (Ro "list" vs.toArray 0)=h1 at hoL keep ⊢;refine QQ (Rm (Rz VJ ⟨_,hoL,rfl⟩ Vw ?body (Xl _)))
 case body=>
  refine ZS.sJ (s:={s with heap:=h1,drawn:=d,toks:=tk}) (kd:=WM) (rk:=fun x=>ZS.rnk ZS.ltI ns (ZS.gn x.1)) (S:=fun x=>x.1∈vs) hoL hz (fun v hv=>hv) (fun h' k {Q} hne q=>?_) (fun h' k=>ZS.Cg fun x hx=>each _ hx) fun out c h' g1 g2 g3 g4=>?_
  ·obtain⟨v1,vs',ev⟩:=List.exists_cons_of_ne_nil hne;rw[ev]at hI ⊢;exact ZS.C1 hI q
  obtain⟨ms,om,mp⟩:=jz g1.symm hI;have eo:=(oh om).1;refine⟨_,rfl,QU ⟨_,rfl,h out ms _ c h' tk d om (mp.symm.trans kp.symm) ?_ le (fun b u e=>g3 b u (ne b u e) (keep b u e)) g4⟩⟩;rw[<-eo,LV];refine MD (fun{x y} hx hy hxy=>?_) g2;by_cases z:ZS.gn x<=ZS.gn y
  ·exact z
  have:=ZS.tZ ZS.Ky (ks:=ns) (a:=ZS.gn y) (b:=ZS.gn x) (by rw[<-keys];exact Mn (g1.mem_iff.mp hy)) (decide_eq_true (by omega));exact absurd this (Pq.mpr hxy)
end
end ZT
namespace L2
open PySem PySem.Spec PyProof.Rows
section
variable{X:Cx}
theorem Inv.drw {ac:List (QS×Obj)}{s:QV}{σ:St}{H:Hp}{d:XM}(I:Inv X ac σ H s):Inv X ac σ H {s with drawn:=d}:=⟨I.ok,I.os,I.bare,I.base,I.loc,I.cell,I.free,I.freeC,I.pin,I.hok,I.len⟩
theorem Bi:∀{vs:List QR}{ns:List Int},So vs ns->Vals (ns.map V.int) vs
 | _,_,.nil=>.nil
 | _,_,.cons n t h=>.cons ⟨t,rfl⟩ (Bi h)
theorem AF{e:Q9}{te:TE}{p1 p2 pos1 pos2:Pos}(hc:X.calm=true)(hg1:Gl X "sorted")(hm1:X.mg "sorted"=none)(hg2:Gl X "set")(hm2:X.mg "set"=none)(he:PE X e te)
  (hs1:Ra [e] X.env=[(false,Rw e X.env)]:=by rfl) (hs2:Ra [.Call (.Name "set" p2) [e] [] pos2] X.env=[(false,Rw (.Call (.Name "set" p2) [e] [] pos2) X.env)]:=by rfl) :
  PE X (.Call (.Name "sorted" p1) [.Call (.Name "set" p2) [e] [] pos2] [] pos1) (fun σ H Q=>te σ H fun x H1=>∃l,∃ns:List Int,x=.ref l/\SqL X.K H1 l (ns.map V.int)/\ns.length<4095/\∀ms:List Int,ms.Pairwise (·<·)->(∀z,z∈ms↔z∈ns)->New (.lst (ms.map V.int)) H1 Q):=by
 intro ac s σ H Q I h;refine RY (dE I hg1 hm1 Yo (callWith_builtin1 ?_ (by rw[hs2];rfl) rfl));rw[hs2];refine SV ?_;refine RY (dE I hg2 hm2 boot_set (callWith_type1 ?_ (by rw[hs1];rfl) rfl));rw[hs1];refine SV (thn (he ac s σ H _ I h) ?_);rintro u s1 ⟨x,H1,I1,r1,l,ns,ex,hl,hz,q⟩;subst ex;cases r1;obtain⟨its,rv,pl,_⟩:=I1.list hl;have hI:=intsAre_of rv;have ln:=ZT.nh hI;refine QU (ZT.CF (items:=its.toArray) (ns:=ns) (I1.ok.hd hc) pl.isList hI (by unfold scanBound;rw[o_];omega) fun h' tk SG kp=>?_);have k1:∀b o,s1.heap.get? b=some o->h'.get? b=some o:=fun b o e=>kp b o (Q1 e) e;have I2:Inv X ac σ H1 {s1 with heap:=h',toks:=tk}:=I1.kept (t':=tk) k1;obtain⟨o,ks,es,ep,t,ho,SI,mem,_⟩:=SG;refine QU (ZT.yd ho SI (I2.ok.hd hc) fun out ms p c h2 tk2 d om pm so le k2 e2=>?_);have hz2:ms.length<=16777216:=by have a:=SI.sm;have b:=ZT.nh SI.rd;rw[a_,g_]at b;rw[pm.length_eq];unfold scanBound at a;omega
 have I3:=(I2.drw (d:=d)).laid (a:=p) (o:=.lst (ms.map V.int)) (t':=tk2) k2 le (show b6 X.prog X.w _ h2 _ (.lst (ms.map V.int))from⟨by rw[a_];exact hz2,out,c,Bi om,e2⟩);refine⟨.ref p,_,I3,rfl,(q ms ?_ fun z=>?_).at (I2.hok.fresh le)⟩
 ·have nd:=pm.nodup_iff.mpr SI.nd;exact(List.Pairwise.and so nd).imp fun⟨a,b⟩=>by omega
 rw[pm.mem_iff];exact mem z
end
end L2
namespace ZS
open PySem PyProof.Rows
variable {S:QY->Prop}{rk:QY->Nat}{vs:List QR}
section
variable{prog:Q5}{w:Q8}{A:Rh}{E:QR->QV->Prop}{s:QV}
theorem B2{a:QS}{n:Nat}{kd:R3}{P:YG->QV->Prop}(ho:s.heap.get? a=some (Ro "list" vs.toArray n))(hz:vs.length<=sizeLine)(hS:∀v∈vs,S (v,v))
  (kind:∀h',(∀b o,b≠a->s.heap.get? b=some o->h'.get? b=some o)->∀{Q:R3->QV->Prop},vs≠[]->Q kd {s with heap:=h'}->QX (Q3 prog w) A (UR vs.toArray) Q E {s with heap:=h'})
  (lt:∀h',(∀b o,b≠a->s.heap.get? b=some o->h'.get? b=some o)->cP (Q3 prog w) A E {s with heap:=h'} kd rk S)
  (h:∀(o:List QR) c h',o.Perm vs->o.Pairwise (fun x y=>rk (y,y)<=rk (x,x))->(∀b u,b≠a->s.heap.get? b=some u->h'.get? b=some u)->h'.get? a=some (Ro "list" o.toArray c)->P (.done (.ret .none)) {s with heap:=h'}) :
  QX (Q3 prog w) A (RW.«list.sort» ⟨[.ref a],[(RP "reverse",.bool true)]⟩) P E s:=by
 rw[list_sort_rev];have ha:a<s.heap.objs.size:=Q1 ho;refine QQ (XZ ho rfl ?_);refine QQ (U1 ho rfl ?_ (by rw[o_];exact hz) (E_ _));obtain⟨e1,ho1⟩:∃e1,(s.heap.update a (Rf fun _=>(#[]:Array QR))).get? a=some (Ro "list" #[] e1):=⟨_,UJ ho fun _=>#[]⟩;refine QQ (VD ho1 rfl ?_);refine QQ (UQ ?_ hz);refine QQ (Tn ?_ (E_ _));refine Rm ?_;have k2:∀b u,(s.heap.update a (Rf fun _=>(#[]:Array QR))).get? b=some u->(((s.heap.update a (Rf fun _=>(#[]:Array QR))).push (Ro "tuple" vs.toArray 0)).push (Ro "list" #[] 0)).get? b=some u:=fun b u e=>QW _ (QW _ e);have k3:∀b u,b≠a->s.heap.get? b=some u->(((s.heap.update a (Rf fun _=>(#[]:Array QR))).push (Ro "tuple" vs.toArray 0)).push (Ro "list" #[] 0)).get? b=some u:=fun b u hb e=>k2 b u (by rw[R4 _ _ _ _ hb];exact e)
 have ho6:=k2 _ _ ho1;show QX (Q3 prog w) A _ P E {s with heap:=((s.heap.update a (Rf fun _=>(#[]:Array QR))).push (Ro "tuple" vs.toArray 0)).push (Ro "list" #[] 0) };generalize ((s.heap.update a (Rf fun _=>(#[]:Array QR))).push (Ro "tuple" vs.toArray 0)).push (Ro "list" #[] 0)=h1 at k3 ho6 ⊢;dsimp only;have fin:∀st':Q4,(QZ st').Perm (vs.toArray.zip vs.toArray)->Srt rk (QZ st').toList->RJ st'=none->QX (Q3 prog w) A (do
   let touched:=(<-seqEpoch a) != e1
   Vm (.ref a) fun _=>((QZ st').map (·.2)).reverse
   if let some e:=RJ st' then rule "list.sort.comparison-raised";throw e
   if touched then rule "list.sort.modified";raiseError "ValueError" "list modified during sort"
   ret .none) P E {s with heap:=h1}:=fun st' hp hs hf=>by
  have lp:(QZ st').toList.Perm (vs.map fun v=>(v,v)):=by have:=Mw.mp hp;rw[iU]at this;exact this
  have op:((QZ st').toList.map (·.2)).Perm vs:=by have:=lp.map (·.2);rw[z_,show((fun x:QY=>x.2) ∘ fun v:QR=>(v,v))=id from rfl,OC]at this;exact this
  have tw:∀p∈(QZ st').toList,p=(p.2,p.2):=fun p hp=>by obtain⟨v,_,e⟩:=t_.mp (lp.mem_iff.mp hp);rw[<-e]
  have osr:((QZ st').toList.map (·.2)).Pairwise (fun x y=>rk (x,x)<=rk (y,y)):=by rw[LV];refine MD (fun{p q} hp hq hr=>?_) hs;rw[<-tw p hp,<-tw q hq];exact hr
  have os:((QZ st').map (·.2)).reverse.size<=sizeLine+1:=by rw[Array.size_reverse,<-g_,Og,op.length_eq];lia
  refine QQ (VD ho6 rfl ?_);refine QQ (U1 ho6 rfl ?_ (E_ _) os);rw[hf];simp only[bne_self_eq_false,G',if_false];obtain⟨c,hc⟩:∃c,(h1.update a (Rf fun _=>((QZ st').map (·.2)).reverse)).get? a=some (Ro "list" ((QZ st').toList.map (·.2)).reverse.toArray c):=by have:=UJ ho6 fun _=>((QZ st').map (·.2)).reverse;rw[show((QZ st').toList.map (·.2)).reverse.toArray=((QZ st').map (·.2)).reverse by rw[<-Og,<-MI]];exact⟨_,this⟩
  refine QU (h _ c _ ((P7 _).trans op) (List.pairwise_reverse.mpr osr) (fun b u hb e=>?_) hc);rw[R4 _ _ _ _ hb];exact k3 b u hb e
 have zr:(vs.toArray.zip vs.toArray).reverse.toList=vs.reverse.map fun v=>(v,v):=by rw[MI,iU,List.map_reverse]
 have zp:(vs.toArray.zip vs.toArray).reverse.Perm (vs.toArray.zip vs.toArray):=Mw.mpr (by rw[MI];exact P7 _);refine QQ (Sy ?_);by_cases h2:vs.toArray.size<2
 ·rw[if_pos h2,if_pos h2];refine QQ (QU ?_);rw[W4];refine QQ (QU ?_);refine fin (Su general' (vs.toArray.zip vs.toArray).reverse #[] 7 none) zp ?_ rfl;show Srt rk (vs.toArray.zip vs.toArray).reverse.toList;rw[zr];have h3:vs.reverse.length<2:=by rw[Ma];exact h2
  generalize vs.reverse=ws at h3;clear fin h lt kind hS ho
  match ws,h3 with
  | [],_=>exact .nil
  | [v],_=>exact N4 _ _
  | _::_::_,h3=>exact absurd h3 (by rw[h_,h_];lia)
 rw[if_neg h2,if_neg h2];refine QQ (kind h1 k3 (fun z=>by rw[z]at h2;simp at h2) ?_);refine QQ (RA (oA (st:=Su kd (vs.toArray.zip vs.toArray).reverse #[] 7 none) (Q:=fun _ st'=>(QZ st').Perm (vs.toArray.zip vs.toArray).reverse/\RJ st'=none/\Srt rk (QZ st').toList) (lt h1 k3) (fun p hp=>?_) (fun x=>Sy rfl) rfl rfl rfl fun st' a1 a2 a3=>⟨a1,a2,a3⟩) ?_ fun _ _ e=>e)
 ·rw[show(QZ (Su kd (vs.toArray.zip vs.toArray).reverse #[] 7 none))=(vs.toArray.zip vs.toArray).reverse from rfl,zr]at hp;obtain⟨v,hv,e⟩:=t_.mp hp;rw[<-e];exact hS v (Ng.mp hv)
 rintro⟨⟨⟩,st'⟩ s' ⟨rfl,hp,hf,hs⟩;exact fin st' (hp.trans zp) hs hf
theorem yf{l:QS}{kd:R3}{Q:QR->QV->Prop}(hl:s.heap.IsList l vs.toArray)(hz:vs.length<=sizeLine)(hS:∀v∈vs,S (v,v))
  (kind:∀h',(∀b o,s.heap.get? b=some o->h'.get? b=some o)->∀{Q:R3->QV->Prop}{E:QR->QV->Prop},vs≠[]->Q kd {s with heap:=h'}->QX (Q3 prog w) A.in1.in1 (UR vs.toArray) Q E {s with heap:=h'})
  (lt:∀h' E,(∀b o,s.heap.get? b=some o->h'.get? b=some o)->cP (Q3 prog w) A.in1.in1 E {s with heap:=h'} kd rk S)
  (h:∀(o:List QR) a c h',o.Perm vs->o.Pairwise (fun x y=>rk (y,y)<=rk (x,x))->s.heap.objs.size<=a->(∀b u,s.heap.get? b=some u->h'.get? b=some u)->h'.get? a=some (Ro "list" o.toArray c)->Q (.ref a) {s with heap:=h'}) :
  QX (Q3 prog w) A (call (.builtin "sorted") [.ref l] [(RP "reverse",.bool true)]) Q E s:=by
 refine call_function_entry_kw Wy Wk Wl (args_sorted_rev _ _) ?_;unfold RW.«sorted»;refine QQ (m:=W5 "sorted" 1 1 _) (QU ?_);refine QQ (X1 hl ?_ hz);refine QQ (Tn ?_ hz);have hsz:((s.heap.push (Ro "list" #[] 0)).update s.heap.objs.size (Rf (·++vs.toArray))).objs.size=s.heap.objs.size+1:=by rw[Tc,size_push']
 have hoL:(((s.heap.push (Ro "list" #[] 0)).update s.heap.objs.size (Rf (·++vs.toArray))).push (Ro "list" vs.toArray 0)).get? (s.heap.objs.size+1)=some (Ro "list" vs.toArray 0):=by rw[<-hsz];exact Q0 _ rfl
 have keep:∀b o,s.heap.get? b=some o->(((s.heap.push (Ro "list" #[] 0)).update s.heap.objs.size (Rf (·++vs.toArray))).push (Ro "list" vs.toArray 0)).get? b=some o:=fun b o q=>by have hlt:b<s.heap.objs.size:=Q1 q;rw[Ud _ _ _ (by rw[hsz];exact s_ (My hlt)),R4 _ _ _ _ (s_ hlt),Ud _ _ _ (s_ hlt)];exact q
 show QX _ _ _ _ _ {s with heap:=((s.heap.push (Ro "list" #[] 0)).update s.heap.objs.size (Rf (·++vs.toArray))).push (Ro "list" vs.toArray 0) };rw[hsz];generalize ((s.heap.push (Ro "list" #[] 0)).update s.heap.objs.size (Rf (·++vs.toArray))).push (Ro "list" vs.toArray 0)=h1 at hoL keep ⊢;have ne:∀b o,s.heap.get? b=some o->b≠s.heap.objs.size+1:=fun b o e=>s_ (My (Q1 e));refine QQ (Rm (wpAny_call_entry_kw VJ ⟨_,hoL,rfl⟩ Vw ?body (args_list_sort_rev _ _)))
 case body=>
  refine B2 (s:={s with heap:=h1}) (kd:=kd) (rk:=rk) (S:=S) hoL hz hS (fun h' k {Q} hne q=>kind h' (fun b o e=>k b o (ne b o e) (keep b o e)) hne q) (fun h' k=>lt h' _ fun b o e=>k b o (ne b o e) (keep b o e)) fun o c h' g1 g2 g3 g4=>?_;exact⟨_,rfl,QU ⟨_,rfl,h o _ c h' g1 g2 (Nw _) (fun b u e=>g3 b u (ne b u e) (keep b u e)) g4⟩⟩
end
end ZS
namespace L2
open PySem PySem.Spec PyProof.Rows
section
variable{X:Cx}
theorem tE{e:Q9}{te:TE}{p1 pos1 kp vp:Pos}{kn:Nat}(hg1:Gl X "sorted")(hm1:X.mg "sorted"=none)(he:PE X e te)
  (hs1:Ra [e] X.env=[(false,Rw e X.env)]:=by rfl) :
  PE X (.Call (.Name "sorted" p1) [e] [⟨some "reverse",(.Constant (.bool true) kn vp),kp⟩] pos1) (fun σ H Q=>te σ H fun x H1=>∃l ys ks,x=.ref l/\SqL X.K H1 l ys/\mG X.K H1 ys ks/\∀zs ls,mG X.K H1 zs ls->(∀v∈zs,v∈ys)->ls.Perm ks->ls.Pairwise (fun x y=>ZS.ltL x y=false)->(∀b xs ys,SqT X.K H1 b xs->SqT X.K H1 b ys->xs=ys)->New (.lst zs) H1 Q):=by
 intro ac s σ H Q I h;refine RY (dE I hg1 hm1 Yo (callWith_kw ?_ (by rw[hs1];rfl) (by rw[hs1];rfl) rfl rfl));rw[hs1];refine SV (thn (he ac s σ H _ I h) ?_);rintro u s1 ⟨x,H1,I1,r1,l,ys,ks,ex,hl,hr,q⟩;subst ex;cases r1;refine QU ?_;refine kws_cons (Xw (kws_nil ?_));show QX _ _ (call (.builtin "sorted") [.ref l] [(RP "reverse",.bool true)]) _ _ s1;obtain⟨its,rv,pl,hz⟩:=I1.list hl;have hlen:=rv.length;obtain⟨f1,f2⟩:=uU I1 rv hr;refine ZS.yf (kd:=Xk true) (rk:=fun x=>ZS.rnk ZS.ltL ks (ZS.jM s1.heap x.1)) (S:=fun x=>x.1∈its) pl.isList (by lia) (fun v hv=>hv) (fun h' kp {Q}{E} hne q=>ZS.wk (h0:=s1.heap) (fun v hv=>(f1 v hv).1) (fun b o e _=>kp b o e) hne q)
  (fun h' E kp=>ZS.vq (h0:=s1.heap) (ks:=ks) (fun x hx=>⟨(f1 _ hx).1,by rw[<-f2];exact Mn hx⟩) fun b o e _=>kp b o e) fun o a c h' op os ha kp e=>?_
 have mem:∀v∈o,v∈its:=fun v hv=>op.mem_iff.mp hv;have mk:∀(l:List QR),(∀v∈l,v∈its)->∃zs,Vals zs l/\mG X.K H1 zs (l.map (ZS.jM s1.heap))/\zs.length=l.length/\∀v∈zs,v∈ys:=by
  intro l;induction l with
  |nil=>exact fun _=>⟨[],.nil,.nil,rfl,fun v hv=>(by cases hv)⟩
  |cons v t ih=>
   intro hl;obtain⟨zs,k1,k2,k3,k6⟩:=ih fun v hv=>hl v (.tail _ hv);obtain⟨_,b,e,k4,k5⟩:=f1 v (hl v (.head _));refine⟨.ref b::zs,.cons e k1,.cons ⟨k4,b,rfl,k5⟩ k2,by rw[h_,h_,k3],fun w hw=>?_⟩;rcases p_.mp hw with rfl|hw
   ·exact rB rv (hl v (.head _)) e
   exact k6 w hw
 obtain⟨zs,k1,k2,k3,k6⟩:=mk o mem;refine⟨.ref a,_,I1.laid (t':=s1.toks) kp ha (show b6 X.prog X.w _ h' _ (.lst zs)from⟨by rw[k3,op.length_eq];lia,o,c,k1,e⟩),rfl,(q zs _ k2 k6 ?_ ?_ fun b xs ys g1 g2=>I1.jJ g1 g2).at (I1.hok.fresh ha)⟩
 ·rw[<-f2];exact op.map _
 rw[LV];refine MD (fun{x y} hx hy hxy=>?_) os;cases z:ZS.ltL (ZS.jM s1.heap x) (ZS.jM s1.heap y)
 ·rfl
 have:=ZS.tZ ZS.CK (ks:=ks) (by rw[<-f2];exact Mn (mem x hx)) z;exact absurd this (Pq.mpr hxy)
end
end L2
namespace PL
open PySem PySem.Spec PyProof.Rows L2
variable {p1 pos1:Pos}{ts:List T}
section
variable{X:Cx}
def KW:T->(T->Prop)->Prop
 | .lst _ ts,k=>got (intsOf ts) fun ns=>ns.length<4095/\∀ms:List Int,ms.Pairwise (·<·)->(∀z,z∈ms↔z∈ns)->k (.lst true (ms.map T.int))
 | _,_=>False
theorem mB{e:Q9}{fe:PF}{p2 pos2:Pos}(hc:X.calm=true)(hg1:Gl X "sorted")(hm1:X.mg "sorted"=none)(hg2:Gl X "set")(hm2:X.mg "set"=none)(he:GE X e fe)
  (hs1:Ra [e] X.env=[(false,Rw e X.env)]:=by rfl) (hs2:Ra [.Call (.Name "set" p2) [e] [] pos2] X.env=[(false,Rw (.Call (.Name "set" p2) [e] [] pos2) X.env)]:=by rfl) :
  GE X (.Call (.Name "sorted" p1) [.Call (.Name "set" p2) [e] [] pos2] [] pos1) (fUn KW fe):=by
 refine PE.imp (AF hc hg1 hm1 hg2 hm2 he hs1 hs2) ?_;rintro σ H Q ⟨env,Fr,k,rs,q,c⟩;refine⟨env,Fr,_,rs,q,fun t al v H1 q1 rs1=>?_⟩;cases t <;> first|exact Rb q1|skip
 obtain⟨ns,en,z,g⟩:=aE q1;have et:=cC en;subst et;obtain⟨a,vs,rfl,hq,l,rp⟩:=aD rfl rs1.head;have ev:=dy l rp;subst ev;exact⟨a,ns,rfl,hq,z,fun ms h1 h2 p H' hp g' e=>c _ _ _ _ (g ms h1 h2) (.of rs1.1 (fu (uO ms rs1.drop.2) (by rw[a_,a_]) hp g' e))⟩
def J8:T->(T->Prop)->Prop
 | .lst _ ts,k=>got (rowsOf ts) fun ks=>∀ls:List (List Int),ls.Perm ks->ls.Pairwise (fun x y=>ZS.ltL x y=false)->k (.lst true (ls.map iT))
 | _,_=>False
theorem uJ{e:Q9}{fe:PF}{kp vp:Pos}{kn:Nat}(hg1:Gl X "sorted")(hm1:X.mg "sorted"=none)(he:GE X e fe)(hs1:Ra [e] X.env=[(false,Rw e X.env)]:=by rfl) :
  GE X (.Call (.Name "sorted" p1) [e] [⟨some "reverse",.Constant (.bool true) kn vp,kp⟩] pos1) (fUn J8 fe):=by
 refine PE.imp (tE hg1 hm1 he hs1) ?_;rintro σ H Q ⟨env,Fr,k,rs,q,c⟩;refine⟨env,Fr,_,rs,q,fun t al v H1 q1 rs1=>?_⟩;cases t <;> first|exact Rb q1|skip
 obtain⟨ks,ek,g⟩:=aE q1;obtain⟨et,ne⟩:=nN ek;subst et;obtain⟨a,vs,rfl,hq,l,rp⟩:=aD rfl rs1.head;obtain⟨rv,ex⟩:=pL ne l rp;refine⟨a,vs,ks,rfl,hq,rv,fun zs ls rz mem pm sm inj p H' hp g' e'=>c _ _ _ _ (g ls pm sm) (.of rs1.1 ?_)⟩;have rH:=zW (fun v hv b eb xs hs=>by obtain⟨b',k',e1,e2⟩:=ex v (mem v hv);rw[eb]at e1;cases e1;rw[e2,inj _ _ _ hs (SqT.of e2)]) rz
 obtain⟨rp3,l3⟩:=ji rH rs1.drop.2;exact fu rp3 l3 hp g' e'
theorem gG{o:Bool}{k:T->Prop}:KW (.lst o ts) k=d6 (intsOf ts) (k:=⟨fun ns=>ns.length<4095/\∀ms:List Int,ms.Pairwise (·<·)->(∀z,z∈ms↔z∈ns)->k (.lst true (ms.map T.int))⟩):=rfl
theorem fJ{o:Bool}{k:T->Prop}:J8 (.lst o ts) k=d6 (rowsOf ts) (k:=⟨fun ks=>∀ls:List (List Int),ls.Perm ks->ls.Pairwise (fun x y=>ZS.ltL x y=false)->k (.lst true (ls.map iT))⟩):=rfl
def lr2:P1s
 | [.int i,.int j],k=>(-(2 ^ 62)<=i/\i<2 ^ 62/\-(2 ^ 62)<=j/\j<2 ^ 62/\j-i<=2 ^ 24)/\k (.lst true (jN i (j-i).toNat))
 | _,_=>False
theorem lg{i j:Int}{k:T->Prop}:lr2 [.int i,.int j] k=((-(2 ^ 62)<=i/\i<2 ^ 62/\-(2 ^ 62)<=j/\j<2 ^ 62/\j-i<=2 ^ 24)/\k (.lst true (jN i (j-i).toNat))):=rfl
def Ja(fr:PFs):PF:=fCl lr2 fr
theorem fS{fr:PFs}{env:Ev}{k:T->Ev->Prop}:Ja fr env k=fr env fun ts al=>lr2 ts fun t=>k t al:=rfl
theorem r6{a b:Q9}{fr:PFs}{p2 pos2:Pos}(hc:X.calm=true)(hg1:Gl X "list")(hm1:X.mg "list"=none)(hg2:Gl X "range")(hm2:X.mg "range"=none)(ha:GA X [a,b] fr)
  (hs1:Ra [a,b] X.env=[(false,Rw a X.env),(false,Rw b X.env)]:=by rfl) (hs2:Ra [.Call (.Name "range" p2) [a,b] [] pos2] X.env=[(false,Rw (.Call (.Name "range" p2) [a,b] [] pos2) X.env)]:=by rfl) (hs3:Ra [b] X.env=[(false,Rw b X.env)]:=by rfl) :
  GE X (.Call (.Name "list" p1) [.Call (.Name "range" p2) [a,b] [] pos2] [] pos1) (Ja fr):=by
 rintro ac s σ H Q I ⟨env,Fr,k,rs,q,c⟩;refine RY (dE I hg1 hm1 boot_list (callWith_type1 ?_ (by rw[hs2];rfl) rfl));rw[hs2];refine SV ?_;refine RY (dE I hg2 hm2 WO (callWith_type1 ?_ (by rw[hs1,hs3]) (by rw[hs3];rfl)));refine thn (ha pos2 ac s σ H (fun vs H1=>∃ts al,(lr2 ts fun t=>k t al)/\ts.length=vs.length/\Rs X.K H1 al σ (zz ts vs++Fr)) I ⟨env,Fr,_,rs,q,fun ts al vs H1 q1 l rs1=>⟨ts,al,q1,l,rs1⟩⟩) ?_;rintro us s1 ⟨vs,H1,I1,r1,ts,al,q1,l,rs1⟩;rcases ts with _|⟨t,_|⟨u,_|⟨t3,ts⟩⟩⟩
 ·exact q1.elim
 ·cases t <;> exact q1.elim
 rotate_left
 ·cases t <;> try exact q1.elim
  cases u <;> exact q1.elim
 cases t <;> try exact q1.elim
 cases u <;> try exact q1.elim
 rename_i i j;obtain⟨v,w,rfl⟩:=zz2 l rfl;have rs1:Rs X.K H1 al σ ((.int i,some v)::(.int j,some w)::Fr):=rs1;have ev:=aJ rs1.head;have ew:=aJ rs1.drop.head;subst ev ew;cases r1 with
 |cons r rr=>
  cases rr with
  |cons r' rr=>
   cases rr;obtain⟨t,rfl⟩:=r;obtain⟨u,rfl⟩:=r';refine XT ?_;refine U4 ?_;obtain⟨⟨h1,h2,h3,h4,h5⟩,q1⟩:=q1;refine oQ I1 hc h1 h2 h3 h4 (Int.toNat_le.mpr h5) fun p H' hp g e=>c _ _ _ _ q1 (.of rs1.1 ?_);have rp2:=uO ((B' (j-i).toNat).map fun(n:Nat)=>i+(n:Int)) rs1.drop.drop.2;have er:jN i (j-i).toNat=((B' (j-i).toNat).map fun(n:Nat)=>i+(n:Int)).map T.int:=by rw[z_];rfl
   rw[er];exact fu rp2 (by simp only[a_]) hp g e
end
noncomputable def Jg:PSt:=fun _ _=>False
section
variable{X:Cx}{pos:Pos}{e:Q9}{es:List Q9}{fe:PF}{fr:PFs}{m:PM}{name:Str}{id:String}{apos cpos spos xp yp kp vp p1 pos1:Pos}{x:Str}{κ:Nat->Bool}{kn:Nat}
theorem jK{st:RC}:GS κ X st Jg:=by rintro ac s σ H D I ⟨env,Fr,pe,rs,q,c⟩;exact q.elim
end
noncomputable def wQ:PM
 | .lst true _,[],k=>k (.lst true []) .non
 | _,_,_=>False
section
variable{X:Cx}{e:Q9}{es:List Q9}{fr:PFs}{m:PM}{name:Str}{id:String}{apos cpos spos xp yp:Pos}{x:Str}{kn:Nat}
theorem Ad:MtP X "list.clear" wQ:=by
 rintro ac s σ H x xs v us Q I rx r ⟨t,ts,Γ,k,l,rp,g,c⟩;unfold wQ at g;split at g
 ·rename_i k ts;have:xs=[]:=by cases xs with|nil=>rfl|cons _ _=>cases l
  subst this;obtain⟨a,vs,ea,ha,la,rp2⟩:=dM rp;cases ea;have rp3:Rp X.K H ((.bare,some (.ref a))::(zz [] []++Γ)):=((rp2.perm i_.symm).part);exact Bk ac s σ H _ _ v us Q I rx r ⟨a,vs,rfl,rfl,ha,c _ _ _ _ g (bQ (eF (ts:=[]) (vs:=[]) rp3 rfl Put.up) fun _=>.non)⟩
 exact Rb g
end
theorem d4{k:T->T->Prop}:wQ (.lst true ts) [] k=k (.lst true []) .non:=rfl
def tV:P1s
 | [.lst _ ts],k=>got (rowsOf ts) fun ks=>k (.lst true ((uK ks).map iT))
 | _,_=>False
theorem qX{X:Cx}:fw X (.builtin "sorted") tV:=by
 rintro ac s σ H xs us Q I r ⟨ts,Γ,k,l,rp,g,c⟩;unfold tV at g;split at g
 ·rename_i k o ts;obtain⟨x,rfl⟩:=zz1 l rfl;have rp:Rp X.K H ((.lst o ts,some x)::Γ):=rp;obtain⟨a,vs,rfl,hq,l2,rp2⟩:=mJ rp;obtain⟨ks,ek,kt⟩:=aE g;obtain⟨et,ne⟩:=nN ek;subst et;obtain⟨rv,ex⟩:=pL ne l2 rp2;refine tL ac s σ H _ us Q I r ⟨a,vs,ks,rfl,.inl hq,rv,fun zs ls rz mem pm sm p H' hp g' e'=>c _ _ _ kt ?_⟩;have es:ls=uK ks:=Et ZS.CK pm sm;rw[<-es];have rH:=zW (fun v hv b eb xs hs=>by obtain⟨b',k',e1,e2⟩:=ex v (mem v hv);rw[eb]at e1;cases e1;rw[e2,I.jJ hs (SqT.of e2)]) rz
  obtain⟨rp3,l3⟩:=ji rH rp.tail;exact fu rp3 l3 hp g' e'
 exact Rb g
end PL
namespace ZG
open PySem
noncomputable abbrev itO(x:QR)(f:Bool)(d:QS)(i n ep:Nat)(u v:QR):Obj:={ cls:=.type "dict_itemiterator",dict:=none,data:=.fields #[x,.bool f,.ref d,.int i 0,.int n 0,.int ep 0,u,v],slots:=#[] }
abbrev Pr2(h:Q_)(a:QS)(x y:QR):Prop:=h.get? a=some { cls:=.type "tuple",data:=.seq #[x,y] }
structure ISt (it d:QS) (o:Obj) (n ep i:Nat) (h:Q_):Prop where
 st:∃x f u v,h.get? it=some (itO x f d i n ep u v)/\(x=.none\/∃(a:QS) (p:Obj),x=RH a/\h.get? a=some p)
 od:h.get? d=some o
variable {Q:QR->QV->Prop}{d it:QS}{ep i:Nat}{es:Array RX}{o:Obj}
section
variable{prog:Q5}{w:Q8}{A:Rh}{E:QR->QV->Prop}{s:QV}
theorem Kb{v:QS}(hv:s.heap.IsItemsView v d)(ho:s.heap.get? d=some o)(hd:o.data=.dict es ep)
  (q:Q (.ref s.heap.objs.size) {s with heap:=s.heap.push (itO .none false d 0 es.size ep .none .none) }):QX (Q3 prog w) A (Uh (.ref v)) Q E s:=by
 obtain⟨ov,h1,h2,h3⟩:=id hv;refine Uc hv.typeIs VE (Rz VE hv.typeIs F.entry_dict_items_iter ?_ (F.args_dict_items_iter_1 _));unfold RW.«dict_items.__iter__»;refine QQ (QU (QQ ?_));unfold XS;refine QQ (RI h1 h3 (x:=.ref d) rfl (QU (QQ ?_)));unfold W_;refine QQ (SF ho hd (QQ (To ho hd ?_)));simp only[show Sh "dict_itemiterator"=true by decide,if_true];refine Ri (QU ⟨_,rfl,"dict_itemiterator",_,⟨_,Q0 _ rfl,rfl⟩,R9.lookup,?_⟩)
  (by simp only[sizeOk,T9,o_,e_,h_,L_,sizeLine_eq];omega)
 simpa[RH,T9,itO]using q
theorem Jj{n:Nat}{x u v a b:QR}{f:Bool}(hit:s.heap.get? it=some (itO x f d i n ep u v))(hx:x=.none\/∃(a:QS) (p:Obj),x=RH a/\s.heap.get? a=some p)
  (r:∀g x' f' u' v',g.get? it=some (itO x' f' d i n ep u' v')->(x'=.none\/∃(a:QS) (p:Obj),x'=RH a/\g.get? a=some p)->Pr2 g s.heap.objs.size a b->g.objs.size=s.heap.objs.size+1->(∀c o,c≠it->s.heap.get? c=some o->g.get? c=some o)->Q (.ref s.heap.objs.size) {s with heap:=g}) :
  QX (Q3 prog w) A (Tf (.ref it) 6 a b) Q E s:=by
 obtain⟨h0,g,dr,tk,os⟩:=s;unfold Tf;refine QQ (UQ ?_);have e2:(h0.push { cls:=.type "tuple",data:=.seq #[a,b] }).get? it=some (itO x f d i n ep u v):=QW _ hit;have t2:(h0.push { cls:=.type "tuple",data:=.seq #[a,b] }).get? h0.objs.size=some { cls:=.type "tuple",data:=.seq #[a,b] }:=Q0 _ rfl;have z2:(h0.push { cls:=.type "tuple",data:=.seq #[a,b] }).objs.size=h0.objs.size+1:=RG ..;have k2:∀c o,h0.get? c=some o->(h0.push { cls:=.type "tuple",data:=.seq #[a,b] }).get? c=some o:=fun c o e=>QW _ e;have il:it<h0.objs.size:=Q1 hit;show QX _ _ (T_ (.ref it) >>= _) _ _ ⟨h0.push { cls:=.type "tuple",data:=.seq #[a,b] },g,dr,tk,os⟩;generalize h0.push { cls:=.type "tuple",data:=.seq #[a,b] }=h2 at e2 t2 z2 k2 ⊢;refine QQ ?_;unfold T_;rcases hx with rfl|⟨c,p,rfl,hc⟩
 ·refine QQ (RI e2 rfl (x:=.none) rfl (QU ?_));simp only[if_true];refine QQ (RI e2 rfl (x:=u) rfl (QQ (RI e2 rfl (x:=v) rfl ?_)));refine QQ (RK e2 (by simp) fun h3 e3 s3=>?_);refine QQ (RK (show h3.get? it=some (itO .none f d i n ep a v)from e3) (by simp) fun h4 e4 s4=>?_);refine QQ (RK (show h4.get? it=some (itO .none f d i n ep a b)from e4) (by simp) fun h5 e5 s5=>?_);refine QQ (RK (show h5.get? it=some (itO (RH h0.objs.size) f d i n ep a b)from e5) (by simp) fun h6 e6 s6=>?_);have kk:∀c o,c≠it->h2.get? c=some o->h6.get? c=some o:=fun c o n e=>(show Rq it h5 h6 from s6).extBut _ _ n ((show Rq it h4 h5 from s5).extBut _ _ n ((show Rq it h3 h4 from s4).extBut _ _ n ((show Rq it h2 h3 from s3).extBut _ _ n e)));refine QQ (Uk (QU (r h6 (RH h0.objs.size) false a b e6 (.inr ⟨_,_,rfl,kk _ _ (MU il) t2⟩) (kk _ _ (MU il) t2) ?_ fun c o n e=>kk c o n (k2 c o e))));rw[(show Rq it h5 h6 from s6).1,(show Rq it h4 h5 from s5).1,(show Rq it h3 h4 from s4).1,(show Rq it h2 h3 from s3).1,z2]
 have hc2:=k2 c p hc;refine QQ (RI e2 rfl (x:=RH c) rfl ?_);show QX _ _ (loadIfAlive ((c:Int).toNat) >>= _) _ _ _;rw[LR];refine QQ (PySem.W.kdx_alive hc2 ?_);simp only[Option.isNone_some,G',if_false];refine QQ (RI e2 rfl (x:=.bool f) rfl ?_);cases f with
 |true=>
  rw[if_neg (show ¬((T5 true != T5 true)=true)from LY)];refine QU ?_;simp only[G',if_false];exact QU (r h2 _ _ _ _ e2 (.inr ⟨c,p,rfl,hc2⟩) t2 z2 fun c o _ e=>k2 c o e)
 |false=>
  rw[if_pos (show(T5 false != T5 true)=true from rfl)];refine QQ (RK e2 (by simp) fun h3 e3 s3=>?_);have s3:Rq it h2 h3:=s3;refine QU ?_;simp only[G',if_false];refine QU (r h3 (RH c) true u v e3 (.inr ?_) (s3.extBut _ _ (MU il) t2) (by show h3.objs.size=_;rw[s3.1,z2]) fun c o n e=>s3.extBut _ _ n (k2 c o e));by_cases h:c=it
  ·exact⟨c,_,rfl,by rw[h];exact e3⟩
  exact⟨c,p,rfl,s3.extBut _ _ h hc2⟩
theorem KQ{e:RX}{Q:Option QR->QV->Prop}(hne:d≠it)(hd:o.data=.dict es ep)(S:ISt it d o es.size ep i s.heap)(hx:es[i]?=some e)
  (r:∀g,ISt it d o es.size ep (i+1) g->Pr2 g s.heap.objs.size e.key e.val->g.objs.size=s.heap.objs.size+1->(∀c o,c≠it->s.heap.get? c=some o->g.get? c=some o)->Q (some (.ref s.heap.objs.size)) {s with heap:=g}) :
  QX (Q3 prog w) A (R7 (.ref it)) Q E s:=by
 obtain⟨⟨x,f,u,v,hit,h0⟩,hod⟩:=S;have hT:s.TypeIs (.ref it) "dict_itemiterator":=⟨_,hit,rfl⟩;unfold R7;refine QQ (RZ (Ry (name:=RP "__next__") hT R9 (Rz R9 hT UK ?_ (Uz _))));refine QQ (QU (QQ (QQ ?_)));refine QQ (SD hT (QU (QQ (Tx hit rfl ?_))));simp only[show Sh "dict_itemiterator"=true by decide,if_true];show QX _ _ (if(Rx d == Rn)=true then _ else _) _ _ _;rw[if_neg (show ¬(Rx d == Rn)=true from fun z=>LY z)];refine QQ (QU (QQ (SF hod hd ?_)));rw[if_neg (show ¬_ by simp)];refine QQ (QU (QQ (To hod hd ?_)));rw[if_neg (show ¬_ by simp)];refine QU ?_;simp only[show ¬(i:Int)<0 by lia,if_false,LR,hx];refine QQ (QQ (SD hT (QU (QQ (Uo hT ?_)))));show QX _ _ (WJ (.ref it) 3 (RH ((i:Int)+1)) >>= _) _ _ s;refine QQ (RK hit (by simp) fun h1 e1 s1=>?_);have e1:h1.get? it=some (itO x f d (i+1) es.size ep u v):=by have z:((i+1:Nat):Int)=(i:Int)+1:=Qn i 1;unfold itO;rw[z];simpa[RH]using e1
 have hT1:U2 {s with heap:=h1} (.ref it) "dict_itemiterator":=⟨_,e1,rfl⟩;refine QQ (Rm (QQ (Uo hT1 (QQ (Uo hT1 ?_)))));show QX _ _ (Tf (.ref it) 6 e.key e.val) _ _ _;have s1:Rq it s.heap h1:=s1;have h0':x=.none\/∃(a:QS) (p:Obj),x=RH a/\h1.get? a=some p:=by
  rcases h0 with h0|⟨a,p,ea,hp⟩
  ·exact .inl h0
  by_cases h:a=it
  ·exact .inr ⟨a,_,ea,by rw[h];exact e1⟩
  exact .inr ⟨a,p,ea,s1.extBut _ _ h hp⟩
 refine Jj (s:={s with heap:=h1}) e1 h0' fun g x' f' u' v' g1 g2 g3 g4 g5=>?_;have z:h1.objs.size=s.heap.objs.size:=s1.1;dsimp only at g3 g4 g5 ⊢;rw[z]at g3 g4 ⊢;exact QU ⟨_,rfl,QU (r g ⟨⟨x',f',u',v',g1,g2⟩,g5 _ _ hne (s1.extBut _ _ hne hod)⟩ g3 g4 fun c o n e=>g5 c o n (s1.extBut _ _ n e))⟩
theorem Lk{Q:Option QR->QV->Prop}(hh:A.handled=none)(hd:o.data=.dict es ep)(S:ISt it d o es.size ep i s.heap)(hx:es[i]?=none)
  (r:∀g,Tq it s.heap g->Q none {s with heap:=g}):QX (Q3 prog w) A (R7 (.ref it)) Q E s:=by
 obtain⟨⟨x,f,u,v,hit,h0⟩,hod⟩:=S;have hT:s.TypeIs (.ref it) "dict_itemiterator":=⟨_,hit,rfl⟩;unfold R7;refine QQ (RZ (Ry (name:=RP "__next__") hT R9 (Rz R9 hT UK ?_ (Uz _))));refine QQ (QU (QQ (QQ ?_)));refine QQ (SD hT (QU (QQ (Tx hit rfl ?_))));simp only[show Sh "dict_itemiterator"=true by decide,if_true];show QX _ _ (if(Rx d == Rn)=true then _ else _) _ _ _;rw[if_neg (show ¬(Rx d == Rn)=true from fun z=>LY z)];refine QQ (QU (QQ (SF hod hd ?_)));rw[if_neg (show ¬_ by simp)];refine QQ (QU (QQ (To hod hd ?_)));rw[if_neg (show ¬_ by simp)];refine QU ?_;simp only[show ¬(i:Int)<0 by lia,if_false,LR,hx];refine QQ (QQ (SD hT (QU ?_)));show QX _ _ (WJ (.ref it) 2 .none >>= _) _ _ s;refine QQ (R0 hit rfl (by simp) ?_);show QX _ _ (UD (.type "StopIteration") [] >>= _) _ _ _;refine QQ ?_;simp only[UD,VU];refine QQ (Ri ?_ (by size_fits));refine QQ (m:=Sd _ _) (Tr (a:=Rn) (by simp only[Sd];rfl) (Ri ?_ (by size_fits)));simp only[VX];refine QQ (Us ?_);rw[show A.in1.handled=none from hh];refine QQ (QU (UT ?_));refine QQ (Tb (T:="StopIteration") (b:=true) ⟨_,Q0 _ rfl,rfl⟩ T8 ?_);exact QU (r _ (((RF ..).extBut.push _).push _))
theorem ISt.keep {S:QS}{n:Nat}{h h':Q_}(Z:ISt it d o n ep i h)(k:∀b o,b≠S->h.get? b=some o->h'.get? b=some o)(e:∃o,h'.get? S=some o)(n1:it≠S)(n2:d≠S):ISt it d o n ep i h':=by
 obtain⟨⟨x,f,u,v,hit,h0⟩,hod⟩:=Z;refine⟨⟨x,f,u,v,k _ _ n1 hit,?_⟩,k _ _ n2 hod⟩;rcases h0 with h0|⟨a,p,ea,hp⟩
 ·exact .inl h0
 by_cases h:a=S
 ·obtain⟨q,hq⟩:=e;exact .inr ⟨a,q,ea,by rw[h];exact hq⟩
 exact .inr ⟨a,p,ea,k _ _ h hp⟩
theorem Aw{S n0:QS}{R:We->QV->Prop}(hh:A.in1.handled=none)(hd:o.data=.dict es ep)(n1:it≠S)(n2:d≠S)(n3:d≠it)
  (off:∀j,n0+j≠S/\n0+j≠it) (hn:es.size<=sizeLine) (res:QR) :
  ∀(k i:Nat) (s:QV) (acc:Array QR) (c:Nat),es.size-i=k->i<=es.size->ISt it d o es.size ep i s.heap->s.heap.get? S=some { cls:=.type "list",dict:=none,data:=.seq acc c,slots:=#[] }->
   s.heap.objs.size=n0+i->acc=((NN n0 i).map Rx).toArray->(∀(j:Nat) (e:RX),j<i->es[j]?=some e->Pr2 s.heap (n0+j) e.key e.val)->
   (∀h' c',(∀b o,b≠S->b≠it->s.heap.get? b=some o->h'.get? b=some o)->h'.get? S=some { cls:=.type "list",dict:=none,data:=.seq ((NN n0 es.size).map Rx).toArray c',slots:=#[] }->
    (∀(j:Nat) (e:RX),j<es.size->es[j]?=some e->Pr2 h' (n0+j) e.key e.val)->R (.ok (.ret res)) {s with heap:=h'})->
   SM (Q3 prog w) A (.builtin "list.extend.loop" ⟨[.ref S,.ref it,res],[]⟩) R s:=by
 intro k;induction k with
 |zero=>
  intro i s acc c hk hi st hS hs ea hp r;have:i=es.size:=by omega
  subst this;refine R8 V9 ?_;rw[RT TN _];show QX _ A.in1 (R7 (.ref it) >>= _) _ _ s;refine QQ (Lk hh hd st (Mh (b_ _)) fun g kp=>?_);exact QU (r g c (fun b o _ m e=>kp b o m e) (by rw[<-ea];exact kp _ _ n1.symm hS) fun j e hj he=>kp _ _ (off j).2 (hp j e hj he))
 |succ k ih=>
  intro i s acc c hk hi st hS hs ea hp r;have hlt:i<es.size:=by omega
  refine R8 V9 ?_;rw[RT TN _];show QX _ A.in1 (R7 (.ref it) >>= _) _ _ s;obtain⟨e,he⟩:∃e,es[i]?=some e:=⟨_,j_ hlt⟩;refine QQ (KQ n3 hd st he fun g st' pr sz kp=>?_);rw[hs]at pr sz ⊢;have hS':=kp _ _ n1.symm hS;show QX _ A.in1 (Vx S (·.push (.ref (n0+i))) >>= _) _ _ _;have hacc:acc.size=i:=by rw[ea];simp
  refine QQ ?_;have up:∀b o,b≠S->g.get? b=some o->(g.update S (Rf (·.push (.ref (n0+i))))).get? b=some o:=fun b o hb e=>by rw[R4 _ _ _ _ hb];exact e
  have hS2:(g.update S (Rf (·.push (.ref (n0+i))))).get? S=some _:=Rr _ hS' rfl;refine Tp hS' rfl (QU ⟨SH TN _,ih (i+1) _ (acc.push (.ref (n0+i))) _ (by omega) hlt (st'.keep up ⟨_,hS2⟩ n1 n2) hS2 ?_ ?_ ?_ ?_⟩) (by rw[hacc];omega) (by show(acc.push _).size<=sizeLine+1;rw[Array.size_push,hacc];omega)
  ·show(g.update S _).objs.size=_;rw[Tc,sz,Np]
  ·rw[ea,List.range'_1_concat,q_,List.push_toArray];rfl
  ·intro j e' hj he';refine up _ _ (off j).1 ?_;rcases O0.mp hj with hj|rfl
   ·exact kp _ _ (off j).2 (hp j e' hj he')
   rw[he]at he';cases he';exact pr
  intro h' c' k1 k2 k3;exact r h' c' (fun b o m1 m2 e=>k1 b o m1 m2 (up b o m1 (kp b o m2 e))) k2 k3
theorem oS{v:QS}(hh:A.handled=none)(hv:s.heap.IsItemsView v d)(ho:s.heap.get? d=some o)(hd:o.data=.dict es ep)(hn:es.size<=sizeLine)
  (q:∀(h':Q_) (c':Nat),(∀b o,s.heap.get? b=some o->h'.get? b=some o)->h'.get? s.heap.objs.size=some { cls:=.type "list",data:=.seq ((NN (s.heap.objs.size+2) es.size).map Rx).toArray c'}->
   (∀(j:Nat) (e:RX),es[j]?=some e->Pr2 h' (s.heap.objs.size+2+j) e.key e.val)->Q (.ref s.heap.objs.size) {s with heap:=h'}) :
  QX (Q3 prog w) A (call (.type "list") [.ref v]) Q E s:=by
 have lv:v<s.heap.objs.size:=let ⟨_,h,_⟩:=hv;Q1 h
 have ld:d<s.heap.objs.size:=Q1 ho;refine Xj F.called_list (F.typeCall_list_1 _) F.entry_list_init (code_list_new _ (Q₁:=fun v s1=>v=.ref s.heap.objs.size/\s1={s with heap:=s.heap.push { cls:=.type "list",data:=.seq #[] } }) ⟨rfl,rfl⟩) ?_;rintro _ _ ⟨rfl,rfl⟩;have hS:(s.heap.push ({ cls:=.type "list",data:=.seq #[] }:Obj)).get? s.heap.objs.size=some { cls:=.type "list",data:=.seq #[] }:=Q0 _ rfl;refine⟨⟨_,hS,rfl⟩,F.args_list_init_2 _ _,?_⟩;unfold RW.«list.__init__»;refine QQ (QQ (Sv hS rfl (QU ?_)));refine QQ (Tp hS rfl ?_ (by simp) (by simp));refine QQ (Uk ?_);have hS2:((s.heap.push ({ cls:=.type "list",data:=.seq #[] }:Obj)).update s.heap.objs.size (Rf fun _=>#[])).get? s.heap.objs.size=some (Rf (fun _=>#[]) { cls:=.type "list",data:=.seq #[] }):=Rr _ hS rfl;have kp:∀b o,b≠s.heap.objs.size->s.heap.get? b=some o->((s.heap.push ({ cls:=.type "list",data:=.seq #[] }:Obj)).update s.heap.objs.size (Rf fun _=>#[])).get? b=some o:=fun b o hb e=>by rw[R4 _ _ _ _ hb];exact QW _ e
 have esz:((s.heap.push ({ cls:=.type "list",data:=.seq #[] }:Obj)).update s.heap.objs.size (Rf fun _=>#[])).objs.size=s.heap.objs.size+1:=by rw[Tc,RG]
 generalize (s.heap.push ({ cls:=.type "list",data:=.seq #[] }:Obj)).update s.heap.objs.size (Rf fun _=>#[])=h2 at *;have nv:v≠s.heap.objs.size:=s_ lv;have nd:d≠s.heap.objs.size:=s_ ld;have hv2:Heap.IsItemsView h2 v d:=let ⟨o,h,x⟩:=hv;⟨o,kp v o nv h,x⟩
 show QX (Q3 prog w) A.in1.in1 (SX (.ref s.heap.objs.size) (.ref v) .none) _ _ {s with heap:=h2};have ty:U2 {s with heap:=h2} (.ref v) "dict_items":=hv2.typeIs;unfold SX;refine QQ (TV (T:="dict_items") ty ?_);refine Sz (fun c=>absurd c ?_) (fun _=>?_)
 ·have e:Td (.ref s.heap.objs.size) (.ref v)=false:=by unfold Td;exact beq_eq_false_iff_ne.mpr (fun h=>nv h.symm)
  rw[e]
  decide
 refine QQ (Kb (s:={s with heap:=h2}) hv2 (kp d o nd ho) hd ?_);have n1:h2.objs.size≠s.heap.objs.size:=by rw[esz];exact Nat.succ_ne_self _
 have hS3:=QW (itO .none false d 0 es.size ep .none .none) hS2;have hI:(h2.push (itO .none false d 0 es.size ep .none .none)).get? h2.objs.size=some _:=Q0 _ rfl;have ez3:(h2.push (itO .none false d 0 es.size ep .none .none)).objs.size=s.heap.objs.size+2:=by rw[RG,esz]
 have kp3:∀b o,b≠s.heap.objs.size->s.heap.get? b=some o->(h2.push (itO .none false d 0 es.size ep .none .none)).get? b=some o:=fun b o n e=>QW _ (kp b o n e);have ty3:U2 {s with heap:=h2.push (itO .none false d 0 es.size ep .none .none) } (.ref v) "dict_items":=let ⟨o,h,x,_⟩:=hv2;⟨o,QW _ h,x⟩
 refine QQ (Rm (PySem.W.kdx_hint ty3 ?_));rw[esz]at hI n1 ⊢;have S3:ISt (s.heap.objs.size+1) d o es.size ep 0 (h2.push (itO .none false d 0 es.size ep .none .none)):=⟨⟨_,_,_,_,hI,.inl rfl⟩,kp3 d o nd ho⟩;generalize h2.push (itO .none false d 0 es.size ep .none .none)=h3 at *;refine Sz (fun _=>?_) (fun c=>absurd (by decide) c);refine QQ (Sy ?_);refine QQ ?_;show QX _ _ (Vx s.heap.objs.size (·.push .none) >>= fun _=>Vx s.heap.objs.size (·.pop)) _ _ _;have hT1:=Rr (Rf (·.push Rn)) hS3 rfl;have hT2:=Rr (Rf (·.pop)) hT1 rfl;have oth:∀b o,b≠s.heap.objs.size->h3.get? b=some o->((h3.update s.heap.objs.size (Rf (·.push Rn))).update s.heap.objs.size (Rf (·.pop))).get? b=some o:=
  fun b o hb e=>(RV _ _ (SK hb)).trans ((RV _ _ (SK hb)).trans e)
 refine QQ (Tp hS3 rfl ?_);refine Tp hT1 rfl ?_;have S4:=S3.keep oth ⟨_,hT2⟩ n1 nd;have ez4:((h3.update s.heap.objs.size (Rf (·.push Rn))).update s.heap.objs.size (Rf (·.pop))).objs.size=s.heap.objs.size+2:=by rw[Tc,Tc,ez3]
 generalize (h3.update s.heap.objs.size (Rf (·.push Rn))).update s.heap.objs.size (Rf (·.pop))=h4 at *;refine QU ⟨SH TN _,?_⟩;refine Aw (A:=A.in1) (n0:=s.heap.objs.size+2) hh hd n1 nd (s_ (My ld)) (fun j=>⟨by show ¬(_:Nat)=_;omega,by show ¬(_:Nat)=_;omega⟩) hn .none es.size 0 {s with heap:=h4} #[] _ rfl (E_ _) S4 hT2 ez4 rfl (fun j x hj=>absurd hj (Qk _)) fun h' c' k1 k2 k3=>⟨rfl,?_⟩
 exact q h' c' (fun b o e=>k1 b o (s_ (Q1 e)) (s_ (My (Q1 e))) (oth b o (s_ (Q1 e)) (kp3 b o (s_ (Q1 e)) e))) k2 fun j e he=>k3 j e (M_.mp he).1 he
end
theorem JN{prog:Q5}{w:Q8}(d:QS)(hd:(d == RS)=false):MeetsIn prog w (RW.«dict.items» ⟨[.ref d],[]⟩) (fun _ R s=>s.TypeIs (.ref d) "dict"/\R (.ok (.ret (.ref s.heap.objs.size))) {s with heap:=s.heap.push { cls:=.type "dict_items",data:=.fields #[.ref d] } }):=
 .of_wp fun A R s ⟨ty,h⟩=>by unfold RW.«dict.items» YA;refine QQ (QQ (Uw ty (show QX _ _ (pure d) _ _ s from QU (show QX _ _ (Tw d >>= _) _ _ s from ?_))));unfold Tw;rw[if_neg (by rw[hd];exact LY)];exact QQ (QU (QQ (Ri (QU ⟨_,rfl,h⟩))))
end ZG
namespace L2
open PySem PySem.Spec PyProof.Rows
section
variable{X:Cx}
theorem DX{H:Hp}:∀{kvs:List (List Key×V)}{xs:List (List Key×QS×QR)},KT H kvs xs->S8 (fun(b:QS) (p:List Key×V)=>H b=some (.tup (p.1.map kV))) (xs.map fun x=>x.2.1) kvs/\Vals (kvs.map (·.2)) (xs.map fun x=>x.2.2):=fun{kvs xs} k=>by
 induction k with
 |nil=>exact⟨.nil,.nil⟩
 |cons h t ih=>exact⟨.cons h.2.1 ih.1,.cons h.2.2 ih.2⟩
theorem xf{ac:List (QS×Obj)}{σ:St}{H:Hp}{s:QV}{d:QS}{kvs:List (List Key×V)}{Q:VK}(I:Inv X ac σ H s)(hc:X.calm=true)(hd:Rd H d (.dT kvs))
  (q:∀(S n0:QS) (H':Hp) (bs:List QS),H S=none->(∀j,n0+j≠S)->bz H H'->H' S=some (.lst ((NN n0 (bs.map V.ref).length).map V.ref))->S8 (fun(b:QS) (p:List Key×V)=>H b=some (.tup (p.1.map kV))) bs kvs->
   (∀j x y,(bs.map V.ref)[j]?=some x->(kvs.map (·.2))[j]?=some y->H' (n0+j)=some (.tup [x,y]))->Q (.ref S) H') :
  QX (Q3 X.prog X.w) X.A (call (.builtin "dict.items") [.ref d]) (fun v s1=>QX (Q3 X.prog X.w) X.A (call (.type "list") [v]) (EP X ac σ Q) X.xe s1) X.xe s:=by
 obtain⟨z,lo,xs,kt,o,es,ep,g1,g2,g3,g4,g5⟩:=(show b6 X.prog X.w H s.heap d (.dT kvs)from hd.ok I.hok);refine X2 Vp ⟨o,g1,g2.1⟩ PySem.F.entry_dict_items (PySem.F.args_dict_items_1 _) (ZG.JN d lo) ⟨⟨o,g1,g2.1⟩,?_⟩;obtain⟨pb,pv⟩:=DX kt;have lx:=R' kt;have les:es.size=xs.length:=by rw[<-g_,g4,a_]
 have ees:∀(j:Nat) (x:List Key×QS×QR),xs[j]?=some x->es[j]?=some (U6 (Sl (b8 X.prog X.w)) x):=fun j x hx=>by rw[<-gV,g4,B_,hx];rfl
 have sz1:(s.heap.push { cls:=.type "dict_items",data:=.fields #[.ref d] }).objs.size=s.heap.objs.size+1:=RG ..;refine ZG.oS (s:={s with heap:=s.heap.push { cls:=.type "dict_items",data:=.fields #[.ref d] } }) (I.ok.hd hc) ⟨_,Q0 _ rfl,rfl,rfl⟩ (QW _ g1) g3 (by omega) fun h' c' k1 k2 k3=>?_
 dsimp only at k1 k2 k3 ⊢;rw[sz1]at k2 k3 ⊢;rw[les]at k2;have kp:∀b u,s.heap.get? b=some u->h'.get? b=some u:=fun b u e=>k1 b u (QW _ e);have hi:∀b:Nat,s.heap.objs.size<=b->H b=none:=fun b hb=>I.hok.fresh hb;have lb:((xs.map fun x=>x.2.1).map V.ref).length=xs.length:=by rw[a_,a_]
 have rb:=nC (xs.map fun x=>x.2.1);generalize hbs:(xs.map fun x=>x.2.1)=bs at *;have hS:lzH H (s.heap.objs.size+1) (s.heap.objs.size+3) (bs.map V.ref) (kvs.map (·.2)) (s.heap.objs.size+1)=some (.lst ((NN (s.heap.objs.size+3) (bs.map V.ref).length).map V.ref)):=by unfold lzH;rw[if_pos rfl]
 have hT:∀j x y,(bs.map V.ref)[j]?=some x->(kvs.map (·.2))[j]?=some y->lzH H (s.heap.objs.size+1) (s.heap.objs.size+3) (bs.map V.ref) (kvs.map (·.2)) (s.heap.objs.size+3+j)=some (.tup [x,y]):=fun j x y hx hy=>by unfold lzH;rw[if_neg (by show ¬(_:Nat)=_;omega),if_pos (M1 _ _),MY,hx,hy]
 have low:∀b:Nat,b<s.heap.objs.size->lzH H (s.heap.objs.size+1) (s.heap.objs.size+3) (bs.map V.ref) (kvs.map (·.2)) b=H b:=fun b hb=>by unfold lzH;rw[if_neg (by show ¬(_:Nat)=_;omega),if_neg (by show ¬(_:Nat)<=_;omega)]
 have sm:bz H (lzH H (s.heap.objs.size+1) (s.heap.objs.size+3) (bs.map V.ref) (kvs.map (·.2))):=fun b o e=>by rw[low b (by have:=I.hok.lt e;exact this)];exact e
 refine⟨.ref (s.heap.objs.size+1),_,I.un (t':=s.toks) (h':=h') (Un.more kp sm low) (HOk.more I.hok kp sm fun b o hn e=>?_),rfl,q _ _ _ bs (hi _ (M1 _ _)) (fun j=>by show ¬(_:Nat)=_;omega) sm hS pb hT⟩;unfold lzH at e;by_cases h1:b=s.heap.objs.size+1
 ·rw[if_pos h1]at e;cases e;subst h1;exact⟨by rw[a_,PV,lb];omega,_,c',nC _,by rw[lb];exact k2⟩
 rw[if_neg h1]at e;by_cases h2:s.heap.objs.size+3<=b
 ·rw[if_pos h2]at e;obtain⟨j,rfl⟩:∃j,b=s.heap.objs.size+3+j:=⟨b-(s.heap.objs.size+3),(Nl h2).symm⟩;rw[MY]at e;cases hx:(bs.map V.ref)[j]? with
  |none=>rw[hx]at e;rw[show H _=none from hn]at e;cases e
  |some x=>
   cases hy:(kvs.map (·.2))[j]? with
   |none=>rw[hx,hy]at e;rw[show H _=none from hn]at e;cases e
   |some y=>
    rw[hx,hy]at e;cases e;have hj:j<xs.length:=by rw[<-lb];exact(c_.mp hx).1
    have ex:=d_ hj;obtain⟨u,hu,ru⟩:=Vals.get rb hx;obtain⟨v,hv,rw2⟩:=Vals.get pv hy;have pr:=k3 j _ (ees j _ ex);rw[<-hbs,z_,B_,ex]at hu;rw[B_,ex]at hv;cases hu;cases hv;exact⟨by show 2<=sizeLine;decide,[_,_],.cons ru (.cons rw2 .nil),⟨_,pr,rfl,0,rfl⟩⟩
 rw[if_neg h2]at e;rw[hn]at e;cases e
end
end L2
namespace PL
open PySem PySem.Spec PyProof.Rows L2
section
variable{X:Cx}{o:Q9}{fe:PF}{p1 pos1 apos cpos:Pos}{m:PM}{name:Str}{id:String}
def liT(t:T)(k:T->Prop):Prop:=match t with
 | .dT _ kvs=>∃ks:List (List Int),kvs.map (·.1)=ks.map kI/\(∀q∈ks,q≠[])/\k (.lst true (((ks.map iT).zip (kvs.map (·.2))).map fun p=>T.tup [p.1,p.2]))
 | _=>False
def fLI(fe:PF):PF:=fun env k=>fe env fun t al=>liT t fun u=>k u al
theorem lL{env:Ev}{k:T->Ev->Prop}:fLI fe env k=fe env fun t al=>liT t fun u=>k u al:=rfl
theorem mh(hc:X.calm=true)(hg1:Gl X "list")(hm1:X.mg "list"=none)(ho:GE X o fe)(hbase:TC o "items" X.env (Rw o X.env)=Rw o X.env:=by rfl)(hline:(apos.endLine == cpos.line)=true:=by rfl)
  (hs2:Ra [.Call (.Attribute o "items" apos) [] [] cpos] X.env=[(false,Rw (.Call (.Attribute o "items" apos) [] [] cpos) X.env)]:=by rfl) :
  GE X (.Call (.Name "list" p1) [.Call (.Attribute o "items" apos) [] [] cpos] [] pos1) (fLI fe):=by
 rintro ac s σ H Q I ⟨env,Fr,k,rs,q,c⟩;refine RY (dE I hg1 hm1 boot_list (callWith_type1 ?_ (by rw[hs2];rfl) rfl));rw[hs2];refine SV ?_;refine Vk hbase hline (thn (ho ac s σ H (fun v H1=>∃t al,(liT t fun u=>k u al)/\Rs X.K H1 al σ ((t,some v)::Fr)) I ⟨env,Fr,_,rs,q,fun t al v H1 q1 rs1=>⟨t,al,q1,rs1⟩⟩) ?_);rintro v s1 ⟨x,H1,I1,r1,t,al,q1,rs1⟩;cases t <;> try exact q1.elim
 rename_i b kvs;obtain⟨ks,e1,e2,kt⟩:=q1;obtain⟨a,vs,rfl,hq,ek,rp2⟩:=qQ rs1.head;cases r1;obtain⟨z,lo,xs,kt',ob,es,ep,g1,g2,g3,g4,g5⟩:=(show b6 X.prog X.w H1 s1.heap a (.dT vs)from hq.ok I1.hok);refine⟨"dict","dict.items",PySem.F.plainAttrs_dict,Vp,PySem.F.type_dict_items,⟨ob,g1,g2.1⟩,fun b e=>?_,Uj rfl (V7 ?_)⟩
 ·cases e;exact⟨ob,g1,g2.2.1⟩
 refine thn (xf I1 hc hq fun S n0 H' bs hS off sm e pb h=>c _ _ _ _ kt (.of rs1.1 ?_)) fun v s2 hv=>U4 hv
 let J:Hp:=fun b=>if b=S then none else H' b
 have s1:bz H1 J:=fun b o q=>by
  have hb:b≠S:=fun z=>by rw[z,hS]at q;cases q
  show(if b=S then none else H' b)=_;rw[if_neg hb];exact sm _ _ q
 have s2:bz J H':=fun b o q=>by
  by_cases hb:b=S
  ·have q:(if b=S then none else H' b)=some o:=q;rw[if_pos hb]at q;cases q
  have q:(if b=S then none else H' b)=some o:=q;rw[if_neg hb]at q;exact q
 have hJ:∀j x y,(bs.map V.ref)[j]?=some x->(vs.map (·.2))[j]?=some y->J (n0+j)=some (.tup [x,y]):=fun j x y hx hy=>by show(if n0+j=S then none else H' (n0+j))=_;rw[if_neg (off j)];exact h j x y hx hy
 obtain⟨rp3,l3⟩:=ji (sM pb (by rw[<-ek];exact e1) e2) rp2;have lv:(kvs.map (·.2)).length=(vs.map (·.2)).length:=by have:=congrArg N_ ek;rw[a_,a_]at this ⊢;exact this
 have lb:(bs.map V.ref).length=(vs.map (·.2)).length:=by rw[a_,a_];exact R' pb
 refine fu (BL _ _ _ _ n0 _ l3 lv lb (rp3.same s1) hJ) ?_ (show(if S=S then none else H' S)=none from if_pos rfl) s2 e;rw[a_,a_,O_,PV,l3,lv,lb,Qy]
theorem AI(slot:Xe "list" name id)(hty:WU (.builtin id)=pure (.type "method_descriptor"))(hm:MtP X id m)(ho:GE X o fe)
  (hbase:TC o name X.env (Rw o X.env)=Rw o X.env:=by rfl) (hline:(apos.endLine == cpos.line)=true:=by rfl) :
  GE X (.Call (.Attribute o name apos) [] [] cpos) (Bu m fe FC):=by
 refine PE.imp (Bj Ua slot hty hm ho hbase hline) ?_;rintro σ H Q ⟨env,Fr,k,rs,q,c⟩;refine⟨env,Fr,_,rs,q,fun t al v H1 ⟨hl,q1⟩ rs1=>⟨yy hl rs1.head,t,[],al.zip σ++Fr,_,rfl,?_,q1,fun t' r w H' kt rp=>c _ _ _ _ kt (.of rs1.1 ?_)⟩⟩
 ·exact rs1.head
 exact(rp.perm (.swap _ _ _)).tail
end
end PL
namespace L2
open PySem PySem.Spec PyProof.Rows
theorem CQ(a b:List Int):(((B' (min a.length b.length)).all fun j=>a.getD j 0 == b.getD j 0)&&a.length == b.length)=decide (a=b):=by
 refine Bool.eq_iff_iff.mpr ?_;rw[Mc,Nh,beq_iff_eq,decide_eq_true_iff];constructor
 ·rintro⟨h,l⟩;refine Qb l fun i h1 h2=>?_;have:=beq_iff_eq.mp (h i (LP.mpr (Nat.lt_min.mpr ⟨h1,h2⟩)));rw[J_,J_,d_ h1,d_ h2]at this;exact this
 rintro rfl;exact⟨fun j _=>beq_self_eq_true _,rfl⟩
section
variable{X:Cx}{ac:List (QS×Obj)}{σ:St}{H:Hp}{s:QV}{A:Rh}
theorem gK{a b:List Int}{us vs:List QR}(r1:Vals (a.map V.int) us)(r2:Vals (b.map V.int) vs)(j:Nat)(g1:j<us.toArray.size)(g2:j<vs.toArray.size):SeqAt.EqAt A s us.toArray[j] vs.toArray[j] (a.getD j 0 == b.getD j 0):=by
 obtain⟨ps,rfl,rfl⟩:=cg r1;obtain⟨qs,rfl,rfl⟩:=cg r2;have h1:j<ps.length:=by simpa using g1
 have h2:j<qs.length:=by simpa using g2
 rw[J_,J_,B_,B_,d_ h1,d_ h2,Pu,Pu,Qd,Qd];exact .int_int _ _ _ _
def EqS(K:QT)(H:Hp)(x y:V)(b:Bool):Prop:=
 (∃i j,x=.int i/\y=.int j/\b=decide (i=j))\/(∃i j,x=.str i/\y=.str j/\b=decide (i=j))\/(∃i j,x=.bl i/\y=.bl j/\b=(i == j))\/
 ∃c p q,∃u v:List Int,x=.ref p/\y=.ref q/\b=decide (u=v)/\SqG c K H p (u.map V.int)/\SqG c K H q (v.map V.int)
theorem Dg(I:Inv X ac σ H s)(hu:A.units<cLine){x y:V}{v u:QR}{b:Bool}(rx:RelV x v)(ry:RelV y u)(h:EqS X.K H x y b):SeqAt.RcAt A s v u b/\SeqAt.RcNeAt A s v u (!b):=by
 rcases h with⟨i,j,rfl,rfl,rfl⟩|⟨i,j,rfl,rfl,rfl⟩|⟨i,j,rfl,rfl,rfl⟩|⟨c,p,q,a,d,rfl,rfl,rfl,s1,s2⟩
 ·obtain⟨_,rfl⟩:=rx;obtain⟨_,rfl⟩:=ry;rw[<-Pm];exact⟨.int_int _ _ _ _,.int_int _ _ _ _⟩
 ·obtain⟨_,rfl⟩:=rx;obtain⟨_,rfl⟩:=ry;rw[<-Pm];exact⟨.str_str _ _ _ _,.str_str _ _ _ _⟩
 ·cases rx;cases ry;exact⟨.bool_bool _ _,.bool_bool _ _⟩
 cases rx;cases ry;have key:=CQ a d;cases c with
 |true=>
  obtain⟨us,r1,p1,_⟩:=I.tuple s1;obtain⟨vs,r2,p2,_⟩:=I.tuple s2;have l1:us.toArray.size=a.length:=by rw[o_,<-r1.length,a_]
  have l2:vs.toArray.size=d.length:=by rw[o_,<-r2.length,a_]
  have k1:=YO p1 p2 hu (gK r1 r2);have k2:=YB p1 p2 hu (gK r1 r2);rw[l1,l2,key]at k1 k2;exact⟨k1,k2⟩
 |false=>
  obtain⟨us,r1,p1,_⟩:=I.list s1;obtain⟨vs,r2,p2,_⟩:=I.list s2;have l1:us.toArray.size=a.length:=by rw[o_,<-r1.length,a_]
  have l2:vs.toArray.size=d.length:=by rw[o_,<-r2.length,a_]
  by_cases e:a.length=d.length
  ·have k1:=YU p1.isList p2.isList (by rw[l1,l2,e]) hu (gK r1 r2);have k2:=YI p1.isList p2.isList (by rw[l1,l2,e]) hu (gK r1 r2);rw[<-e,Qy,beq_self_eq_true,PC]at key;rw[l1,key]at k1 k2;exact⟨k1,k2⟩
  have hz:(us.toArray.size != vs.toArray.size)=true:=by rw[l1,l2];exact bne_iff_ne.mpr e
  rw[decide_eq_false fun z=>e (by rw[z])];exact⟨.lists_lengths p1.isList p2.isList hz hu,.lists_lengths p1.isList p2.isList hz hu⟩
def Jn(K:QT)(neg:Bool):R2:=fun x y H Q=>∃b,EqS K H x y b/\Q (.bl (b != neg)) H
theorem Dk(hu:X.A.units<cLine):OpR X (RO .Eq) (Jn X.K false):=by rintro ac s σ H x y v u Q I rx ry ⟨b,e,q⟩;rw[Qq]at q;exact(Dg I hu rx ry e).1 _ _ _ _ ⟨.bl b,H,I,rfl,q⟩
theorem GL(hu:X.A.units<cLine):OpR X (RO .NotEq) (Jn X.K true):=by rintro ac s σ H x y v u Q I rx ry ⟨b,e,q⟩;rw[Qv]at q;exact(Dg I hu rx ry e).2 _ _ _ _ ⟨.bl (!b),H,I,rfl,q⟩
end
end L2
namespace PL
open PySem PySem.Spec PyProof.Rows L2
def HX(t u:T):Option Bool:=match t with
 | .int i=>match u with
  | .int j=>some (decide (i=j))
  | _=>none
 | .str i=>match u with
  | .str j=>some (decide (i=j))
  | _=>none
 | .bl i=>match u with
  | .bl j=>some (i == j)
  | _=>none
 | _=>(items t).bind fun ts=>(items u).bind fun us=>(intsOf ts).bind fun a=>(intsOf us).bind fun b=>if iX t=iX u then some (decide (a=b))else none
def eqS:P2:=fun t u k=>got (HX t u) fun b=>k (.bl b)
def neS:P2:=fun t u k=>got (HX t u) fun b=>k (.bl (!b))
theorem By{K:QT}{H:Hp}{Γ:Fm}{t u:T}{x y:V}{b:Bool}(rp:Rp K H ((u,some y)::(t,some x)::Γ))(e:HX t u=some b):EqS K H x y b:=by
 have seq:∀{t:T},Rp K H ((u,some y)::(t,some x)::Γ)->((items t).bind fun ts=>(items u).bind fun us=>(intsOf ts).bind fun a=>(intsOf us).bind fun b=>if iX t=iX u then some (decide (a=b))else none)=some b->EqS K H x y b:=by
  intro t rp e;obtain⟨ts,e1,f1⟩:=Nn.mp e;obtain⟨us,e2,f2⟩:=Nn.mp f1;obtain⟨a,e3,f3⟩:=Nn.mp f2;obtain⟨c,e4,f4⟩:=Nn.mp f3;clear e f1 f2 f3;have e5:=cC e3;have e6:=cC e4;subst e5 e6;by_cases h:iX t=iX u
  ·rw[if_pos h]at f4;cases f4;obtain⟨p,xs,rfl,s1,l1,r1⟩:=aD e1 rp.tail;obtain⟨q,ys,rfl,s2,l2,r2⟩:=aD e2 rp;have v1:=dy l1 r1;have v2:=dy l2 r2;subst v1 v2;rw[h]at s1;exact .inr (.inr (.inr ⟨_,p,q,a,c,rfl,rfl,rfl,s1,s2⟩))
  rw[if_neg h]at f4;cases f4
 cases t <;> try exact seq rp e
 ·cases u <;> cases e
  rw[jP rp,jP rp.tail];exact .inr (.inr (.inl ⟨_,_,rfl,rfl,rfl⟩))
 ·cases u <;> cases e
  rw[aJ rp,aJ rp.tail];exact .inl ⟨_,_,rfl,rfl,rfl⟩
 cases u <;> cases e
 rw[hX rp,hX rp.tail];exact .inr (.inl ⟨_,_,rfl,rfl,rfl⟩)
section
variable{X:Cx}
theorem bF{k:Nat}(hr:Room k X.A):OpP X (RO .Eq) eqS:=.of (Dk (G7 hr (n:=0) (by decide))) fun tx ty x y H Γ k Q rp g c=>by obtain⟨b,e,g⟩:=aE g;refine⟨b,By rp e,?_⟩;rw[Qq];exact c _ _ _ g (bQ rp.tail.tail fun _=>.bl)
theorem mF{k:Nat}(hr:Room k X.A):OpP X (RO .NotEq) neS:=.of (GL (G7 hr (n:=0) (by decide))) fun tx ty x y H Γ k Q rp g c=>by obtain⟨b,e,g⟩:=aE g;refine⟨b,By rp e,?_⟩;rw[Qv];exact c _ _ _ g (bQ rp.tail.tail fun _=>.bl)
end
section
variable{i j:Int}{x y:Str}{b c:Bool}{k:T->Prop}
theorem kH:eqS (.int i) (.int j) k=k (.bl (decide (i=j))):=rfl
theorem m5:neS (.int i) (.int j) k=k (.bl (!decide (i=j))):=rfl
theorem kO:eqS (.str x) (.str y) k=k (.bl (decide (x=y))):=rfl
theorem lG:neS (.str x) (.str y) k=k (.bl (!decide (x=y))):=rfl
theorem kZ:neS (.bl b) (.bl c) k=k (.bl (!(b == c))):=rfl
theorem j9{a b c d:Int}:eqS (.tup [.int a,.int b]) (.tup [.int c,.int d]) k=k (.bl (decide (a=c/\b=d))):=by show k (.bl (decide ([a,b]=[c,d])))=_;simp only[MK,and_true]
end
end PL
namespace Mp
open PySem L2
noncomputable def top(i:Nat):RC:=PySem.Challenge.pw_millpath_k57_areas_put_together.main.body.getD i (.Pass ⟨0,0,0,0⟩)
abbrev nu:RC:=top 2
abbrev jV:RC:=top 3
abbrev og:RC:=top 5
abbrev tU:RC:=top 6
abbrev uL:RC:=top 7
abbrev nz:RC:=top 9
abbrev ui:RC:=top 10
abbrev nF:RC:=top 12
abbrev fq:RC:=top 13
abbrev j8:RC:=top 14
abbrev eP:RC:=top 15
abbrev j7:RC:=top 17
abbrev kK:RC:=top 18
abbrev nB:RC:=top 19
abbrev nP:RC:=top 20
abbrev oT:RC:=top 22
abbrev uB:RC:=top 23
abbrev wL:RC:=top 24
abbrev xy:RC:=top 25
abbrev nW:RC:=top 26
abbrev s_same:RC:=top 27
abbrev uw:RC:=top 28
abbrev qo:RC:=top 29
abbrev nH:RC:=top 30
abbrev CY:RC:=top 31
abbrev t7:RC:=top 32
abbrev pX:RC:=top 33
abbrev jk:RC:=top 34
variable {kvs:List (Key×V)}
theorem vf{k:Key}{v:V}:eT ((k,v)::kvs) k=some v:=by
 unfold eT;rw[MA,show(decide ((k,v).1=k))=true from decide_eq_true rfl]
 rfl
theorem rT{k k':Key}{v:V}(h:¬k=k'):eT ((k,v)::kvs) k'=eT kvs k':=by unfold eT;rw[MA,show(decide ((k,v).1=k'))=false from decide_eq_false h]
theorem key_ne:¬((Rv (some ("cells":Str)):Key)=Rv (some ("turn":Str))):=by rfl'
noncomputable def stK(c:QS)(t:Int):List (Key×V):=[(Rv (some ("cells":Str)),V.ref c),(Rv (some ("turn":Str)),V.int t)]
theorem wx(c:QS)(t:Int):eT (stK c t) (Rv (some ("cells":Str)))=some (.ref c):=vf
theorem yK(c:QS)(t:Int):eT (stK c t) (Rv (some ("turn":Str)))=some (.int t):=by unfold stK;rw[rT key_ne];exact vf
theorem Hu(c:QS)(t u:Int):putK (stK c t) (Rv (some ("turn":Str))) (.int u)=stK c u:=by
 have e:((stK c t).any fun kv=>decide (kv.1=(Rv (some ("turn":Str)):Key)))=true:=by rw[mM,yK];rfl
 unfold putK;rw[if_pos e];show [(if(Rv (some ("cells":Str)):Key)=Rv (some ("turn":Str))then _ else _),(if(Rv (some ("turn":Str)):Key)=Rv (some ("turn":Str))then _ else _)]=stK c u;rw[if_neg key_ne,if_pos rfl]
 rfl
structure StAt (H:Hp) (st c:QS) (cs:List Int) (t:Int):Prop where
 d:H st=some (.dK (stK c t))
 l:H c=some (.lst (cs.map V.int))
 pos:0<cs.length
 len:cs.length<=63
variable {H:Hp}{cs:List Int}{st:QS}
theorem StAt.ne {c:QS}{t:Int}(S:StAt H st c cs t):st≠c:=Dp S.d S.l (by intro z;cases z)
variable {H':Hp}
theorem StAt.same {c:QS}{t:Int}(S:StAt H st c cs t)(e:bz H H'):StAt H' st c cs t:=⟨e _ _ S.d,e _ _ S.l,S.pos,S.len⟩
structure Txt (mg:Str->Option QR):Prop where
 len:mg "len"=none
 list:mg "list"=none
 divmod:mg "divmod"=none
 isinstance:mg "isinstance"=none
 dict:mg "dict"=none
 tuple:mg "tuple"=none
 str:mg "str"=none
 int:mg "int"=none
 bool:mg "bool"=none
 all:mg "all"=none
 any:mg "any"=none
 zip:mg "zip"=none
 range:mg "range"=none
 max:mg "max"=none
 min:mg "min"=none
 abs:mg "abs"=none
 sum:mg "sum"=none
 sorted:mg "sorted"=none
 enumerate:mg "enumerate"=none
 set:mg "set"=none
 reversed:mg "reversed"=none
def FV(K:QT):Sp:=fun vs H Q _=>∃(a:QS) (ns:List Int),vs=[.ref a]/\SqL K H a (ns.map V.int)/\ns.length<=63/\∀(st c:QS) (cs:List Int) (H':Hp),H st=none->H c=none->StAt H' st c cs 0->bz H H'->Q (.ref st) H'
def HB:Sp:=fun vs H Q _=>∃(st c:QS) (cs:List Int) (t m:Int),vs=[.ref st,.int m]/\StAt H st c cs t/\0<=t/\t<2 ^ 40/\0<m/\m<1073741824/\
 ∀(r:Int) (cs':List Int) (H':Hp),0<=r->r<m->StAt H' st c cs' (t+1)->Kp st c H H'->Q (.int r) H'
variable {fd:Rj}
section
variable{P:Q5}{w:Q8}{K:QT}{mg:Str->Option QR}{base:Q_}
theorem scB:FnScope ["_law_script","_law_cells"] ["_law_script"] (av oT):=⟨rfl,rfl,rfl,by rfl',rfl,by rfl',by rfl'⟩
theorem Dc{f:QS}(F:Fun K "_law_begin" "_law_begin" oT f fd)(T:Txt mg):FnOk P w K mg base CX0 1 f fd ["_law_script"] (FV K):=by
 refine F.ok scB (fun vs H Q E h=>?_) (fun cdv A outer s H vs Q E hr h=>?_)
 ·obtain⟨a,ns,rfl,_⟩:=h
  rfl
 obtain⟨a,ns,rfl,hS,h63,q⟩:=h;have sc:=@scB;refine⟨_,(bR (jd (i:=1) sc.nd rfl (f_ rfl) (rY tT (by rfl) T.list (by rfl') (f9 (v9 yQ (pv 0) yu (zu cc)) kq)))
  (bR (D6 (uS (Dk (Nat.lt_of_succ_lt (se hr))) (pv 1) (CP kq) (aK _)) (md (jd (i:=1) sc.nd rfl (f_ rfl) (CP (f9 cc kq)))) tX)
  (md (uR (F7 (vG iZ (pv 1) (vG iZ cc F5)) rfl rfl (by intro z;cases z) (by decide)))))),?_⟩
 refine⟨_,rfl,_,rfl,a,_,rfl,hS,fun p hp=>⟨p,_,rfl,.inl (SqL.of aO),fun l hl=>?_⟩⟩;obtain⟨zs,ez,lz⟩:∃zs:List Int,iV (ns.map V.int) none (some 63)=zs.map V.int/\zs.length<=63:=by refine⟨_,by unfold iV;rw[<-PD,<-List.map_take],?_⟩;exact m_ (NL _ _) (m_ (by rw[K_];omega) h63)
 have hp0:H p=none:=hp;have hl0:H l=none:=(bL hp _).none hl;have g1:bz H (upd (upd H p (.lst (iV (ns.map V.int) none (some 63)))) l (.lst (iV (ns.map V.int) none (some 63)))):=(bL hp _).trans' (bL hl _);refine⟨_,rfl,(by show 0<=sizeLine;decide),fun e he=>?_⟩;have hul:∀o,upd (upd (upd H p (.lst (iV (ns.map V.int) none (some 63)))) l (.lst (iV (ns.map V.int) none (some 63)))) e o l=some (.lst (zs.map V.int)):=fun o=>by rw[aN (bG aO he),aO,ez]
 have he0:H e=none:=g1.none he;have g2:=g1.trans' (bL he (.lst []));refine⟨decide (zs=[]),.inr (.inr (.inr ⟨false,_,_,zs,[],rfl,rfl,rfl,SqL.of (hul _),SqL.of aO⟩)),_,rfl,?_⟩;have fin:∀(c:QS) (cs:List Int) (H2:Hp),H c=none->bz H H2->H2 c=some (.lst (cs.map V.int))->0<cs.length->cs.length<=63->∀p,H2 p=none->StAt (upd (upd H2 p (.dK [])) p (.dK (ju [] [(Rv (some ("cells":Str)),V.ref c),(Rv (some ("turn":Str)),V.int 0)]))) p c cs 0/\bz H (upd (upd H2 p (.dK [])) p (.dK (ju [] [(Rv (some ("cells":Str)),V.ref c),(Rv (some ("turn":Str)),V.int 0)]))):=fun c cs H2 hc g h1 h2 h3 p hp=>by
  have em:ju [] [((Rv (some ("cells":Str)):Key),V.ref c),(Rv (some ("turn":Str)),V.int 0)]=stK c 0:=by
   show putK (putK ([]:List (Key×V)) (Rv (some ("cells":Str))) (V.ref c)) (Rv (some ("turn":Str))) (V.int 0)=stK c 0;rw[vi _ (show eT ([]:List (Key×V)) (Rv (some ("cells":Str)))=none from rfl),Ot,vi _ (show eT [((Rv (some ("cells":Str)):Key),V.ref c)] (Rv (some ("turn":Str)))=none by rw[rT key_ne];rfl)]
   rfl
  rw[em,Fq];exact⟨⟨aO,by rw[aN (bG h1 hp)];exact h1,h2,h3⟩,g.trans' (bL hp _)⟩
 refine KS (fun c=>?_) (fun c=>?_)
 ·
  refine⟨(by show 1<=sizeLine;decide),fun c7 h7=>?_⟩;have g3:=g2.trans' (bL h7 (.lst [V.int 7]));intro p' hp';obtain⟨S,g4⟩:=fin c7 [7] _ (g2.none h7) g3 aO (by decide) (by decide) p' hp';refine⟨_,rfl,?_,[(Rv (some ("cells":Str)),V.ref c7),(Rv (some ("turn":Str)),V.int 0)],rfl,(by show 2<=15;decide),?_⟩
  ·exact aO
  exact q p' c7 [7] _ (g3.none hp') (g2.none h7) S g4
 have c0:0<zs.length:=by
  cases zs with
  |nil=>exact absurd c (by decide)
  |cons a r=>exact Qz _
 intro p' hp';obtain⟨S,g4⟩:=fin l zs _ hl0 g2 (hul _) c0 lz p' hp';refine⟨_,rfl,?_,[(Rv (some ("cells":Str)),V.ref l),(Rv (some ("turn":Str)),V.int 0)],rfl,(by show 2<=15;decide),?_⟩
 ·exact aO
 exact q p' l zs _ (g2.none hp') hl0 S g4
theorem scT:FnScope ["_law_state","_law_many","_law_turn","_law_place","_law_cell","_law_digit","_law_mixed"] ["_law_state","_law_many"] (av uB):=⟨rfl,rfl,rfl,by rfl',rfl,by rfl',by rfl'⟩
theorem EN{f:QS}(F:Fun K "_law_take" "_law_take" uB f fd)(T:Txt mg):FnOk P w K mg base CX0 1 f fd ["_law_state","_law_many"] HB:=by
 refine F.ok scT (fun vs H Q E h=>?_) (fun cdv A outer s H vs Q E hr h=>?_)
 ·obtain⟨st,c,cs,t,m,rfl,_⟩:=h
  rfl
 obtain⟨st,c,cs,t,m,rfl,S,ht0,ht,hm0,hm1,q⟩:=h;have sc:=@scT;have hu:=se hr;refine⟨_,(bR (jd (i:=2) sc.nd rfl (f_ rfl) (cK pM (pf hu (pv 0) iZ (fun _ _=>rfl)) cc))
  (bR (Eh hu (pv 0) iZ (pv 2) rfl)
  (bR (jd (i:=3) sc.nd rfl (f_ rfl) (cK nA (pv 2) (pJ mD (by rfl) T.len (by rfl') (f9 (pf hu (pv 0) iZ (fun _ _=>rfl)) kq))))
  (bR (jd (i:=4) sc.nd rfl (f_ rfl) (Gq yC (pf hu (pv 0) iZ (fun _ _=>rfl)) (pv 3) (fun _ _=>rfl)))
  (bR (D6 (uS GB (pv 4) (cK II cc cc) (aK _)) (bR (Cz (pJ vM (by rfl) T.divmod (by rfl') (f9 (pv 4) (f9 (pv 1) kq))) (BG rfl (pB (DM (pf hu (pv 0) iZ (fun _ _=>rfl)) (pv 3) set_list) (pB (zN (i:=5) sc.nd rfl (f_ rfl)) zq))))
  (md (uR (pv 5)))) tX)
  (bR (jd (i:=6) sc.nd rfl (f_ rfl) (cK nA (cK lK (cK pM (cK pM (cK nA (pv 4) cc) (cK lK (cK lK (pv 2) (pv 2)) cc)) cc) cc) cc))
  (bR (jd (i:=6) sc.nd rfl (f_ rfl) (cK nA (cK lK (pv 6) (pv 6)) cc))
  (md (uR (cK nA (cK zK (cK nA (cK lK (cK pM (pv 6) (cK lK (pv 2) cc)) cc) cc) cc) (pv 1))))))))))),?_⟩
 have D0:oO H st (.str ("turn":Str)) (some (.int t)):=by rw[<-yK c t];exact oO.k (k:=Rv (some ("turn":Str))) S.d
 refine⟨_,rfl,st,_,rfl,D0,_,_,rfl,rfl,?_⟩;have hP:AW H st (.str ("turn":Str)) (.int (t+1)) (upd H st (.dK (stK c (t+1)))):=by rw[<-Hu c t (t+1)];exact AW.k (k:=Rv (some ("turn":Str))) S.d (by show 2<sizeLine;decide)
 refine⟨_,rfl,_,rfl,st,_,rfl,hP,?_⟩;have S1:StAt (upd H st (.dK (stK c (t+1)))) st c cs (t+1):=⟨aO,by rw[aN S.ne.symm];exact S.l,S.pos,S.len⟩;have K1:Kp st c H (upd H st (.dK (stK c (t+1)))):=fun b o e n1 n2=>by rw[aN n1];exact e
 generalize upd H st (.dK (stK c (t+1)))=H1 at S1 K1 ⊢;have D1:oO H1 st (.str ("cells":Str)) (some (.ref c)):=by rw[<-wx c (t+1)];exact oO.k (k:=Rv (some ("cells":Str))) S1.d
 have hl:(cs.map V.int).length=cs.length:=a_ _;have hpos:(0:Int)<(((cs.map V.int).length:Nat):Int):=by rw[hl];have:=S.pos;omega
 refine⟨_,rfl,_,rfl,st,_,rfl,D1,c,_,rfl,.inl (SqL.of S1.l),_,_,rfl,rfl,hpos,?_⟩;have j0:0<=(t+1)%(((cs.map V.int).length:Nat):Int):=Ov _ (by omega);have j1:(t+1)%(((cs.map V.int).length:Nat):Int)<(cs.length:Int):=by have:=NY (t+1) hpos;rw[hl]at this ⊢;exact this
 obtain⟨v,hat⟩:∃v:Int,atI (cs.map V.int) ((t+1)%(((cs.map V.int).length:Nat):Int))=some (.int v):=⟨_,BW j0 j1⟩;refine⟨_,rfl,st,_,rfl,D1,_,rfl,c,_,_,_,rfl,rfl,SqL.of S1.l,hat,?_⟩;refine⟨_,rfl,_,_,rfl,rfl,⟨by decide,by decide,by decide⟩,_,_,rfl,rfl,_,rfl,?_⟩;refine KS (fun hc=>?_) (fun hc=>?_)
 ·
  refine⟨_,rfl,_,rfl,_,_,rfl,⟨hm0,hm1⟩,fun p hp=>?_⟩;have g:=bL hp (.tup [.int (v/m),.int (v%m)]);have S2:=S1.same g;have D2:oO (upd H1 p (.tup [.int (v/m),.int (v%m)])) st (.str ("cells":Str)) (some (.ref c)):=by rw[<-wx c (t+1)];exact oO.k (k:=Rv (some ("cells":Str))) S2.d
  refine⟨p,_,rfl,SqT.of aO,rfl,_,_,rfl,?_⟩;refine⟨_,rfl,st,_,rfl,D2,_,rfl,c,_,_,((t+1)%(((cs.map V.int).length:Nat):Int)).toNat,rfl,rfl,S2.l,yA j0 (by rw[hl];rw[hl]at j1;exact j1),?_⟩;refine⟨_,_,rfl,rfl,?_⟩;refine⟨_,rfl,?_⟩;have es:∀j:Nat,(cs.map V.int).set j (.int (v/m))=(cs.set j (v/m)).map V.int:=fun j=>by rw[List.map_set]
  refine q (v%m) (cs.set ((t+1)%(((cs.map V.int).length:Nat):Int)).toNat (v/m)) _ (Ov _ (by omega)) (NY _ hm0) ⟨?_,?_,?_,?_⟩ ?_
  ·rw[aN S2.ne];exact S2.d
  ·rw[aO,es]
  ·rw[LX];exact S.pos
  ·rw[LX];exact S.len
  intro b o e n1 n2;rw[aN n2];exact g b o (K1 b o e n1 n2)
 
 have mulR:∀(x y:Int),-(2 ^ 64)<y->y<2 ^ 64->wy x y:=fun x y h1 h2=>.inr ⟨h1,h2⟩;refine⟨_,rfl,_,_,rfl,rfl,(by show(0:Int)<2147483629;decide),_,rfl,_,rfl,_,_,rfl,rfl,mulR _ _ (by omega) (by omega),_,_,rfl,rfl,mulR _ _ (by decide) (by decide),_,_,rfl,rfl,_,_,rfl,rfl,_,_,rfl,rfl,mulR _ _ (by decide) (by decide),_,_,rfl,rfl,(by show(0:Int)<2147483647;decide),?_⟩;generalize hM:(v%2147483629+(t+1)*(t+1)*7919+11)*48271%2147483647=M;have m0:0<=M:=by rw[<-hM];exact Ov _ (by decide)
 have m1:M<2147483647:=by rw[<-hM];exact NY _ (by decide)
 refine⟨_,rfl,_,rfl,_,_,rfl,rfl,mulR _ _ (by omega) (by omega),_,_,rfl,rfl,(by show(0:Int)<2147483587;decide),?_⟩;refine⟨_,rfl,_,rfl,_,_,rfl,rfl,mulR _ _ (by decide) (by decide),_,_,rfl,rfl,_,_,rfl,rfl,mulR _ _ (by decide) (by decide),_,_,rfl,rfl,(by show(0:Int)<2147483629;decide),_,_,rfl,rfl,⟨by decide,by decide⟩,_,rfl,_,_,rfl,rfl,hm0,?_⟩;exact q _ cs H1 (Ov _ (by omega)) (NY _ hm0) S1 K1
end
open PySem L2 PL
structure Cells where
 cs:List Int
 pos:0<cs.length
 len:cs.length<=63
noncomputable def stT(c:Cells)(n:Nat):T:=.dK true [(Rv (some ("cells":Str)),.lst true (c.cs.map T.int)),(Rv (some ("turn":Str)),.int (n:Int))]
variable {n:Nat}
theorem gB{c:Cells}:isAny (stT c n)=false:=rfl
def Scr(K:QT)(t:T)(ns:List Int):Prop:=t=.lst false (ns.map T.int)\/∃a,t=.hole (.ref a)/\∀H,SqL K H a (ns.map V.int)
def uH(K:QT):FP:=fun ts k=>∃t,∃ns:List Int,ts=[t]/\Scr K t ns/\ns.length<=63/\∀c,k (stT c 0) ts
def kU:FP:=fun ts k=>∃c n m,ts=[stT c n,.int m]/\n<2 ^ 40/\0<m/\m<1073741824/\∀r c',0<=r->r<m->k (.int r) [stT c' (n+1),.int m]
variable {Γ:Fm}{α β:Type}
section
variable{P:Q5}{w:Q8}{K:QT}{mg:Str->Option QR}{base:Q_}
theorem ug{l:List (α×β)}{a b:α}(h:[a,b]=l.map (·.1)):∃v w,l=[(a,v),(b,w)]:=by
 cases l with
 |nil=>cases h
 |cons x l=>
  cases l with
  |nil=>cases h
  |cons y l=>
   cases l with
   |nil=>
    have h1:=(M' h).1;have h2:=(M' (M' h).2).1;exact⟨x.2,y.2,by rw[h1,h2]⟩
   |cons z l=>cases (M' (M' h).2).2
theorem uT{a:QS}{o:HO}(h:H a=some o):Put H a o H:=⟨h,fun _ _=>rfl⟩
theorem Kt{c:Cells}{v:V}(h:Rp K H ((stT c n,some v)::Γ)):∃st l,v=.ref st/\StAt H st l c.cs n/\Rp K H ((.bare,some (.ref st))::(.bare,some (.ref l))::Γ):=by
 obtain⟨st,kvs,ev,hs,ek,h2⟩:=qc h;cases ev;obtain⟨v1,v2,rfl⟩:=ug ek;have h2:Rp K H ((.bare,some (.ref st))::(.lst true (c.cs.map T.int),some v1)::(.int (n:Int),some v2)::Γ):=h2;have e2:v2=.int n:=aJ h2.tail.tail;subst e2;have h3:=h2.perm (.swap _ _ _);obtain⟨l,vs,el,hl,ll,h4⟩:=dM h3;cases el;have ev:vs=c.cs.map V.int:=dy ll h4.tail;subst ev;refine⟨st,l,rfl,⟨hs,hl,c.pos,c.len⟩,?_⟩;have h5:Rp K H ((.bare,some (.ref l))::(.bare,some (.ref st))::(.int (n:Int),some (.int n))::Γ):=by have:Rp K H (zz (c.cs.map T.int) (c.cs.map V.int)++((.bare,some (.ref l))::(.bare,some (.ref st))::(.int (n:Int),some (.int n))::Γ)):=h4.perm i_.symm;exact this.part
 exact(h5.perm (by refine D' (.cons _ (.swap _ _ _)) ?_;refine D' (.swap _ _ _) ?_;exact .cons _ (.swap _ _ _))).tail
theorem wg{H:Hp}{Γ:Fm}:∀(ns:List Int),Rp K H Γ->Rp K H (zz (ns.map T.int) (ns.map V.int)++Γ)
 | [],h=>h
 |n::r,h=>bQ (wg r h) fun _=>.int
theorem C7{l:QS}(S:StAt H st l cs n)(h:Rp K H ((.bare,some (.ref st))::(.bare,some (.ref l))::Γ)):∃c,Rp K H ((stT c n,some (.ref st))::Γ):=by
 refine⟨⟨cs,S.pos,S.len⟩,?_⟩;have h1:Rp K H ((.bare,some (.ref l))::(zz (cs.map T.int) (cs.map V.int)++((.bare,some (.ref st))::Γ))):=(wg cs (h.perm (.swap _ _ _))).perm i_;have h2:=eF h1 (by rw[a_,a_]) (uT S.l);have h3:Rp K H ((.bare,some (.ref st))::((.lst true (cs.map T.int),some (.ref l))::(.int (n:Int),some (.int n))::Γ)):=by refine(bQ (t:=.int (n:Int)) h2 fun _=>.int).perm ?_;refine D' (.swap _ _ _) ?_;refine D' (.cons _ (.swap _ _ _)) ?_;exact .swap _ _ _
 exact sE (ts:=[(Rv (some ("cells":Str)),.lst true (cs.map T.int)),(Rv (some ("turn":Str)),.int (n:Int))]) (vs:=stK l n) h3 rfl (uT S.d)
theorem K0{a c:QS}(h:Rp K H ((.bare,some (.ref a))::(.bare,some (.ref c))::Γ))(k:Kp a c H H')(ha:∃u,H' a=some u/\∀xs,u≠.tup xs)(hc:∃u,H' c=some u/\∀xs,u≠.tup xs):Rp K H' ((.bare,some (.ref a))::(.bare,some (.ref c))::Γ):=by
 obtain⟨ua,ea,na⟩:=ha;obtain⟨uc,ec,nc⟩:=hc;obtain⟨Hz,N,h,nd,g,d⟩:=h;cases h with
 |cons e1 h1 c1=>
  cases c1 with
  |cons e2 h2 c2=>
   rcases h1 with⟨z,_⟩|⟨v1,ev1,h1⟩
   ·cases z
   rcases h2 with⟨z,_⟩|⟨v2,ev2,h2⟩
   ·cases z
   cases ev1;cases ev2;cases h1;cases h2;rename_i M u1 hu1 nt1 u2 hu2 nt2;subst e2;subst e1;have nd':(a::c::M).Nodup:=nd;rw[F_,F_]at nd';have keep:∀b o,H b=some o->b≠a->b≠c->H' b=some o:=k;have tk:TK H H':=fun b xs r=>keep b _ r (fun z=>nt1 xs (z▸r)) (fun z=>nt2 xs (z▸r));have za:Hz a=none:=d a u_;have zc:Hz c=none:=d c (n_ _ u_);have g':Gr Hz H':=fun b u r=>by
    obtain⟨w',q⟩:=Rd.some r;have b1:b≠a:=fun z=>by rw[z,za]at q;cases q
    have b2:b≠c:=fun z=>by rw[z,zc]at q;cases q
    rcases g b u r with r|⟨o,r⟩
    ·exact .inl (keep b _ r b1 b2)
    exact .inr ⟨o,keep b _ r b1 b2⟩
   refine⟨Hz,[a]++([c]++M),.cons rfl (.inr ⟨_,rfl,.bare ea fun xs z=>?_⟩) (.cons rfl (.inr ⟨_,rfl,.bare ec fun xs z=>?_⟩) (c2.move tk .bY fun b m u e=>?_)),nd,g',d⟩
   ·rw[ea]at z;exact na xs (H_ z)
   ·rw[ec]at z;exact nc xs (H_ z)
   have b1:b≠a:=fun z=>nd'.1 (by rw[<-z];exact n_ _ m)
   have b2:b≠c:=fun z=>nd'.2.1 (by rw[<-z];exact m)
   exact⟨keep b u e b1 b2,fun nt xs r=>nt xs (by rw[keep b u e b1 b2]at r;exact e.trans r)⟩
theorem EC{a c:QS}(h:Rp K H Γ)(ha:H a=none)(hc:H c=none)(ne:a≠c)(s:bz H H')(ea:∃u,H' a=some u/\∀xs,u≠.tup xs)(ec:∃u,H' c=some u/\∀xs,u≠.tup xs):Rp K H' ((.bare,some (.ref a))::(.bare,some (.ref c))::Γ):=by
 obtain⟨ua,ea,na⟩:=ea;obtain⟨uc,ec,nc⟩:=ec;obtain⟨Hz,N,h,nd,g,d⟩:=h;have n1:a ∉ N:=fun m=>by obtain⟨⟨u,e⟩,_⟩:=h.there a m;rw[ha]at e;cases e
 have n2:c ∉ N:=fun m=>by obtain⟨⟨u,e⟩,_⟩:=h.there c m;rw[hc]at e;cases e
 refine⟨Hz,[a]++([c]++N),.cons rfl (.inr ⟨_,rfl,.bare ea fun xs z=>?_⟩) (.cons rfl (.inr ⟨_,rfl,.bare ec fun xs z=>?_⟩) (h.move (bz.tk s) .bY fun b m u e=>fB s b u e)),?_,g.trans (.of s),?_⟩
 ·rw[ea]at z;exact na xs (H_ z)
 ·rw[ec]at z;exact nc xs (H_ z)
 ·show(a::c::N).Nodup;rw[F_,F_];exact⟨fun m=>(p_.mp m).elim (fun z=>ne z) n1,n2,nd⟩
 intro b m;have m:b∈a::c::N:=m;rcases p_.mp m with rfl|m
 ·exact g.none ha
 rcases p_.mp m with rfl|m
 ·exact g.none hc
 exact d b m
theorem BU(D:Dfn K mg "_law_take" uB ["_law_state","_law_many"])(TX:Txt mg):Cal P w K mg base 1 "_law_take" ["_law_state","_law_many"] (aL K 2 kU):=by
 refine(D.cal fun _ _ F=>EN F TX).imp ?_;rintro vs H Q E ⟨ts,Fr,k,l,hn,rp,⟨c,n,m,rfl,h1,h2,h3,pk⟩,q⟩;obtain⟨x,y,rfl⟩:=zz2 l rfl;have rp:Rp K H ((stT c n,some x)::(.int m,some y)::Fr):=rp;have ey:=aJ rp.tail;subst ey;obtain⟨st,lc,rfl,S,rp2⟩:=Kt rp;refine⟨st,lc,c.cs,n,m,rfl,S,by omega,by omega,h2,h3,fun r cs' H' hr0 hr1 S' kp=>?_⟩;have rp3:=K0 rp2 kp ⟨_,S'.d,fun _ z=>by cases z⟩ ⟨_,S'.l,fun _ z=>by cases z⟩;have S'':StAt H' st lc cs' ((n+1:Nat):Int):=by push_cast;exact S'
 obtain⟨c',rp4⟩:=C7 S'' rp3;exact q _ _ _ _ (pk r c' hr0 hr1) (bQ rp4 fun _=>.int)
theorem xR{w y:V}(h:Rp K H ((.hole w,some y)::Γ)):y=w:=by
 obtain⟨_,_,r,_⟩:=iu h rfl;cases r
 rfl
theorem AO(D:Dfn K mg "_law_begin" oT ["_law_script"])(TX:Txt mg):Cal P w K mg base 1 "_law_begin" ["_law_script"] (aL K 1 (uH K)):=by
 refine(D.cal fun _ _ F=>Dc F TX).imp ?_;rintro vs H Q E ⟨ts,Fr,k,l,hn,rp,⟨t,ns,rfl,hs,h1,pk⟩,q⟩;obtain⟨x,rfl⟩:=zz1 l rfl;have rp:Rp K H ((t,some x)::Fr):=rp;obtain⟨a,rfl,hq⟩:∃a,x=.ref a/\SqL K H a (ns.map V.int):=by
  rcases hs with rfl|⟨a,rfl,hs⟩
  ·obtain⟨a,us,rfl,hq,l2,rp2⟩:=aD rfl rp;have eu:=dy l2 rp2;subst eu;exact⟨a,rfl,hq⟩
  exact⟨a,xR rp,hs H⟩
 refine⟨a,ns,rfl,hq,h1,fun st lc cs H' hs hl S g=>?_⟩;have rp3:=EC rp hs hl S.ne g ⟨_,S.d,fun _ z=>by cases z⟩ ⟨_,S.l,fun _ z=>by cases z⟩;obtain⟨c,rp4⟩:=C7 (n:=0) S rp3;exact q _ _ _ _ (pk c) rp4
def De(K:QT):FP:=fun ts k=>∃t,∃ns:List Int,ts=[t]/\Scr K t ns/\ns.length<=63/\∀z,k (.bl true) [z]
def yj(K:QT):Sp:=fun vs H Q _=>∃(a:QS) (ns:List Int),vs=[.ref a]/\SqL K H a (ns.map V.int)/\ns.length<=63/\∀H',Q (.bl true) H'
theorem vZ{Hz H:Hp}:∀(ns:List Int),RepTs K Hz H (ns.map T.int) (ns.map V.int) []
 | []=>.nil
 | _::r=>.cons rfl .int (vZ r)
theorem Ig{k:Nat}{f:QS}(F:FnOk P w K mg base CX0 k f fd ["_law_script"] (aL K 1 (De K))):FnOk P w K mg base CX0 k f fd ["_law_script"] (yj K):=by
 refine F.imp ?_;rintro vs H Q E ⟨a,ns,rfl,hq,h1,q⟩;have key:∀t,Scr K t ns->(∀Hz,RepT K H Hz t (.ref a) [])->aL K 1 (De K) [.ref a] H Q E:=fun t sc ht=>
  ⟨[t],[],fun t _=>t=.bl true,rfl,rfl,⟨H,[],.cons rfl (.inr ⟨_,rfl,ht H⟩) .nil,MG,.bY,fun _ m=>by cases m⟩,⟨t,ns,rfl,sc,h1,fun _=>rfl⟩,fun t ts' v H' e rp=>by subst e;rw[jP rp];exact q H'⟩
 rcases hq with hq|hq
 ·exact key _ (.inl rfl) fun Hz=>.lstZ hq (vZ ns)
 exact key _ (.inr ⟨a,rfl,fun H=>.inr hq⟩) fun Hz=>.hole
end
open PySem L2 PL
abbrev tY:T:=.cst [.cst [.int 1,.int 0],.cst [.int 1,.int 1],.cst [.int 0,.int 1],.cst [.int (-1),.int 1],.cst [.int (-1),.int 0],.cst [.int (-1),.int (-1)],.cst [.int 0,.int (-1)],.cst [.int 1,.int (-1)]]
theorem FI{l:List α}{i:Int}(h0:0<=i)(h1:i<l.length):∃x,x∈l/\atI l i=some x:=by
 have h:i.toNat<l.length:=by lia
 refine⟨l[i.toNat],MQ h,?_⟩;have:=cH (xs:=l) (j:=i.toNat) (d_ h);rwa[Int.toNat_of_nonneg h0]at this
variable {ns:List Int}
theorem jI(P:Int->Prop){i:Int}(h0:0<=i)(h1:i<ns.length)(hp:∀x∈ns,P x):∃v,atI (ns.map T.int) i=some (.int v)/\P v:=by obtain⟨t,m,e⟩:=FI (l:=ns.map T.int) h0 (by rw[a_];exact h1);obtain⟨v,mv,rfl⟩:=t_.mp m;exact⟨v,e,hp v mv⟩
theorem He{K:QT}{t:T}(h:Scr K t ns):er t=t/\isAny t=false:=by
 rcases h with rfl|⟨a,rfl,_⟩
 ·exact⟨by simp only[er,cJ],rfl⟩
 exact⟨rfl,rfl⟩
theorem BQ{c:Cells}:cv (stT c n)=true:=by simp only[stT,cv,pY,bM,fj,Nq,PC]
variable {i:Nat}
theorem map_take{g:α->β}{l:List α}{x:α}(h:l[i]?=some x):LO g (l.take (i+1))=LO g (l.take i)++[g x]:=by rw[LU,h,q_];rfl
theorem nQ{g:α->β}{p:α->Bool}{l:List α}{x:α}(h:l[i]?=some x):LO g ((l.take (i+1)).filter p)=LO g ((l.take i).filter p)++(if p x then [g x]else []):=by rw[LU,h,PX,q_];congr 1;show LO g (P9 p [x])=_;rw[O1];cases p x <;> rfl
structure Oc where
 a:Int
 b:Int
 c:Int
 d:Int
 e:Int
 f:Int
 g:Int
 h:Int
noncomputable def Sm(f:Int->Int)(a:Int):Nat->Int
 |0=>0
 |n+1=>Sm f a n+f (a+n)
theorem cp{f g:Int->Int}{a:Int}:∀{n:Nat},(∀x,a<=x->x<a+n->f x=g x)->Sm f a n=Sm g a n
 |0,_=>rfl
 |n+1,h=>by rw[Sm,Sm,cp fun x h1 h2=>h x h1 (by lia),h (a+n) (by lia) (by lia)]
theorem wZ{f g:Int->Int}{a:Int}:∀{n:Nat},Sm (fun x=>f x+g x) a n=Sm f a n+Sm g a n
 |0=>rfl
 |n+1=>by rw[Sm,Sm,Sm,wZ];lia
theorem tq{f:Int->Int}{a:Int}{n:Nat}:∀{m:Nat},Sm f a (n+m)=Sm f a n+Sm f (a+n) m
 |0=>by rw[Oq,Sm,NZ]
 |m+1=>by rw[<-Np,Sm,Sm,tq,show a+((n+m:Nat):Int)=a+n+m by lia];lia
variable {a:Int}{f:Int->Int}
theorem iJ(h:∀x,a<=x->x<a+n->f x=0):Sm f a n=0:=by
 induction n with
 |zero=>rfl
 |succ n ih=>rw[Sm,ih fun x h1 h2=>h x h1 (by lia),h (a+n) (by lia) (by lia)];rfl
variable {b:Int}{m:Nat}
theorem Gb(h1:a<=b)(h2:b+m<=a+n)(z:∀x,x<b\/b+m<=x->f x=0):Sm f a n=Sm f b m:=by obtain⟨p,rfl⟩:∃p:Nat,b=a+p:=⟨(b-a).toNat,by lia⟩;obtain⟨q,rfl⟩:∃q:Nat,n=p+m+q:=⟨n-(p+m),by lia⟩;rw[tq,tq,iJ (n:=p) fun x g1 g2=>z x (.inl g2),iJ (n:=q) fun x g1 g2=>z x (.inr (by lia))];lia
theorem tJ{f:Int->Int}{a:Int}:∀{n:Nat},Sm f (2*a) (2*n)=Sm (fun x=>f (2*x)+f (2*x+1)) a n
 |0=>rfl
 |n+1=>by rw[show 2*(n+1)=2*n+1+1 by lia,Sm,Sm,Sm,tJ,show 2*a+((2*n:Nat):Int)=2*(a+n) by lia,show 2*a+((2*n+1:Nat):Int)=2*(a+n)+1 by lia];lia
theorem zF:Sm f (4*a) (4*n)=Sm (fun x=>f (4*x)+f (4*x+1)+(f (4*x+2)+f (4*x+3))) a n:=by rw[show 4*a=2*(2*a) by lia,show 4*n=2*(2*n) by lia,tJ,tJ];refine cp fun x _ _=>?_;rw[show 2*(2*x)=4*x by lia,show 2*(2*x+1)=4*x+2 by lia,show 4*x+2+1=4*x+3 by lia]
theorem Cj{α β l:Int}:∀{n:Nat},Sm (fun j=>α+β*(2*j+1)) l n=n*(α+β*(l+(l+n)))
 |0=>by rw[Sm];lia
 |n+1=>by
  rw[Sm,Cj];push_cast
  grind
noncomputable def bi(p:Prop)[Decidable p]:Int:=if p then 1 else 0
theorem yk{p q:Prop}[Decidable p][Decidable q](h:p↔q):bi p=bi q:=by
 unfold bi;by_cases c:p
 ·rw[if_pos c,if_pos (h.mp c)]
 rw[if_neg c,if_neg fun z=>c (h.mpr z)]
theorem Hb{l h:Int}(h1:a<=l)(h2:l<=h)(h3:h<=a+n):Sm (fun y=>bi (l<=y/\y<h)) a n=h-l:=by
 rw[Gb (f:=fun y=>bi (l<=y/\y<h)) (b:=l) (m:=(h-l).toNat) h1 (by lia) fun x hx=>if_neg (by lia)];have:∀m:Nat,(m:Int)<=h-l->Sm (fun y=>bi (l<=y/\y<h)) l m=m:=by
  intro m;induction m with
  |zero=>exact fun _=>rfl
  |succ m ih=>
   intro hm;rw[Sm,ih (by lia)];rw[show bi (l<=l+m/\l+m<h)=1 from if_pos (by lia)]
   rfl
 rw[this _ (by lia)];lia
noncomputable def sw(t:Int):List (Int×Int)->Int
 | []=>0
 |p::r=>if t<p.2 then p.2-max p.1 t+sw p.2 r else sw t r
noncomputable def Cv(r:List (Int×Int))(y:Int):Prop:=∃p∈r,p.1<=y/\y<p.2
instance (r:List (Int×Int)) (y:Int):Decidable (Cv r y):=by unfold Cv;infer_instance
theorem pD{a:Int}{n:Nat}:∀{r:List (Int×Int)}{t:Int},r.Pairwise (fun p q=>p.1<=q.1)->(∀p∈r,p.1<=p.2/\a<=p.1/\p.2<=a+n)->a<=t->Sm (fun y=>bi (t<=y/\Cv r y)) a n=sw t r
 | [],t,_,_,_=>by rw[sw];exact iJ fun x _ _=>if_neg fun z=>by obtain⟨_,p,hp,_⟩:=z;cases hp
 |p::r,t,ho,hb,ht=>by
  rw[sw];obtain⟨o1,o2⟩:=Mt.mp ho;obtain⟨b1,b2,b3⟩:=hb p u_;have hb':∀p∈r,p.1<=p.2/\a<=p.1/\p.2<=a+n:=fun q hq=>hb q (n_ _ hq);by_cases c:t<p.2
  ·rw[if_pos c,<-pD o2 hb' (show a<=p.2 by lia),<-Hb (l:=max p.1 t) (h:=p.2) (a:=a) (n:=n) (by lia) (by lia) b3,<-wZ];refine cp fun y _ _=>?_;unfold bi;by_cases y1:y<p.2
   ·rw[if_neg (fun z=>by lia:¬(p.2<=y/\Cv r y)),NZ];by_cases y2:max p.1 t<=y
    ·rw[if_pos ⟨by lia,p,u_,by lia,y1⟩,if_pos ⟨y2,y1⟩]
    rw[if_neg,if_neg fun z=>y2 z.1];rintro⟨g1,q,hq,g2,g3⟩;rcases p_.mp hq with rfl|hq
    ·lia
    have:=o1 q hq;lia
   rw[if_neg (fun z=>y1 z.2:¬(max p.1 t<=y/\y<p.2)),N0];by_cases y2:Cv r y
   ·obtain⟨q,hq,g⟩:=y2;rw[if_pos ⟨by lia,q,n_ _ hq,g⟩,if_pos ⟨by lia,q,hq,g⟩]
   rw[if_neg,if_neg fun z=>y2 z.2];rintro⟨g1,q,hq,g2,g3⟩;rcases p_.mp hq with rfl|hq
   ·lia
   exact y2 ⟨q,hq,g2,g3⟩
  rw[if_neg c,<-pD o2 hb' ht];refine cp fun y _ _=>yk ⟨?_,?_⟩
  ·rintro⟨g1,q,hq,g2,g3⟩;rcases p_.mp hq with rfl|hq
   ·lia
   exact⟨g1,q,hq,g2,g3⟩
  rintro⟨g1,q,hq,g⟩;exact⟨g1,q,n_ _ hq,g⟩
abbrev Ln:=Int×Int
noncomputable def Ln.at (f:Ln)(m:Int):Int:=f.1+f.2*m
noncomputable def Sg(F:Ln->Prop)(u v M:Int):Prop:=∀f g,F f->F g->f.at M<=g.at M->∀m,u<=m->m<=v->f.at m<=g.at m
theorem tm{F:Ln->Prop}{u v M:Int}(sg:Sg F u v M):∀{r:List (Ln×Ln)}{t:Ln},F t->(∀p∈r,F p.1/\F p.2/\p.1.at M<=p.2.at M)->∃ α β:Int,∀m,u<=m->m<=v->sw (t.at m) (r.map fun p=>(p.1.at m,p.2.at m))=α+β*m
 | [],t,_,_=>⟨0,0,fun m _ _=>by rw[Nf,sw];lia⟩
 |p::r,t,ht,hr=>by
  obtain⟨f1,f2,le⟩:=hr p u_;have hr':=fun q hq=>hr q (n_ p hq);by_cases c:t.at M<p.2.at M
  ·obtain⟨α,β,e⟩:=tm sg f2 hr';have mx:∃k:Ln,∀m,u<=m->m<=v->max (p.1.at m) (t.at m)=k.at m:=by
    by_cases d:p.1.at M<=t.at M
    ·exact⟨t,fun m h1 h2=>by have:=sg _ _ f1 ht d m h1 h2;lia⟩
    exact⟨p.1,fun m h1 h2=>by have:=sg _ _ ht f1 (by lia) m h1 h2;lia⟩
   obtain⟨k,hk⟩:=mx;refine⟨p.2.1-k.1+α,p.2.2-k.2+β,fun m h1 h2=>?_⟩;rw[k_,sw];have g1:=sg _ _ ht f2 (by lia) m h1 h2;have g2:=sg _ _ f1 f2 le m h1 h2;have g3:=hk m h1 h2;have g4:=e m h1 h2;have fin:p.2.at m-k.at m+(α+β*m)=p.2.1-k.1+α+(p.2.2-k.2+β)*m:=by unfold Ln.at;rw[Int.add_mul,Int.sub_mul];lia
   by_cases s:t.at m<p.2.at m
   ·rw[if_pos s,g3,g4];exact fin
   rw[if_neg s,show t.at m=p.2.at m by lia,g4,<-fin];lia
  obtain⟨α,β,e⟩:=tm sg ht hr';refine⟨α,β,fun m h1 h2=>?_⟩;rw[k_,sw,if_neg (by have:=sg _ _ f2 ht (by lia) m h1 h2;show ¬t.at m<p.2.at m;lia)];exact e m h1 h2
noncomputable def Vo(o:Oc):Prop:=(o.a<=o.b/\o.c<=o.d)/\(o.e<=o.f/\o.g<=o.h)/\(o.b+o.c<=o.f/\o.g+o.c<=o.a)/\(o.e<=o.a+o.d/\o.e+o.g<=2*o.a)/\o.b<=o.h+o.d/\2*o.b<=o.f+o.h
noncomputable def loM(o:Oc)(m:Int):Int:=max (max (4*o.c) (4*o.e-m)) (m-4*o.h)
noncomputable def hiM(o:Oc)(m:Int):Int:=min (min (4*o.d) (4*o.f-m)) (m-4*o.g)
variable {o:Oc}
theorem Gg{m:Int}(h:Vo o)(h1:4*o.a<=m)(h2:m<=4*o.b):loM o m<=hiM o m:=by obtain⟨⟨_,_⟩,⟨_,_⟩,⟨_,_⟩,⟨_,_⟩,_,_⟩:=h;unfold loM hiM;omega
def Co(o:Oc)(m y:Int):Prop:=(4*o.a<=m/\m<=4*o.b)/\loM o m<=y/\y<hiM o m
instance (o:Oc) (m y:Int):Decidable (Co o m y):=by unfold Co;infer_instance
def Cu(os:List Oc)(m y:Int):Prop:=∃o∈os,Co o m y
instance (os:List Oc) (m y:Int):Decidable (Cu os m y):=by unfold Cu;infer_instance
def Lm(B:Nat)(os:List Oc)(m:Int):Int:=Sm (fun y=>bi (Cu os m y)) (-(8*B:Nat)) (16*B)
def Ar(B:Nat)(os:List Oc):Int:=Sm (fun j=>Lm B os (2*j+1)) (-(2*B:Nat)) (4*B)
noncomputable def Bd(B:Int)(o:Oc):Prop:=(-B<=o.a/\o.b<=B)/\-B<=o.c/\o.d<=B
noncomputable def Fam(os:List Oc)(f:Ln):Prop:=∃o∈os,f=(4*o.c,0)\/f=(4*o.d,0)\/f=(4*o.e,-1)\/f=(4*o.f,-1)\/f=(-(4*o.g),1)\/f=(-(4*o.h),1)
noncomputable def Nc(os:List Oc)(l r:Int):Prop:=(∀o∈os,(2*o.a<=l\/r<=2*o.a)/\(2*o.b<=l\/r<=2*o.b))/\∀o∈os,∀t,t=o.c\/t=o.d->∀o'∈os,∀u,u=o'.e\/u=o'.f->∀o''∈os,∀v,v=o''.g\/v=o''.h->(2*(u-t)<=l\/r<=2*(u-t))/\(2*(v+t)<=l\/r<=2*(v+t))/\(u+v<=l\/r<=u+v)
variable {os:List Oc}
theorem vA{f:Ln}(h:Fam os f):∃o∈os,(∃t,(t=o.c\/t=o.d)/\∀m,f.at m=4*t)\/(∃u,(u=o.e\/u=o.f)/\∀m,f.at m=4*u-m)\/(∃v,(v=o.g\/v=o.h)/\∀m,f.at m=m-4*v):=by
 obtain⟨o,ho,h⟩:=h;refine⟨o,ho,?_⟩;unfold Ln.at;rcases h with rfl|rfl|rfl|rfl|rfl|rfl
 ·exact .inl ⟨_,.inl rfl,fun m=>by dsimp only;lia⟩
 ·exact .inl ⟨_,.inr rfl,fun m=>by dsimp only;lia⟩
 ·exact .inr (.inl ⟨_,.inl rfl,fun m=>by dsimp only;lia⟩)
 ·exact .inr (.inl ⟨_,.inr rfl,fun m=>by dsimp only;lia⟩)
 ·exact .inr (.inr ⟨_,.inl rfl,fun m=>by dsimp only;lia⟩)
 exact .inr (.inr ⟨_,.inr rfl,fun m=>by dsimp only;lia⟩)
theorem GY{l r:Int}(h:l<r)(nc:Nc os l r):Sg (Fam os) (2*l) (2*r) (l+r):=by
 intro f g hf hg hM m h1 h2;obtain⟨o,ho,kf⟩:=vA hf;obtain⟨o',ho',kg⟩:=vA hg;rcases kf with⟨t,et,ef⟩|⟨t,et,ef⟩|⟨t,et,ef⟩ <;> rcases kg with⟨u,eu,eg⟩|⟨u,eu,eg⟩|⟨u,eu,eg⟩ <;> rw[ef,eg]at hM ⊢
 ·exact hM
 ·have:=(nc.2 o ho t et o' ho' u eu o ho _ (.inl rfl)).1;lia
 ·have:=(nc.2 o ho t et o ho _ (.inl rfl) o' ho' u eu).2.1;lia
 ·have:=(nc.2 o' ho' u eu o ho t et o ho _ (.inl rfl)).1;lia
 ·lia
 ·have:=(nc.2 o ho _ (.inl rfl) o ho t et o' ho' u eu).2.2;lia
 ·have:=(nc.2 o' ho' u eu o ho _ (.inl rfl) o ho t et).2.1;lia
 ·have:=(nc.2 o ho _ (.inl rfl) o' ho' u eu o ho t et).2.2;lia
 lia
variable {c x:Int}
theorem Kl(h:x=a\/x=b\/x=c)(h1:x<=a)(h2:x<=b)(h3:x<=c):min (min a b) c=x:=by
 refine Qo ?_ (Qp.mpr ⟨Qp.mpr ⟨h1,h2⟩,h3⟩);rcases h with rfl|rfl|rfl
 ·exact Me (Mq _ _) (Mq _ _)
 ·exact Me (Mq _ _) (ME _ _)
 exact ME _ _
theorem KO(h:x=a\/x=b\/x=c)(h1:a<=x)(h2:b<=x)(h3:c<=x):max (max a b) c=x:=by
 refine Qo (OP.mpr ⟨OP.mpr ⟨h1,h2⟩,h3⟩) ?_;rcases h with rfl|rfl|rfl
 ·exact Me (Mr _ _) (Mr _ _)
 ·exact Me (MF _ _) (Mr _ _)
 exact MF _ _
variable {z:Int}
theorem rL{m:Int}:Ln.at (z,0) m=z/\Ln.at (z,-1) m=z-m/\Ln.at (-z,1) m=m-z:=by unfold Ln.at;dsimp only;lia
theorem FR{l r:Int}(sg:Sg (Fam os) (2*l) (2*r) (l+r))(ho:o∈os):∃f,Fam os f/\f.at (l+r)=loM o (l+r)/\∀m,2*l<=m->m<=2*r->loM o m=f.at m:=by
 have F1:Fam os (4*o.c,0):=⟨o,ho,.inl rfl⟩;have F2:Fam os (4*o.e,-1):=⟨o,ho,.inr (.inr (.inl rfl))⟩;have F3:Fam os (-(4*o.h),1):=⟨o,ho,.inr (.inr (.inr (.inr (.inr rfl))))⟩;have e:∀m,loM o m=max (max (Ln.at (4*o.c,0) m) (Ln.at (4*o.e,-1) m)) (Ln.at (-(4*o.h),1) m):=fun m=>by rw[rL.1,rL.2.1,rL.2.2];rfl
 have key:∀f,Fam os f->Ln.at (4*o.c,0) (l+r)<=f.at (l+r)->Ln.at (4*o.e,-1) (l+r)<=f.at (l+r)->Ln.at (-(4*o.h),1) (l+r)<=f.at (l+r)->(f=(4*o.c,0)\/f=(4*o.e,-1)\/f=(-(4*o.h),1))->∃f,Fam os f/\f.at (l+r)=loM o (l+r)/\∀m,2*l<=m->m<=2*r->loM o m=f.at m:=by
  intro f hf g1 g2 g3 hk;have hk':∀m,f.at m=Ln.at (4*o.c,0) m\/f.at m=Ln.at (4*o.e,-1) m\/f.at m=Ln.at (-(4*o.h),1) m:=fun m=>hk.imp (fun z=>by rw[z]) fun z=>z.imp (fun z=>by rw[z]) fun z=>by rw[z]
  exact⟨f,hf,by rw[e];exact(KO (hk' _) g1 g2 g3).symm,fun m h1 h2=>by rw[e];exact KO (hk' m) (sg _ _ F1 hf g1 m h1 h2) (sg _ _ F2 hf g2 m h1 h2) (sg _ _ F3 hf g3 m h1 h2)⟩
 rcases MO (Ln.at (4*o.e,-1) (l+r)) (Ln.at (4*o.c,0) (l+r))with x|x
 ·rcases MO (Ln.at (-(4*o.h),1) (l+r)) (Ln.at (4*o.c,0) (l+r))with y|y
  ·exact key _ F1 (Ms _) x y (.inl rfl)
  exact key _ F3 y (Me x y) (Ms _) (.inr (.inr rfl))
 rcases MO (Ln.at (-(4*o.h),1) (l+r)) (Ln.at (4*o.e,-1) (l+r))with y|y
 ·exact key _ F2 x (Ms _) y (.inr (.inl rfl))
 exact key _ F3 (Me x y) y (Ms _) (.inr (.inr rfl))
theorem EU{l r:Int}(sg:Sg (Fam os) (2*l) (2*r) (l+r))(ho:o∈os):∃f,Fam os f/\f.at (l+r)=hiM o (l+r)/\∀m,2*l<=m->m<=2*r->hiM o m=f.at m:=by
 have F1:Fam os (4*o.d,0):=⟨o,ho,.inr (.inl rfl)⟩;have F2:Fam os (4*o.f,-1):=⟨o,ho,.inr (.inr (.inr (.inl rfl)))⟩;have F3:Fam os (-(4*o.g),1):=⟨o,ho,.inr (.inr (.inr (.inr (.inl rfl))))⟩;have e:∀m,hiM o m=min (min (Ln.at (4*o.d,0) m) (Ln.at (4*o.f,-1) m)) (Ln.at (-(4*o.g),1) m):=fun m=>by rw[rL.1,rL.2.1,rL.2.2];rfl
 have key:∀f,Fam os f->f.at (l+r)<=Ln.at (4*o.d,0) (l+r)->f.at (l+r)<=Ln.at (4*o.f,-1) (l+r)->f.at (l+r)<=Ln.at (-(4*o.g),1) (l+r)->(f=(4*o.d,0)\/f=(4*o.f,-1)\/f=(-(4*o.g),1))->∃f,Fam os f/\f.at (l+r)=hiM o (l+r)/\∀m,2*l<=m->m<=2*r->hiM o m=f.at m:=by
  intro f hf g1 g2 g3 hk;have hk':∀m,f.at m=Ln.at (4*o.d,0) m\/f.at m=Ln.at (4*o.f,-1) m\/f.at m=Ln.at (-(4*o.g),1) m:=fun m=>hk.imp (fun z=>by rw[z]) fun z=>z.imp (fun z=>by rw[z]) fun z=>by rw[z]
  exact⟨f,hf,by rw[e];exact(Kl (hk' _) g1 g2 g3).symm,fun m h1 h2=>by rw[e];exact Kl (hk' m) (sg _ _ hf F1 g1 m h1 h2) (sg _ _ hf F2 g2 m h1 h2) (sg _ _ hf F3 g3 m h1 h2)⟩
 rcases MO (Ln.at (4*o.d,0) (l+r)) (Ln.at (4*o.f,-1) (l+r))with x|x
 ·rcases MO (Ln.at (4*o.d,0) (l+r)) (Ln.at (-(4*o.g),1) (l+r))with y|y
  ·exact key _ F1 (Ms _) x y (.inl rfl)
  exact key _ F3 y (Me y x) (Ms _) (.inr (.inr rfl))
 rcases MO (Ln.at (4*o.f,-1) (l+r)) (Ln.at (-(4*o.g),1) (l+r))with y|y
 ·exact key _ F2 x (Ms _) y (.inr (.inl rfl))
 exact key _ F3 (Me y x) y (Ms _) (.inr (.inr rfl))
theorem lines{os:List Oc}{l r:Int}(h:l<r)(sg:Sg (Fam os) (2*l) (2*r) (l+r)):∀{T:List Oc},(∀o∈T,o∈os/\loM o (l+r)<=hiM o (l+r))->∃ps:List (Ln×Ln),(∀p∈ps,Fam os p.1/\Fam os p.2/\p.1.at (l+r)<=p.2.at (l+r))/\∀m,2*l<=m->m<=2*r->T.map (fun o=>(loM o m,hiM o m))=ps.map fun p=>(p.1.at m,p.2.at m)
 | [],_=>⟨[],fun p hp=>(nomatch hp),fun m _ _=>rfl⟩
 |o::T,k=>by
  obtain⟨ps,k1,k2⟩:=lines h sg fun o' ho'=>k o' (n_ o ho');obtain⟨ho,le⟩:=k o u_;obtain⟨f,f1,f2,f3⟩:=FR sg ho;obtain⟨g,g1,g2,g3⟩:=EU sg ho;refine⟨(f,g)::ps,fun p hp=>?_,fun m h1 h2=>by rw[k_,k_,k2 m h1 h2,f3 m h1 h2,g3 m h1 h2]⟩;rcases p_.mp hp with rfl|hp
  ·exact⟨f1,g1,by show f.at _<=g.at _;lia⟩
  exact k1 p hp
def spn(T:List Oc)(m:Int):List (Int×Int):=T.map fun o=>(loM o m,hiM o m)
noncomputable def wX:List (Int×Int)->Int
 | []=>0
 |p::_=>p.1
variable {B:Nat}
theorem Cc{T:List Oc}{l r:Int}(h:l<r)(nc:Nc os l r)(vo:∀o∈os,Vo o)(bd:∀o∈os,Bd B o)(mem:∀o,o∈T↔o∈os/\2*o.a<=l/\r<=2*o.b)(so:(spn T (l+r)).Pairwise fun p q=>p.1<=q.1) :
  (r-l)*sw (wX (spn T (l+r))) (spn T (l+r))=Sm (fun j=>Lm B os (2*j+1)) l (r-l).toNat:=by
 have sg:=GY h nc;have p1:2*l<=l+r:=by lia
 have p2:l+r<=2*r:=by lia
 obtain⟨ps,k1,k2⟩:=lines h sg (T:=T) fun o ho=>by obtain⟨a1,a2,a3⟩:=(mem o).mp ho;exact⟨a1,Gg (vo o a1) (by lia) (by lia)⟩
 have so2:ps.Pairwise fun p q=>p.1.at (l+r)<=q.1.at (l+r):=by unfold spn at so;rw[k2 (l+r) p1 p2,LV]at so;exact so
 have act:∀j o,l<=j->j<r->o∈os->(o∈T↔4*o.a<=2*j+1/\2*j+1<=4*o.b):=fun j o h1 h2 ho=>by have:=nc.1 o ho;rw[mem o];exact⟨fun z=>by lia,fun z=>⟨ho,by lia⟩⟩
 have ln:∃ α β:Int,∀m,2*l<=m->m<=2*r->sw (wX (spn T m)) (spn T m)=α+β*m:=by
  cases ps with
  |nil=>exact⟨0,0,fun m h1 h2=>by unfold spn;rw[k2 m h1 h2,Nf];show 0=_;lia⟩
  |cons p ps=>
   obtain⟨α,β,e⟩:=tm sg (k1 p u_).1 k1;exact⟨α,β,fun m h1 h2=>by unfold spn;rw[k2 m h1 h2];exact e m h1 h2⟩
 obtain⟨α,β,e⟩:=ln;have cnt:∀j,l<=j->j<l+(r-l).toNat->Lm B os (2*j+1)=α+β*(2*j+1):=fun j h1 h2=>by
  have q1:2*l<=2*j+1:=by lia
  have q2:2*j+1<=2*r:=by lia
  have q3:j<r:=by lia
  rw[<-e (2*j+1) q1 q2];have so3:(spn T (2*j+1)).Pairwise fun p q=>p.1<=q.1:=by unfold spn;rw[k2 _ q1 q2,LV];refine MD (fun{p q} hp hq hpq=>?_) so2;exact sg _ _ (k1 p hp).1 (k1 q hq).1 hpq _ q1 q2
  have bb:∀p∈spn T (2*j+1),p.1<=p.2/\-(8*B:Nat)<=p.1/\p.2<=-(8*B:Nat)+((16*B:Nat):Int):=fun p hp=>by
   obtain⟨o,ho,rfl⟩:=t_.mp hp;obtain⟨a1,a2,a3⟩:=(mem o).mp ho;obtain⟨_,b3,b4⟩:=bd o a1;refine⟨Gg (vo o a1) (by lia) (by lia),?_,?_⟩
   ·show _<=loM o _;unfold loM;lia
   show hiM o _<=_;unfold hiM;lia
  have t0:∀p∈spn T (2*j+1),wX (spn T (2*j+1))<=p.1:=fun p hp=>by
   generalize spn T (2*j+1)=sp at so3 hp;cases sp with
   |nil=>cases hp
   |cons q sp=>
    rcases p_.mp hp with rfl|hp
    ·exact Ms _
    exact(Mt.mp so3).1 p hp
  by_cases ne:spn T (2*j+1)=[]
  ·have nT:T=[]:=Nm.mp ne;rw[ne];show _=0;refine iJ fun y _ _=>if_neg ?_;rintro⟨o,ho,c,_⟩;have:=(act j o h1 q3 ho).mpr c;rw[nT]at this;cases this
  have lo:-(8*B:Nat)<=wX (spn T (2*j+1)):=by
   generalize spn T (2*j+1)=sp at ne bb;cases sp with
   |nil=>exact absurd rfl ne
   |cons q sp=>exact(bb q u_).2.1
  rw[<-pD so3 bb lo];refine cp fun y _ _=>yk ⟨?_,?_⟩
  ·rintro⟨o,ho,c,c1,c2⟩;have hT:=(act j o h1 q3 ho).mpr c;have hp:(loM o (2*j+1),hiM o (2*j+1))∈spn T (2*j+1):=t_.mpr ⟨o,hT,rfl⟩;have:=t0 _ hp;exact⟨by dsimp only at this;lia,_,hp,c1,c2⟩
  rintro⟨_,p,hp,c1,c2⟩;obtain⟨o,hT,rfl⟩:=t_.mp hp;have ho:=((mem o).mp hT).1;exact⟨o,ho,(act j o h1 q3 ho).mp hT,c1,c2⟩
 rw[cp cnt,Cj,e (l+r) p1 p2,show((r-l).toNat:Int)=r-l by lia,show l+(l+(r-l))=l+r by lia]
theorem Dj{w e:Int}(h1:∀o∈os,w<=2*o.a)(h2:∀o∈os,2*o.b<=e)(h3:w<=e)(h4:-(2*B:Nat)<=w)(h5:e<=(2*B:Nat)):Sm (fun j=>Lm B os (2*j+1)) w (e-w).toNat=Ar B os:=by refine(Gb h4 (by lia) fun x hx=>?_).symm;refine iJ fun y _ _=>if_neg ?_;rintro⟨o,ho,c,_⟩;have:=h1 o ho;have:=h2 o ho;lia
abbrev Qt:=Int×Int×Nat
noncomputable def px(s:Nat):Int:=[6,4,2,4].getD s 0
noncomputable def py(s:Nat):Int:=[5,7,3,1].getD s 0
def inL(o:Oc)(q:Qt):Prop:=((8*o.a<=8*q.1+px q.2.2/\8*q.1+px q.2.2<=8*o.b)/\8*o.c<=8*q.2.1+py q.2.2/\8*q.2.1+py q.2.2<=8*o.d)/\(8*o.e<=8*q.1+px q.2.2+(8*q.2.1+py q.2.2)/\8*q.1+px q.2.2+(8*q.2.1+py q.2.2)<=8*o.f)/\8*o.g<=8*q.1+px q.2.2-(8*q.2.1+py q.2.2)/\8*q.1+px q.2.2-(8*q.2.1+py q.2.2)<=8*o.h
instance (o:Oc) (q:Qt):Decidable (inL o q):=by unfold inL;infer_instance
def inU(os:List Oc)(q:Qt):Prop:=∃o∈os,inL o q
instance (os:List Oc) (q:Qt):Decidable (inU os q):=by unfold inU;infer_instance
theorem je{k e:Int}(hk:0<k):k*e<=k*z+c↔e<=z+c/k:=by rw[PY z,<-Int.add_mul_ediv_left c z (Int.ne_of_gt hk),Int.le_ediv_iff_mul_le hk,NG e,PY c]
theorem rZ{k:Int}(hk:0<k):k*z+c<=k*b↔¬b<=z+(c-1)/k:=by rw[<-je hk];generalize k*z=u;generalize k*b=v;lia
theorem IM:∀q∈[((1:Int),(0:Nat),(3:Nat)),(3,0,3),(1,1,2),(1,2,2),(3,1,0),(3,2,0),(1,3,1),(3,3,1)],(q.1/4=px q.2.2/8/\(q.1-1)/4=(px q.2.2-1)/8)/\((q.2.1:Int)/4=py q.2.2/8/\(q.2.1:Int)/4=(py q.2.2-1)/8)/\((q.1+(q.2.1:Int))/4=(px q.2.2+py q.2.2)/8/\(q.1+(q.2.1:Int))/4=(px q.2.2+py q.2.2-1)/8)/\(q.1-(q.2.1:Int)-1)/4=(px q.2.2-py q.2.2)/8/\(q.1-(q.2.1:Int)-1)/4=(px q.2.2-py q.2.2-1)/8:=by decide
variable {j s:Nat}
theorem Jk{X Y:Int}{i:Int}(h:(i,j,s)∈[((1:Int),0,3),(3,0,3),(1,1,2),(1,2,2),(3,1,0),(3,2,0),(1,3,1),(3,3,1)]):Co o (4*X+i) (4*Y+j)↔inL o (X,Y,s):=by
 obtain⟨⟨f1,f2⟩,⟨f3,f4⟩,⟨f5,f6⟩,f7,f8⟩:=IM _ h;clear h;dsimp only at *;have u1:=je (k:=4) (e:=o.a) (z:=X) (c:=i) (by decide);have u2:=rZ (k:=4) (b:=o.b) (z:=X) (c:=i) (by decide);have u3:=je (k:=4) (e:=o.c) (z:=Y) (c:=j) (by decide);have u4:=je (k:=4) (e:=o.d) (z:=Y) (c:=j) (by decide);have u5:=je (k:=4) (e:=o.e) (z:=X+Y) (c:=i+j) (by decide);have u6:=je (k:=4) (e:=o.f) (z:=X+Y) (c:=i+j) (by decide);have u7:=je (k:=4) (e:=o.g) (z:=X-Y) (c:=i-j-1) (by decide);have u8:=rZ (k:=4) (b:=o.h) (z:=X-Y) (c:=i-j) (by decide);have v1:=je (k:=8) (e:=o.a) (z:=X) (c:=px s) (by decide);have v2:=rZ (k:=8) (b:=o.b) (z:=X) (c:=px s) (by decide);have v3:=je (k:=8) (e:=o.c) (z:=Y) (c:=py s) (by decide);have v4:=rZ (k:=8) (b:=o.d) (z:=Y) (c:=py s) (by decide);have v5:=je (k:=8) (e:=o.e) (z:=X+Y) (c:=px s+py s) (by decide);have v6:=rZ (k:=8) (b:=o.f) (z:=X+Y) (c:=px s+py s) (by decide);have v7:=je (k:=8) (e:=o.g) (z:=X-Y) (c:=px s-py s) (by decide);have v8:=rZ (k:=8) (b:=o.h) (z:=X-Y) (c:=px s-py s) (by decide);rw[f1,<-v1]at u1;rw[f2,<-v2]at u2;rw[f3,<-v3]at u3;rw[f4]at u4;rw[f5,<-v5]at u5;rw[f6]at u6;rw[f7,<-v7]at u7;rw[f8,<-v8]at u8;unfold Co inL loM hiM;dsimp only;rw[OP,OP,QP,QP];have w5:4*o.e-(4*X+i)<=4*Y+j↔8*o.e<=8*X+px s+(8*Y+py s):=by rw[show 8*X+px s+(8*Y+py s)=8*(X+Y)+(px s+py s) by lia,<-u5];lia
 have w6:4*Y+(j:Int)<4*o.f-(4*X+i)↔8*X+px s+(8*Y+py s)<=8*o.f:=by rw[show 8*X+px s+(8*Y+py s)=8*(X+Y)+(px s+py s) by lia,v6,<-u6];lia
 have w7:4*Y+(j:Int)<4*X+i-4*o.g↔8*o.g<=8*X+px s-(8*Y+py s):=by rw[show 8*X+px s-(8*Y+py s)=8*(X-Y)+(px s-py s) by lia,<-u7];lia
 have w8:4*X+i-4*o.h<=4*Y+(j:Int)↔8*X+px s-(8*Y+py s)<=8*o.h:=by rw[show 8*X+px s-(8*Y+py s)=8*(X-Y)+(px s-py s) by lia,<-u8];lia
 have w4:4*Y+(j:Int)<4*o.d↔8*Y+py s<=8*o.d:=by rw[v4,<-u4];lia
 rw[u1,u2,u3,w5,w8,w4,w6,w7];exact⟨fun⟨⟨a,b⟩,⟨⟨c,e⟩,h⟩,⟨d,f⟩,g⟩=>⟨⟨⟨a,b⟩,c,d⟩,⟨e,f⟩,g,h⟩,fun⟨⟨⟨a,b⟩,c,d⟩,⟨e,f⟩,g,h⟩=>⟨⟨a,b⟩,⟨⟨c,e⟩,h⟩,⟨d,f⟩,g⟩⟩
noncomputable def cl4(p:Nat->Prop)[DecidablePred p](x y:Int):List Qt:=((B' 4).filter p).map fun s=>(x,y,s)
variable {y:Int}
theorem Ef{p:Nat->Prop}[DecidablePred p]:((cl4 p x y).length:Int)=bi (p 0)+bi (p 1)+(bi (p 2)+bi (p 3)):=by unfold cl4;rw[a_,show B' 4=[0,1,2,3]from rfl];unfold bi;by_cases h0:p 0 <;> by_cases h1:p 1 <;> by_cases h2:p 2 <;> by_cases h3:p 3 <;> simp[h0,h1,h2,h3]
noncomputable def oN(f:Int->List α)(a:Int)(n:Nat):List α:=(B' n).flatMap fun(j:Nat)=>f (a+j)
theorem fy{f:Int->List α}:oN f a (n+1)=oN f a n++f (a+n):=by unfold oN;rw[NU,NP,Pf]
theorem bS{f:Int->List α}{x:α}:x∈oN f a n↔∃i,a<=i/\i<a+n/\x∈f i:=by
 unfold oN;rw[Qe];constructor
 ·rintro⟨j,m,e⟩;have:=LP.mp m;exact⟨_,by lia,by lia,e⟩
 rintro⟨i,h1,h2,e⟩;exact⟨(i-a).toNat,LP.mpr (by lia),by rw[show a+((i-a).toNat:Int)=i by lia];exact e⟩
theorem wm{f:Int->List α}{g:Int->Int}(h:∀i,((f i).length:Int)=g i)(n:Nat):((oN f a n).length:Int)=Sm g a n:=by
 induction n with
 |zero=>rfl
 |succ n ih=>rw[fy,e_,Sm,<-ih,<-h];lia
theorem yH{f:Int->List α}(hp:∀y,(f y).Nodup)(hR:∀y y',y≠y'->∀u∈f y,u ∉ f y'):(oN f a n).Nodup:=by
 induction n with
 |zero=>exact MG
 |succ n ih=>
  rw[fy,Mz];refine⟨ih,hp _,fun u mu v mv e=>?_⟩;obtain⟨i,h1,h2,mi⟩:=bS.mp mu;subst e;exact hR i (a+n) (by lia) u mi mv
variable {q:Qt}
theorem dA{p:Nat->Prop}[DecidablePred p]:q∈cl4 p x y↔q.1=x/\q.2.1=y/\q.2.2<4/\p q.2.2:=by
 unfold cl4;rw[t_];constructor
 ·rintro⟨s,m,rfl⟩;rw[LZ]at m;exact⟨rfl,rfl,LP.mp m.1,of_decide_eq_true m.2⟩
 rintro⟨rfl,rfl,h1,h2⟩;exact⟨q.2.2,LZ.mpr ⟨LP.mpr h1,decide_eq_true h2⟩,rfl⟩
def qsU(B:Nat)(os:List Oc):List Qt:=oN (fun X=>oN (fun Y=>cl4 (fun s=>inU os (X,Y,s)) X Y) (-(2*B:Nat)) (4*B)) (-(B:Nat)) (2*B)
theorem xh{f:Int->Int}{a:Int}:∀{n:Nat},Sm (fun x=>2*f x) a n=2*Sm f a n
 |0=>rfl
 |n+1=>by rw[Sm,Sm,xh];lia
theorem wu{X Y:Int}{i:Int}(h:(i,j,s)∈[((1:Int),0,3),(3,0,3),(1,1,2),(1,2,2),(3,1,0),(3,2,0),(1,3,1),(3,3,1)]):bi (Cu os (4*X+i) (4*Y+j))=bi (inU os (X,Y,s)):=
 yk ⟨fun⟨o,ho,c⟩=>⟨o,ho,(Jk h).mp c⟩,fun⟨o,ho,c⟩=>⟨o,ho,(Jk h).mpr c⟩⟩
theorem Lp(B:Nat)(os:List Oc):Ar B os=2*((qsU B os).length:Int):=by unfold Ar qsU;rw[show -((2*B:Nat):Int)=2 * -(B:Int) by lia,show 4*B=2*(2*B) by lia,tJ,wm (g:=fun X=>Sm (fun Y=>bi (inU os (X,Y,0))+bi (inU os (X,Y,1))+(bi (inU os (X,Y,2))+bi (inU os (X,Y,3)))) (2 * -(B:Int)) (2*(2*B))) (fun X=>wm (fun Y=>Ef) _),<-xh];refine cp fun X _ _=>?_;unfold Lm;rw[show -((8*B:Nat):Int)=4*(2 * -(B:Int)) by lia,show 16*B=4*(2*(2*B)) by lia,zF,zF,<-wZ,<-xh];refine cp fun Y _ _=>?_;rw[show 2*(2*X)+1=4*X+1 by lia,show 2*(2*X+1)+1=4*X+3 by lia];have e1:=wu (os:=os) (X:=X) (Y:=Y) (i:=1) (j:=0) (s:=3) (by decide);have e2:=wu (os:=os) (X:=X) (Y:=Y) (i:=3) (j:=0) (s:=3) (by decide);have e3:=wu (os:=os) (X:=X) (Y:=Y) (i:=1) (j:=1) (s:=2) (by decide);have e4:=wu (os:=os) (X:=X) (Y:=Y) (i:=1) (j:=2) (s:=2) (by decide);have e5:=wu (os:=os) (X:=X) (Y:=Y) (i:=3) (j:=1) (s:=0) (by decide);have e6:=wu (os:=os) (X:=X) (Y:=Y) (i:=3) (j:=2) (s:=0) (by decide);have e7:=wu (os:=os) (X:=X) (Y:=Y) (i:=1) (j:=3) (s:=1) (by decide);have e8:=wu (os:=os) (X:=X) (Y:=Y) (i:=3) (j:=3) (s:=1) (by decide);rw[show((0:Nat):Int)=0 from rfl,NZ]at e1 e2;rw[e1,e2];have e3:bi (Cu os (4*X+1) (4*Y+1))=_:=e3;have e4:bi (Cu os (4*X+1) (4*Y+2))=_:=e4;have e5:bi (Cu os (4*X+3) (4*Y+1))=_:=e5;have e6:bi (Cu os (4*X+3) (4*Y+2))=_:=e6;have e7:bi (Cu os (4*X+1) (4*Y+3))=_:=e7;have e8:bi (Cu os (4*X+3) (4*Y+3))=_:=e8;rw[e3,e4,e5,e6,e7,e8];lia
theorem Iq:(qsU B os).Nodup:=by
 unfold qsU;refine yH (fun X=>yH (fun Y=>?_) fun y y' ne u h1 h2=>ne ((dA.mp h1).2.1.symm.trans (dA.mp h2).2.1)) fun y y' ne u h1 h2=>?_
 ·unfold cl4;refine LV.mpr (P6 (fun{a b} ne e=>ne ?_) (List.Pairwise.filter _ List.nodup_range));exact congrArg (fun q:Qt=>q.2.2) e
 obtain⟨_,_,_,g1⟩:=bS.mp h1;obtain⟨_,_,_,g2⟩:=bS.mp h2;exact ne ((dA.mp g1).1.symm.trans (dA.mp g2).1)
theorem EV(bd:∀o∈os,Bd B o):q∈qsU B os↔q.2.2<4/\inU os q:=by
 unfold qsU;rw[bS];constructor
 ·rintro⟨X,_,_,h⟩;obtain⟨Y,_,_,h⟩:=bS.mp h;obtain⟨rfl,rfl,h1,h2⟩:=dA.mp h;exact⟨h1,h2⟩
 rintro⟨h1,o,ho,h2⟩;obtain⟨⟨b1,b2⟩,b3,b4⟩:=bd o ho;have h3:=h2;obtain⟨⟨⟨i1,i2⟩,i3,i4⟩,_⟩:=h2;have hx:px q.2.2<8/\0<px q.2.2/\0<py q.2.2/\py q.2.2<8:=by
  match q.2.2,h1 with
  |0,_=>decide
  |1,_=>decide
  |2,_=>decide
  |3,_=>decide
 exact⟨q.1,by lia,by lia,bS.mpr ⟨q.2.1,by lia,by lia,dA.mpr ⟨rfl,rfl,h1,o,ho,h3⟩⟩⟩
variable {qs:List Qt}
theorem FN(bd:∀o∈os,Bd B o)(nd:qs.Nodup)(mem:∀q,q∈qs↔q.2.2<4/\inU os q):2*(qs.length:Int)=Ar B os:=by rw[Lp,((List.perm_ext_iff_of_nodup nd Iq).mpr fun q=>(mem q).trans (EV bd).symm).length_eq]
theorem IE{os':List Oc}(h:∀o,o∈os↔o∈os'):Ar B os=Ar B os':=by unfold Ar Lm;refine cp fun j _ _=>cp fun y _ _=>yk ⟨fun⟨o,ho,c⟩=>⟨o,(h o).mp ho,c⟩,fun⟨o,ho,c⟩=>⟨o,(h o).mpr ho,c⟩⟩
theorem k9[DecidableEq α]{l:List α}:∀{m:List α},l.Nodup->(∀x∈l,x∈m)->l.length<=m.length:=by
 induction l with
 |nil=>exact fun _ _=>E_ _
 |cons x l ih=>
  intro m nd h;obtain⟨n1,n2⟩:=F_.mp nd;have hx:=h x u_;have:=ih (m:=m.erase x) n2 fun y hy=>(List.mem_erase_of_ne (fun e:y=x=>n1 (by rw[<-e];exact hy))).mpr (h y (n_ _ hy))
  rw[List.length_erase_of_mem hx]at this;have:=List.length_pos_of_mem hx;rw[h_];lia
theorem Gs{l:List Int}(h:l.Pairwise (·<·)):l.Nodup:=h.imp fun{a b} h e=>by lia
noncomputable def Cd(os:List Oc)(c:Int->Prop):Prop:=(∀o∈os,c (2*o.a)/\c (2*o.b))/\∀o∈os,∀t,t=o.c\/t=o.d->∀o'∈os,∀u,u=o'.e\/u=o'.f->∀o''∈os,∀v,v=o''.g\/v=o''.h->c (2*(u-t))/\c (2*(v+t))/\c (u+v)
def jj(B:Nat)(os:List Oc):Prop:=os.length<=200/\B<2 ^ 50/\(os.length<=14\/B<=800)/\(∀o∈os,Vo o)/\∀o∈os,Bd B o
def Sds(B:Nat)(os:List Oc)(S:List Int):Prop:=S.Pairwise (·<·)/\S.length<100000/\(os=[]->S=[])/\(os≠[]->∃w e:Int,S[0]?=some w/\S[S.length-1]?=some e/\-((2*B:Nat):Int)<=w/\w<=e/\e<=((2*B:Nat):Int)/\∀o∈os,w<=2*o.a/\2*o.b<=e)/\∀(i:Nat) (l r:Int),S[i]?=some l->S[i+1]?=some r->Nc os l r
theorem Kr{c:Int->Prop}{l r:Int}(cd:Cd os c)(h:∀z,c z->z<=l\/r<=z):Nc os l r:=
 ⟨fun o ho=>⟨h _ (cd.1 o ho).1,h _ (cd.1 o ho).2⟩,fun o ho t et o' ho' u eu o'' ho'' v ev=>⟨h _ (cd.2 o ho t et o' ho' u eu o'' ho'' v ev).1,h _ (cd.2 o ho t et o' ho' u eu o'' ho'' v ev).2.1,h _ (cd.2 o ho t et o' ho' u eu o'' ho'' v ev).2.2⟩⟩
variable {S:List Int}
theorem jY(h:S.Pairwise (·<·))(hi:S[i]?=some x)(hj:S[j]?=some y)(hij:i<j):x<y:=by obtain⟨a,rfl⟩:=c_.mp hi;obtain⟨b,rfl⟩:=c_.mp hj;exact Nd.mp h i j a b hij
theorem zG{W E:Int}{c:Int->Prop}(ne:os≠[])(vo:∀o∈os,Vo o)(bd:∀o∈os,Bd B o)(w1:∃o∈os,W=o.a)(w2:∀o∈os,W<=o.a)(e1:∃o∈os,E=o.b)(e2:∀o∈os,o.b<=E)(cd:Cd os c)
  (h1:S.Pairwise (·<·)) (h2:∀z,z∈S↔c z/\2*W<=z/\z<=2*E) (h3:S.length<100000):Sds B os S:=by
 obtain⟨o1,m1,r1⟩:=w1;obtain⟨o2,m2,r2⟩:=e1;have hWE:W<=E:=by have g1:=(vo o1 m1).1.1;have g2:=e2 o1 m1;lia
 have iW:2*W∈S:=(h2 _).mpr ⟨by rw[r1];exact(cd.1 o1 m1).1,by lia,by lia⟩;have iE:2*E∈S:=(h2 _).mpr ⟨by rw[r2];exact(cd.1 o2 m2).2,by lia,by lia⟩;obtain⟨jW,lW,gW⟩:=Mg.mp iW;obtain⟨jE,lE,gE⟩:=Mg.mp iE;have gW':S[jW]?=some (2*W):=by rw[d_ lW,gW]
 have gE':S[jE]?=some (2*E):=by rw[d_ lE,gE]
 have s0:S[0]?=some (2*W):=by
  by_cases z:jW=0
  ·rw[<-z];exact gW'
  have l0:0<S.length:=by lia
  have e0:=d_ l0;have:=jY h1 e0 gW' (by lia);have:=((h2 _).mp (F' e0)).2;lia
 have sl:S[S.length-1]?=some (2*E):=by
  by_cases z:jE=S.length-1
  ·rw[<-z];exact gE'
  have l0:S.length-1<S.length:=by lia
  have e0:=d_ l0;have:=jY h1 gE' e0 (by lia);have:=((h2 _).mp (F' e0)).2;lia
 refine⟨h1,h3,fun z=>absurd z ne,fun _=>⟨2*W,2*E,s0,sl,?_,by lia,?_,fun o ho=>?_⟩,fun i l r el er=>Kr cd fun z hz=>?_⟩
 ·have:=(bd o1 m1).1.1;lia
 ·have:=(bd o2 m2).1.2;lia
 ·have a:=w2 o ho;have b:=e2 o ho;lia
 have hl:=((h2 _).mp (F' el)).2;have hr:=((h2 _).mp (F' er)).2;by_cases g1:z<2*W
 ·exact .inl (by lia)
 by_cases g2:2*E<z
 ·exact .inr (by lia)
 obtain⟨j,lj,gj⟩:=Mg.mp ((h2 z).mpr ⟨hz,by lia,by lia⟩);have gj':S[j]?=some z:=by rw[d_ lj,gj]
 by_cases c1:j<i
 ·have:=jY h1 gj' el c1;exact .inl (by lia)
 by_cases c2:j=i
 ·subst c2;rw[el]at gj';cases gj';exact .inl (Ms _)
 by_cases c3:j=i+1
 ·subst c3;rw[er]at gj';cases gj';exact .inr (Ms _)
 have:=jY h1 er gj' (by lia);exact .inr (by lia)
theorem B1{W E:Int}(ne:os≠[])(vo:∀o∈os,Vo o)(bd:∀o∈os,Bd B o)(w1:∃o∈os,W=o.a)(w2:∀o∈os,W<=o.a)(e1:∃o∈os,E=o.b)(e2:∀o∈os,o.b<=E)(hl:2*E-2*W<=50000) :
  Sds B os ((B' (2*E+1-2*W).toNat).map fun(j:Nat)=>2*W+(j:Int)):=by
 refine zG (c:=fun _=>True) ne vo bd w1 w2 e1 e2 ⟨fun _ _=>⟨trivial,trivial⟩,fun _ _ _ _ _ _ _ _ _ _ _ _=>⟨trivial,trivial,trivial⟩⟩ ?_ (fun z=>?_) ?_
 ·rw[LV];exact Oe.imp fun{a b} h=>by lia
 ·rw[t_];exact⟨fun⟨j,m,e⟩=>by have:=LP.mp m;exact⟨trivial,by lia,by lia⟩,fun⟨_,a,b⟩=>⟨(z-2*W).toNat,LP.mpr (by lia),by lia⟩⟩
 rw[a_,Mo];lia
noncomputable def ocT(o:Oc):T:=.tup [.int o.a,.int o.b,.int o.c,.int o.d,.int o.e,.int o.f,.int o.g,.int o.h]
theorem jU:er (ocT o)=ocT o:=rfl
theorem dB:cv (ocT o)=true:=rfl
theorem d7:aW (ocT o)=true:=rfl
theorem dv:isAny (ocT o)=false:=rfl
noncomputable def ocL(o:Oc):List Int:=[o.a,o.b,o.c,o.d,o.e,o.f,o.g,o.h]
theorem Hm(o:Oc):ocT o=iT (ocL o):=rfl
def gA(i:Nat)(o:Oc):Int:=(ocL o).getD i 0
theorem kG{i:Int}{k:T->Prop}:ixT (ocT o) (.int i) k=ixT (.tup [.int o.a,.int o.b,.int o.c,.int o.d,.int o.e,.int o.f,.int o.g,.int o.h]) (.int i) k:=rfl
theorem G5(h:i<8):atI [T.int o.a,.int o.b,.int o.c,.int o.d,.int o.e,.int o.f,.int o.g,.int o.h] (i:Int)=some (.int (gA i o)):=by
 rcases i with _ | _ | _ | _ | _ | _ | _ | _|i
 iterate 8 rfl
 exact absurd h (Oh (O9 8 i))
theorem sizeLine_eq:sizeLine=16777216:=rfl
theorem cM{ps:List α}{g:α->Int}:intsOf (ps.map fun p=>T.int (g p))=some (ps.map g):=by
 induction ps with
 |nil=>rfl
 |cons p ps ih=>rw[k_,intsOf,ih];rfl
theorem AS{ps:List α}{qs:List β}{g:α->Int}{h:β->Int}:intsOf ((ps.map fun p=>T.int (g p))++qs.map fun p=>T.int (h p))=some (ps.map g++qs.map h):=by
 have e:(ps.map fun p=>T.int (g p))++(qs.map fun p=>T.int (h p))=(ps.map g++qs.map h).map fun x=>T.int x:=by rw[q_,z_,z_];rfl
 rw[e,cM,QA]
theorem eD:intsOf (ns.map T.int)=some ns:=by have:=cM (ps:=ns) (g:=fun x=>x);rwa[QA]at this
theorem c2(x:Int):wy 2 x:=.inl ⟨by decide,by decide⟩
theorem c4(x:Int):wy 4 x:=.inl ⟨by decide,by decide⟩
theorem oU{ms:List Int}(h1:ms.Pairwise (·<·))(h2:∀z,z∈ms↔∃o∈os,z=gA i o\/z=gA (i+1) o):ms.length<=2*os.length:=by
 have:=k9 (m:=os.map (gA i)++os.map (gA (i+1))) (Gs h1) fun z hz=>by obtain⟨o,m,e⟩:=(h2 z).mp hz;rw[x_,t_,t_];exact e.elim (fun e=>.inl ⟨o,m,e.symm⟩) fun e=>.inr ⟨o,m,e.symm⟩
 rw[e_,a_,a_]at this;lia
abbrev Pt:=Int×Int
noncomputable def ptP(p:Pt):T:=pt p.1 p.2
variable {p:Pt}
theorem bI:er (ptP p)=ptP p:=rfl
theorem aQ:cv (ptP p)=true:=rfl
theorem aI:aW (ptP p)=true:=rfl
theorem bh:isAny (ptP p)=false:=rfl
theorem b9{k:T->Prop}:ixT (ptP p) (.int 0) k=k (.int p.1):=rfl
theorem bT{k:T->Prop}:ixT (ptP p) (.int 1) k=k (.int p.2):=rfl
theorem bp{k:T->Prop}:qA [ptP p] k=k (ptP p):=rfl
theorem BJ{p q:Pt}{k:T->Prop}:eqS (ptP p) (ptP q) k=k (.bl (decide (p=q))):=by unfold ptP;rw[j9];congr 2;rw[decide_eq_decide];exact⟨fun h=>M9 h.1 h.2,fun h=>by rw[h];exact⟨rfl,rfl⟩⟩
noncomputable def Ks:List Pt:=[(1,0),(1,1),(0,1),(-1,1),(-1,0),(-1,-1),(0,-1),(1,-1)]
noncomputable def st8(d:Nat):Pt:=Ks.getD d (0,0)
def vx(p:Pt)(d:Nat)(m:Int):Pt:=(p.1+(st8 d).1*m,p.2+(st8 d).2*m)
theorem D8{d:Nat}(h:d<8):atI [T.cst [.int 1,.int 0],.cst [.int 1,.int 1],.cst [.int 0,.int 1],.cst [.int (-1),.int 1],.cst [.int (-1),.int 0],.cst [.int (-1),.int (-1)],.cst [.int 0,.int (-1)],.cst [.int 1,.int (-1)]] (d:Int)=some (.cst [.int (st8 d).1,.int (st8 d).2]):=by
 match d,h with
 |0,_=>rfl
 |1,_=>rfl
 |2,_=>rfl
 |3,_=>rfl
 |4,_=>rfl
 |5,_=>rfl
 |6,_=>rfl
 |7,_=>rfl
theorem AH(d:Nat)(h:d<8):-1<=(st8 d).1/\(st8 d).1<=1/\-1<=(st8 d).2/\(st8 d).2<=1:=by
 match d,h with
 |0,_=>decide
 |1,_=>decide
 |2,_=>decide
 |3,_=>decide
 |4,_=>decide
 |5,_=>decide
 |6,_=>decide
 |7,_=>decide
noncomputable def far(p q:Pt):Int:=max ((q.1-p.1).natAbs:Int) ((q.2-p.2).natAbs:Int)
def lead(p q:Pt):Option Nat:=if far p q=0 then none else(B' 8).find? fun d=>decide (vx p d (far p q)=q)
def zP(p q:Pt):T:=match lead p q with
 |none=>.non
 |some d=>.tup [.int (d:Int),.int (far p q)]
noncomputable def BH(o q:Oc):Oc:=⟨o.a+q.a,o.b+q.b,o.c+q.c,o.d+q.d,o.e+q.e,o.f+q.f,o.g+q.g,o.h+q.h⟩
noncomputable def oc1(p:Pt):Oc:=⟨p.1,p.1,p.2,p.2,p.1+p.2,p.1+p.2,p.1-p.2,p.1-p.2⟩
noncomputable def oc2(p q:Pt):Oc:=⟨min p.1 q.1,max p.1 q.1,min p.2 q.2,max p.2 q.2,min (p.1+p.2) (q.1+q.2),max (p.1+p.2) (q.1+q.2),min (p.1-p.2) (q.1-q.2),max (p.1-p.2) (q.1-q.2)⟩
noncomputable def gO(j:Nat)(p:Pt):Int:=[p.1,p.2,p.1+p.2,p.1-p.2].getD j 0
def CA(ps:List Pt)(o:Oc):Prop:=((iO (ps.map (gO 0)) o.a/\iL (ps.map (gO 0)) o.b)/\(iO (ps.map (gO 1)) o.c/\iL (ps.map (gO 1)) o.d))/\(iO (ps.map (gO 2)) o.e/\iL (ps.map (gO 2)) o.f)/\iO (ps.map (gO 3)) o.g/\iL (ps.map (gO 3)) o.h
theorem DB{f:Nat->Int×Int}{m M:Int}:(B' (i+1)).flatMap (fun j=>[T.int (if j=i then(m,M)else f j).1,T.int (if j=i then(m,M)else f j).2])=(B' i).flatMap (fun j=>[T.int (f j).1,T.int (f j).2])++[T.int m]++[T.int M]:=by
 rw[NU,NP,l_];have ec:(B' i).flatMap (fun j=>[T.int (if j=i then(m,M)else f j).1,T.int (if j=i then(m,M)else f j).2])=(B' i).flatMap fun j=>[T.int (f j).1,T.int (f j).2]:=by rw[Qf,Qf];refine congrArg List.flatten (ML fun j hj=>?_);have:=LP.mp hj;rw[if_neg (by lia)]
 rw[ec];congr 1;show [T.int (if i=i then(m,M)else f i).1,T.int (if i=i then(m,M)else f i).2]++[]=_;rw[if_pos rfl]
 rfl
theorem JC(h:CA [p] o):o=oc1 p:=by
 obtain⟨⟨⟨h1,h2⟩,h3,h4⟩,⟨h5,h6⟩,h7,h8⟩:=h;have k:∀{x y:Int},iO [x] y->y=x:=fun h=>A_.mp h.1;have k':∀{x y:Int},iL [x] y->y=x:=fun h=>A_.mp h.1;obtain⟨a,b,c,d,e,f,g,h⟩:=o;have e1:=k h1;have e2:=k' h2;have e3:=k h3;have e4:=k' h4;have e5:=k h5;have e6:=k' h6;have e7:=k h7;have e8:=k' h8;dsimp only at e1 e2 e3 e4 e5 e6 e7 e8;rw[e1,e2,e3,e4,e5,e6,e7,e8]
 rfl
theorem K9{q:Pt}(h:CA [p,q] o):o=oc2 p q:=by
 obtain⟨⟨⟨h1,h2⟩,h3,h4⟩,⟨h5,h6⟩,h7,h8⟩:=h;have k:∀{x z y:Int},iO [x,z] y->y=min x z:=fun{x z y} h=>by have a1:=h.2 x (.head _);have a2:=h.2 z (.tail _ (.head _));have a3:=h.1;simp only[p_,Mi,or_false]at a3;lia
 have k':∀{x z y:Int},iL [x,z] y->y=max x z:=fun{x z y} h=>by have a1:=h.2 x (.head _);have a2:=h.2 z (.tail _ (.head _));have a3:=h.1;simp only[p_,Mi,or_false]at a3;lia
 obtain⟨a,b,c,d,e,f,g,h⟩:=o;have e1:=k h1;have e2:=k' h2;have e3:=k h3;have e4:=k' h4;have e5:=k h5;have e6:=k' h6;have e7:=k h7;have e8:=k' h8;dsimp only at e1 e2 e3 e4 e5 e6 e7 e8;rw[e1,e2,e3,e4,e5,e6,e7,e8]
 rfl
def mkO(r k:Int)(p:Pt):Oc:=BH ⟨-r,r,-r,r,-(r+k),r+k,-(r+k),r+k⟩ (oc1 p)
def swO(r k:Int)(p q:Pt):Oc:=BH (mkO r k (0,0)) (oc2 p q)
noncomputable def mkQ(r R x y:Int):Oc:=⟨x-r,x+r,y-r,y+r,x+y-R,x+y+R,x-y-R,x-y+R⟩
noncomputable def swQ(r R x y x' y':Int):Oc:=⟨min x x'-r,max x x'+r,min y y'-r,max y y'+r,min (x+y) (x'+y')-R,max (x+y) (x'+y')+R,min (x-y) (x'-y')-R,max (x-y) (x'-y')+R⟩
variable {x' y':Int}
theorem nk{r R:Int}:swQ r R x y x' y'=swQ r R x' y' x y:=by unfold swQ;simp only[Int.min_comm,Int.max_comm]
theorem Ip{r R α β:Int}(h0:1<=r)(h1:r<R)(b1:-(8*r)<=β)(b2:β<=8*r)(a1:-(8*r)<=α)(s1:-(8*R)<=α+β)(d1:-(8*R)<=α-β):∀n:Nat,α<=8*n+8*r->α+β<=8*n+8*R->α-β<=8*n+8*R->∃i:Nat,i<=n/\(-(8*r)<=α-8*i/\α-8*i<=8*r)/\(-(8*R)<=α+β-8*i/\α+β-8*i<=8*R)/\-(8*R)<=α-β-8*i/\α-β-8*i<=8*R
 |0,a2,s2,d2=>⟨0,b_ _,by lia⟩
 |n+1,a2,s2,d2=>by
  by_cases g:α<=8*n+8*r/\α+β<=8*n+8*R/\α-β<=8*n+8*R
  ·obtain⟨i,hi,k⟩:=Ip h0 h1 b1 b2 a1 s1 d1 n g.1 g.2.1 g.2.2;exact⟨i,N8 hi,k⟩
  exact⟨n+1,b_ _,by lia⟩
theorem Ha{r R α β:Int}(h0:1<=r)(h1:r<R)(h2:R<2*r)(c1:-(8*R)<=α-β)(c2:α-β<=8*R)(a1:-(8*r)<=α)(b1:-(8*r)<=β)(s1:-(8*R)<=α+β):∀n:Nat,α<=8*n+8*r->β<=8*n+8*r->α+β<=16*n+8*R->∃i:Nat,i<=n/\(-(8*r)<=α-8*i/\α-8*i<=8*r)/\(-(8*r)<=β-8*i/\β-8*i<=8*r)/\-(8*R)<=α+β-16*i/\α+β-16*i<=8*R
 |0,a2,b2,s2=>⟨0,b_ _,by lia⟩
 |n+1,a2,b2,s2=>by
  by_cases g:α<=8*n+8*r/\β<=8*n+8*r/\α+β<=16*n+8*R
  ·obtain⟨i,hi,k⟩:=Ha h0 h1 h2 c1 c2 a1 b1 s1 n g.1 g.2.1 g.2.2;exact⟨i,N8 hi,k⟩
  exact⟨n+1,b_ _,by lia⟩
theorem iM:(min a (a+n)=a/\max a (a+n)=a+n)/\min a (a-n)=a-n/\max a (a-n)=a:=⟨⟨O' (by lia),Oi (by lia)⟩,O2 (by lia),Ow (by lia)⟩
theorem yZ{r R:Int}:swQ r R x y (x+n) y=⟨x-r,x+n+r,y-r,y+r,x+y-R,x+y+n+R,x-y-R,x-y+n+R⟩/\swQ r R x y (x+n) (y+n)=⟨x-r,x+n+r,y-r,y+n+r,x+y-R,x+y+(n+n:Nat)+R,x-y-R,x-y+R⟩/\swQ r R x y x (y+n)=⟨x-r,x+r,y-r,y+n+r,x+y-R,x+y+n+R,x-y-n-R,x-y+R⟩/\swQ r R x y (x+n) (y-n)=⟨x-r,x+n+r,y-n-r,y+r,x+y-R,x+y+R,x-y-R,x-y+(n+n:Nat)+R⟩:=by
 unfold swQ;refine⟨?_,?_,?_,?_⟩
 ·rw[show x+n+y=x+y+n by lia,show x+n-y=x-y+n by lia];simp only[iM.1.1,iM.1.2,O3,O4]
 ·rw[show x+n+(y+n)=x+y+(n+n:Nat) by lia,show x+n-(y+n)=x-y by lia];simp only[iM.1.1,iM.1.2,O3,O4]
 ·rw[show x+(y+n)=x+y+n by lia,show x-(y+n)=x-y-n by lia];simp only[iM.1.1,iM.1.2,iM.2.1,iM.2.2,O3,O4]
 rw[show x+n+(y-n)=x+y by lia,show x+n-(y-n)=x-y+(n+n:Nat) by lia];simp only[iM.1.1,iM.1.2,iM.2.1,iM.2.2,O3,O4]
theorem K6{r R:Int}(h4:q.2.2<4)(h0:1<=r)(h1:r<R)(h2:R<2*r)(h:inL (swQ r R x y (x+n) y) q):∃i:Nat,i<=n/\inL (mkQ r R (x+i) y) q:=by rw[yZ.1]at h;unfold inL at *;obtain⟨⟨⟨k1,k2⟩,k3,k4⟩,⟨k5,k6⟩,k7,k8⟩:=h;generalize 8*q.1+px q.2.2=U at *;generalize 8*q.2.1+py q.2.2=V at *;dsimp only at *;obtain⟨i,hi,⟨j1,j2⟩,⟨j3,j4⟩,j5,j6⟩:=Ip (α:=U-8*x) (β:=V-8*y) h0 h1 (by lia) (by lia) (by lia) (by lia) (by lia) n (by lia) (by lia) (by lia);refine⟨i,hi,?_⟩;unfold mkQ;dsimp only;lia
theorem JJ{r R:Int}(h4:q.2.2<4)(h0:1<=r)(h1:r<R)(h2:R<2*r)(h:inL (swQ r R x y x (y+n)) q):∃i:Nat,i<=n/\inL (mkQ r R x (y+i)) q:=by rw[yZ.2.2.1]at h;unfold inL at *;obtain⟨⟨⟨k1,k2⟩,k3,k4⟩,⟨k5,k6⟩,k7,k8⟩:=h;generalize 8*q.1+px q.2.2=U at *;generalize 8*q.2.1+py q.2.2=V at *;dsimp only at *;obtain⟨i,hi,⟨j1,j2⟩,⟨j3,j4⟩,j5,j6⟩:=Ip (α:=V-8*y) (β:=U-8*x) h0 h1 (by lia) (by lia) (by lia) (by lia) (by lia) n (by lia) (by lia) (by lia);refine⟨i,hi,?_⟩;unfold mkQ;dsimp only;lia
theorem Kz{r R:Int}(h4:q.2.2<4)(h0:1<=r)(h1:r<R)(h2:R<2*r)(h:inL (swQ r R x y (x+n) (y+n)) q):∃i:Nat,i<=n/\inL (mkQ r R (x+i) (y+i)) q:=by rw[yZ.2.1]at h;unfold inL at *;obtain⟨⟨⟨k1,k2⟩,k3,k4⟩,⟨k5,k6⟩,k7,k8⟩:=h;generalize 8*q.1+px q.2.2=U at *;generalize 8*q.2.1+py q.2.2=V at *;dsimp only at *;obtain⟨i,hi,⟨j1,j2⟩,⟨j3,j4⟩,j5,j6⟩:=Ha (α:=U-8*x) (β:=V-8*y) h0 h1 h2 (by lia) (by lia) (by lia) (by lia) (by lia) n (by lia) (by lia) (by lia);refine⟨i,hi,?_⟩;unfold mkQ;dsimp only;lia
theorem JS{r R:Int}(h4:q.2.2<4)(h0:1<=r)(h1:r<R)(h2:R<2*r)(h:inL (swQ r R x y (x+n) (y-n)) q):∃i:Nat,i<=n/\inL (mkQ r R (x+i) (y-i)) q:=by rw[yZ.2.2.2]at h;unfold inL at *;obtain⟨⟨⟨k1,k2⟩,k3,k4⟩,⟨k5,k6⟩,k7,k8⟩:=h;generalize 8*q.1+px q.2.2=U at *;generalize 8*q.2.1+py q.2.2=V at *;dsimp only at *;obtain⟨i,hi,⟨j1,j2⟩,⟨j3,j4⟩,j5,j6⟩:=Ha (α:=U-8*x) (β:=8*y-V) h0 h1 h2 (by lia) (by lia) (by lia) (by lia) (by lia) n (by lia) (by lia) (by lia);refine⟨i,hi,?_⟩;unfold mkQ;dsimp only;lia
theorem btw{e:Int}(h:i<=n):min a (a+n*e)<=a+i*e/\a+i*e<=max a (a+n*e):=by
 rcases MO 0 e with g|g
 ·have k1:=Int.mul_nonneg (N1 i) g;have k2:=Int.mul_le_mul_of_nonneg_right (QB.mpr h) g;generalize (i:Int)*e=u at *;generalize (n:Int)*e=v at *;exact⟨Me (Mq _ _) (by lia),Me (by lia) (MF _ _)⟩
 have k1:=Int.mul_nonpos_of_nonneg_of_nonpos (N1 i) g;have k2:=Int.mul_le_mul_of_nonpos_right (QB.mpr h) g;generalize (i:Int)*e=u at *;generalize (n:Int)*e=v at *;exact⟨Me (ME _ _) (by lia),Me (by lia) (Mr _ _)⟩
noncomputable def FL:List (Int×Int):=[(1,0),(1,1),(0,1),(-1,1),(-1,0),(-1,-1),(0,-1),(1,-1)]
theorem Fl{r U:Int}(h:a<=b)(k:8*(b-r)<=U):8*(a-r)<=U:=by lia
theorem ET{r U:Int}(h:b<=a)(k:U<=8*(b+r)):U<=8*(a+r):=by lia
variable {d:Int×Int}
theorem E5{r R:Int}(ex:x'=x+n*d.1)(ey:y'=y+n*d.2)(hi:i<=n)(g:inL (mkQ r R (x+i*d.1) (y+i*d.2)) q):inL (swQ r R x y x' y') q:=by have u1:=btw (a:=x) (e:=d.1) hi;have u2:=btw (a:=y) (e:=d.2) hi;have u3:=btw (a:=x+y) (e:=d.1+d.2) hi;have u4:=btw (a:=x-y) (e:=d.1-d.2) hi;rw[QK,QK,show x+y+(n*d.1+n*d.2)=x'+y' by rw[ex,ey];lia,show x+y+(i*d.1+i*d.2)=x+i*d.1+(y+i*d.2) by lia]at u3;rw[QL,QL,show x-y+(n*d.1-n*d.2)=x'-y' by rw[ex,ey];lia,show x-y+(i*d.1-i*d.2)=x+i*d.1-(y+i*d.2) by lia]at u4;rw[<-ex]at u1;rw[<-ey]at u2;obtain⟨⟨⟨k1,k2⟩,k3,k4⟩,⟨k5,k6⟩,k7,k8⟩:=g;exact⟨⟨⟨Fl u1.1 k1,ET u1.2 k2⟩,Fl u2.1 k3,ET u2.2 k4⟩,⟨Fl u3.1 k5,ET u3.2 k6⟩,Fl u4.1 k7,ET u4.2 k8⟩
theorem HS{n:Int}:n * -1=-n/\n*1=n/\n*0=0:=⟨by lia,P8 n,Int.mul_zero n⟩
theorem GZ{r R:Int}(h4:q.2.2<4)(h0:1<=r)(h1:r<R)(h2:R<2*r)(hd:d∈FL)(ex:x'=x+n*d.1)(ey:y'=y+n*d.2):inL (swQ r R x y x' y') q↔∃i:Nat,i<=n/\inL (mkQ r R (x+i*d.1) (y+i*d.2)) q:=by
 constructor
 ·intro h;simp only[FL,p_,Mi,or_false]at hd;have bk:∀{i:Nat},i<=n->((n-i:Nat):Int)=n-i:=fun h=>Int.ofNat_sub h;rcases hd with rfl|rfl|rfl|rfl|rfl|rfl|rfl|rfl <;> simp only[HS,NZ]at ex ey ⊢
  ·subst ex ey;exact K6 h4 h0 h1 h2 h
  ·subst ex ey;exact Kz h4 h0 h1 h2 h
  ·subst ex ey;exact JJ h4 h0 h1 h2 h
  ·rw[nk,show x=x'+n by lia,show y=y'-n by lia]at h;obtain⟨i,hi,g⟩:=JS h4 h0 h1 h2 h;exact⟨n-i,Mv _ _,by rw[bk hi,show x + -((n:Int)-i)=x'+i by lia,show y+((n:Int)-i)=y'-i by lia];exact g⟩
  ·rw[nk,show x=x'+n by lia,ey]at h;obtain⟨i,hi,g⟩:=K6 h4 h0 h1 h2 h;exact⟨n-i,Mv _ _,by rw[bk hi,show x + -((n:Int)-i)=x'+i by lia];exact g⟩
  ·rw[nk,show x=x'+n by lia,show y=y'+n by lia]at h;obtain⟨i,hi,g⟩:=Kz h4 h0 h1 h2 h;exact⟨n-i,Mv _ _,by rw[bk hi,show x + -((n:Int)-i)=x'+i by lia,show y + -((n:Int)-i)=y'+i by lia];exact g⟩
  ·rw[nk,ex,show y=y'+n by lia]at h;obtain⟨i,hi,g⟩:=JJ h4 h0 h1 h2 h;exact⟨n-i,Mv _ _,by rw[bk hi,show y + -((n:Int)-i)=y'+i by lia];exact g⟩
  rw[ex,show y'=y-n by lia]at h;exact JS h4 h0 h1 h2 h
 rintro⟨i,hi,g⟩;exact E5 ex ey hi g
noncomputable def stp(k:Nat):Int×Int:=FL.getD k (0,0)
def gon(a:Pt)(k:Nat)(m:Int):Pt:=(a.1+(stp k).1*m,a.2+(stp k).2*m)
noncomputable def mny(a b:Pt):Int:=max ((b.1-a.1).natAbs:Int) ((b.2-a.2).natAbs:Int)
def tW(a b:Pt):Option (Nat×Int):=if mny a b=0 then none else((B' 8).find? fun k=>decide (gon a k (mny a b)=b)).map fun k=>(k,mny a b)
def gOn(w:Pt×Pt)(c:Pt):Bool:=if c=w.2 then true else match tW w.1 c with
 |none=>false
 |some (k,m)=>match tW w.1 w.2 with
  |none=>decide (m=1)
  |some (k',m')=>decide (k=k'/\m=m'+1)
def WOk(w:Pt×Pt):Prop:=∃k,k<8/\∃n:Nat,w.2=gon w.1 k n
def onW(w:Pt×Pt)(p:Pt):Prop:=∃k,k<8/\∃n i:Nat,i<=n/\w.2=gon w.1 k n/\p=gon w.1 k i
theorem Br{k:Nat}(h:k<8):stp k∈FL/\-1<=(stp k).1/\(stp k).1<=1/\-1<=(stp k).2/\(stp k).2<=1/\((stp k).1=1\/(stp k).1=-1\/(stp k).2=1\/(stp k).2=-1):=by
 have:k=0\/k=1\/k=2\/k=3\/k=4\/k=5\/k=6\/k=7:=by lia
 rcases this with rfl|rfl|rfl|rfl|rfl|rfl|rfl|rfl <;> decide
theorem E9{k k':Nat}(h:k<8)(h':k'<8)(e:stp k=stp k'):k=k':=by
 have d:∀k<8,∀k'<8,stp k=stp k'->k=k':=by decide
 exact d k h k' h' e
theorem tO{a:Pt}{k:Nat}(h:k<8):mny a (gon a k n)=n:=by
 have e:∀x d:Int,((x+d*n-x).natAbs:Int)=(d.natAbs:Int)*n:=fun x d=>by rw[PY,Int.add_sub_cancel,Int.natAbs_mul,Int.natAbs_natCast,Int.natCast_mul]
 have c:∀k<8,((stp k).1.natAbs=1\/(stp k).1.natAbs=0/\(stp k).2.natAbs=1)/\(stp k).2.natAbs<=1:=by decide
 obtain⟨c1,c2⟩:=c k h;unfold mny gon;dsimp only;rw[e,e];rcases c1 with g|⟨g,g'⟩
 ·rw[g,Pa,P_];refine Ow ?_;rcases Nat.le_one_iff_eq_zero_or_eq_one.mp c2 with z|z <;> rw[z]
  ·rw[Qg,QC];exact N1 n
  rw[Pa,P_];exact Ms _
 rw[g,g',Qg,QC,Pa,P_];exact Oi (N1 n)
theorem yY{a:Pt}{k k' n':Nat}(h:k<8)(h':k'<8)(e:gon a k n=gon a k' n'):n=n'/\(n=0\/k=k'):=by
 have e1:n=n':=by have:=tO (a:=a) (n:=n) h;rw[e,tO h']at this;lia
 subst e1;refine⟨rfl,?_⟩;by_cases z:n=0
 ·exact .inl z
 refine .inr (E9 h h' ?_);unfold gon at e;obtain⟨e1,e2⟩:=QJ e;have f:∀{u v:Int},u*(n:Int)=v*(n:Int)->u=v:=fun g=>Int.eq_of_mul_eq_mul_right (by lia) g
 exact M9 (f (by lia)) (f (by lia))
theorem nI{a b:Pt}{k:Nat}{m:Int}(h:tW a b=some (k,m)):k<8/\∃n:Nat,1<=n/\m=n/\b=gon a k n:=by
 unfold tW at h;split at h
 ·cases h
 rename_i z;cases e:(B' 8).find? fun k=>decide (gon a k (mny a b)=b)with
 |none=>rw[e]at h;cases h
 |some j=>
  rw[e]at h;cases h;have h1:=List.mem_of_find?_eq_some e;have h2:decide (gon a k (mny a b)=b)=true:=List.find?_some (p:=fun k=>decide (gon a k (mny a b)=b)) e;have h2:=of_decide_eq_true h2;refine⟨LP.mp h1,(mny a b).toNat,?_,?_,?_⟩
  ·unfold mny at *;lia
  ·unfold mny at *;lia
  rw[show((mny a b).toNat:Int)=mny a b by unfold mny at *;lia];exact h2.symm
theorem EJ{a:Pt}{k:Nat}(h:k<8)(hn:1<=n):tW a (gon a k n)=some (k,(n:Int)):=by
 have e:mny a (gon a k n)=n:=tO h;cases s:tW a (gon a k n)with
 |some p=>
  obtain⟨k',m⟩:=p;obtain⟨h',n',h1,rfl,h2⟩:=nI s;obtain⟨rfl,z|rfl⟩:=yY h h' h2
  ·lia
  ·rfl
 |none=>
  unfold tW at s;rw[if_neg (by rw[e];lia),Option.map_eq_none_iff,List.find?_eq_none]at s;have:=s k (LP.mpr h);rw[e]at this;simp at this
variable {w:Pt×Pt}
theorem hU{k:Nat}(h:k<8)(e:w.2=gon w.1 k n):onW w p↔∃i:Nat,i<=n/\p=gon w.1 k i:=by
 constructor
 ·rintro⟨k',h',n',i,hi,e',rfl⟩;obtain⟨rfl,z|rfl⟩:=yY h h' (e.symm.trans e')
  ·have:i=0:=by lia
   subst this;exact⟨0,E_ _,by unfold gon;simp⟩
  exact⟨i,hi,rfl⟩
 rintro⟨i,hi,rfl⟩;exact⟨k,h,n,i,hi,e,rfl⟩
theorem yF{c:Pt}:WOk (c,c)/\∀p,onW (c,c) p↔p=c:=by
 have e:c=gon c 0 (0:Nat):=by unfold gon;simp
 refine⟨⟨0,by decide,0,e⟩,fun p=>?_⟩;rw[hU (w:=(c,c)) (k:=0) (n:=0) (by decide) e];constructor
 ·rintro⟨i,hi,rfl⟩;rw[Nat.le_zero.mp hi];exact e.symm
 rintro rfl;exact⟨0,b_ _,e⟩
theorem HK{c:Pt}(hw:WOk w)(h:gOn w c=true):WOk (w.1,c)/\∀p,onW (w.1,c) p↔onW w p\/p=c:=by
 obtain⟨k,hk,n,e⟩:=hw;unfold gOn at h;split at h
 ·rename_i z;subst z;refine⟨⟨k,hk,n,e⟩,fun p=>⟨.inl,?_⟩⟩;rintro(g|rfl)
  ·exact g
  exact(hU hk e).mpr ⟨n,b_ _,e⟩
 rename_i z;have step:∀{k' n':Nat},k'<8->w.2=gon w.1 k' n'->c=gon w.1 k' (n'+1:Nat)->WOk (w.1,c)/\∀p,onW (w.1,c) p↔onW w p\/p=c:=by
  intro k' n' h' e' ec;refine⟨⟨k',h',n'+1,ec⟩,fun p=>?_⟩;rw[hU (w:=(w.1,c)) h' ec,hU h' e'];constructor
  ·rintro⟨i,hi,rfl⟩;by_cases g:i<=n'
   ·exact .inl ⟨i,g,rfl⟩
   have:i=n'+1:=by lia
   subst this;exact .inr ec.symm
  rintro(⟨i,hi,rfl⟩|rfl)
  ·exact⟨i,by lia,rfl⟩
  exact⟨n'+1,b_ _,ec⟩
 split at h
 ·cases h
 rename_i k1 m1 s1;obtain⟨h1,n1,g1,rfl,e1⟩:=nI s1;split at h
 ·rename_i s2;have hm:=of_decide_eq_true h;have n0:n=0:=by
   by_cases q:n=0
   ·exact q
   rw[e,EJ hk (by lia)]at s2;cases s2
  subst n0;refine step h1 (n':=0) (by rw[e];unfold gon;simp) ?_;rw[e1,show n1=0+1 by lia]
 rename_i k2 m2 s2;obtain⟨h2,n2,g2,rfl,e2⟩:=nI s2;obtain⟨rfl,hm⟩:=of_decide_eq_true h;refine step h2 e2 ?_;rw[e1,show n1=n2+1 by lia]
theorem Bg{r R:Int}(h4:q.2.2<4)(h0:1<=r)(h1:r<R)(h2:R<2*r)(hw:WOk w):inL (swQ r R w.1.1 w.1.2 w.2.1 w.2.2) q↔∃p,onW w p/\inL (mkQ r R p.1 p.2) q:=by
 obtain⟨k,hk,n,e⟩:=hw;rw[GZ (n:=n) h4 h0 h1 h2 (Br hk).1 (by rw[e,NG];rfl) (by rw[e,NG];rfl)];constructor
 ·rintro⟨i,hi,g⟩;refine⟨gon w.1 k i,(hU hk e).mpr ⟨i,hi,rfl⟩,?_⟩;unfold gon;rw[NG (stp k).1,NG (stp k).2];exact g
 rintro⟨p,hp,g⟩;obtain⟨i,hi,rfl⟩:=(hU hk e).mp hp;refine⟨i,hi,?_⟩;unfold gon at g;rw[NG (stp k).1,NG (stp k).2]at g;exact g
def wy1(l:Int)(cz:Pt×Int)(s:List (Pt×Pt)×Bool):List (Pt×Pt)×Bool:=if cz.2<=l then(s.1,false)else match s.1 with
 | []=>([(cz.1,cz.1)],true)
 |w::W=>if s.2&&gOn w cz.1 then((w.1,cz.1)::W,true)else((cz.1,cz.1)::w::W,true)
def wys(l:Int):List (Pt×Int)->List (Pt×Pt)×Bool->List (Pt×Pt)×Bool
 | [],s=>s
 |cz::ps,s=>wys l ps (wy1 l cz s)
def onU(W:List (Pt×Pt))(p:Pt):Prop:=∃w∈W,onW w p
theorem uE{l:Int}:∀{ps:List (Pt×Int)}{W:List (Pt×Pt)}{b:Bool},(∀w∈W,WOk w)->(∀w∈(wys l ps (W,b)).1,WOk w)/\(∀p,onU (wys l ps (W,b)).1 p↔onU W p\/∃z,(p,z)∈ps/\l<z)/\(wys l ps (W,b)).1.length<=W.length+ps.length
 | [],W,b,h=>⟨h,fun p=>⟨.inl,fun g=>g.elim id fun⟨z,m,_⟩=>by cases m⟩,b_ _⟩
 | (c,z)::ps,W,b,h=>by
  rw[wys,wy1];dsimp only;have add:∀{W2:List (Pt×Pt)}{b2:Bool},(∀w∈W2,WOk w)->(∀p,onU W2 p↔onU W p\/p=c/\l<z)->W2.length<=W.length+1->(∀w∈(wys l ps (W2,b2)).1,WOk w)/\(∀p,onU (wys l ps (W2,b2)).1 p↔onU W p\/∃z',(p,z')∈(c,z)::ps/\l<z')/\(wys l ps (W2,b2)).1.length<=W.length+(ps.length+1):=by
   intro W2 b2 a1 a2 a3;obtain⟨i1,i2,i3⟩:=uE (l:=l) (ps:=ps) (W:=W2) (b:=b2) a1;refine⟨i1,fun p=>?_,by lia⟩;rw[i2 p,a2 p,or_assoc];refine or_congr_right ⟨?_,?_⟩
   ·rintro(⟨rfl,hz⟩|⟨z',m,hz⟩)
    ·exact⟨z,u_,hz⟩
    exact⟨z',n_ _ m,hz⟩
   rintro⟨z',m,hz⟩;rcases p_.mp m with e|m
   ·cases e;exact .inl ⟨rfl,hz⟩
   exact .inr ⟨z',m,hz⟩
  have cons:∀{v:Pt×Pt}{V:List (Pt×Pt)}{p:Pt},onU (v::V) p↔onW v p\/onU V p:=by intro v V p;unfold onU;simp only[p_,exists_eq_or_imp]
  by_cases g:z<=l
  ·rw[if_pos g];exact add h (fun p=>⟨.inl,fun q=>q.elim id fun⟨_,hz⟩=>absurd hz (by lia)⟩) (by lia)
  rw[if_neg g];have new:(∀w∈(c,c)::W,WOk w)/\∀p,onU ((c,c)::W) p↔onU W p\/p=c/\l<z:=by refine⟨fun w m=>(p_.mp m).elim (fun e=>e▸yF.1) (h w),fun p=>?_⟩;rw[cons,yF.2,or_comm];exact or_congr_right ⟨fun e=>⟨e,by lia⟩,fun e=>e.1⟩
  cases W with
  |nil=>exact add new.1 new.2 (b_ _)
  |cons w W'=>
   show _/\_;dsimp only;by_cases gb:(b&&gOn w c)=true
   ·rw[if_pos gb];rw[Mc]at gb;obtain⟨k1,k2⟩:=HK (h w u_) gb.2;refine add (fun v m=>(p_.mp m).elim (fun e=>e▸k1) fun m=>h v (n_ _ m)) (fun p=>?_) (by rw[h_,h_];lia);rw[cons,cons,k2];constructor
    ·rintro((q|rfl)|q)
     ·exact .inl (.inl q)
     ·exact .inr ⟨rfl,by lia⟩
     exact .inl (.inr q)
    rintro((q|q)|⟨rfl,_⟩)
    ·exact .inl (.inl q)
    ·exact .inr q
    exact .inl (.inr rfl)
   rw[if_neg gb];exact add new.1 new.2 (b_ _)
theorem mxn{d:Int}:(max a b+min c d<=max (a+c) (b+d)/\min (a+c) (b+d)<=min a b+max c d)/\min (a-c) (b-d)+min c d<=min a b/\max a b<=max (a-c) (b-d)+max c d:=by
 refine⟨⟨?_,?_⟩,?_,?_⟩
 ·rcases MO a b with h|h
  ·rw[Oi h];exact Me (NQ (ME _ _) _) (MF _ _)
  rw[Ow h];exact Me (NQ (Mq _ _) _) (Mr _ _)
 ·rcases MO a b with h|h
  ·rw[O' h];exact Me (Mq _ _) (NQ (Mr _ _) _)
  rw[O2 h];exact Me (ME _ _) (NQ (MF _ _) _)
 ·refine Qp.mpr ⟨?_,?_⟩
  ·have:=M4 (Mq (a-c) (b-d)) (Mq c d);rwa[N2]at this
  have:=M4 (ME (a-c) (b-d)) (ME c d);rwa[N2]at this
 refine OP.mpr ⟨?_,?_⟩
 ·have:=M4 (Mr (a-c) (b-d)) (Mr c d);rwa[N2]at this
 have:=M4 (MF (a-c) (b-d)) (MF c d);rwa[N2]at this
theorem mm:min a b<=max a b:=Me (Mq _ _) (Mr _ _)
theorem JM{r R:Int}(h0:1<=r)(h1:r<R)(h2:R<2*r):Vo (swQ r R w.1.1 w.1.2 w.2.1 w.2.2):=by
 unfold Vo swQ;dsimp only;generalize w.1.1=x;generalize w.1.2=y;generalize w.2.1=x';generalize w.2.2=y';have m1:=mm (a:=x) (b:=x');have m2:=mm (a:=y) (b:=y');have m3:=mm (a:=x+y) (b:=x'+y');have m4:=mm (a:=x-y) (b:=x'-y');obtain⟨⟨n1,n2⟩,n3,n4⟩:=mxn (a:=x) (b:=x') (c:=y) (d:=y');have n5:min (x+y) (x'+y')+min (x-y) (x'-y')<=2*min x x':=by
  rcases MO x x' with h|h
  ·have:=M4 (Mq (x+y) (x'+y')) (Mq (x-y) (x'-y'));rw[O' h];lia
  have:=M4 (ME (x+y) (x'+y')) (ME (x-y) (x'-y'));rw[O2 h];lia
 have n6:2*max x x'<=max (x+y) (x'+y')+max (x-y) (x'-y'):=by
  rcases MO x x' with h|h
  ·have:=M4 (MF (x+y) (x'+y')) (MF (x-y) (x'-y'));rw[Oi h];lia
  have:=M4 (Mr (x+y) (x'+y')) (Mr (x-y) (x'-y'));rw[Ow h];lia
 generalize min x x'=a1 at *;generalize max x x'=a2 at *;generalize min y y'=a3 at *;generalize max y y'=a4 at *;generalize min (x+y) (x'+y')=a5 at *;generalize max (x+y) (x'+y')=a6 at *;generalize min (x-y) (x'-y')=a7 at *;generalize max (x-y) (x'-y')=a8 at *;clear x y x' y';refine⟨⟨?_,?_⟩,⟨?_,?_⟩,⟨?_,?_⟩,⟨?_,?_⟩,?_,?_⟩ <;> lia
variable {C:Int}
theorem JH{r R B:Int}(h1:-C<=w.1.1/\w.1.1<=C/\-C<=w.1.2/\w.1.2<=C)(h2:-C<=w.2.1/\w.2.1<=C/\-C<=w.2.2/\w.2.2<=C)(h:C+r<=B):Bd B (swQ r R w.1.1 w.1.2 w.2.1 w.2.2):=by unfold Bd swQ;dsimp only;lia
inductive Od where
 |tk (i:Nat)
 |ov (hi:Bool) (x y:Int)
 |ct (ps:List (Pt×Int))
def wls(l:Int):List Od->Nat->List (Nat×Pt×Pt)
 | [],_=>[]
 | .tk i::P,_=>wls l P i
 | .ov _ _ _::P,t=>wls l P t
 | .ct ps::P,t=>((wys l ps ([],false)).1.reverse.map fun w=>(t,w))++wls l P t
noncomputable def sps(l:Int):List Od->Nat->List (Nat×Pt)
 | [],_=>[]
 | .tk i::P,_=>sps l P i
 | .ov _ _ _::P,t=>sps l P t
 | .ct ps::P,t=>((ps.filter fun p=>decide (l<p.2)).map fun p=>(t,p.1))++sps l P t
theorem qC{l:Int}:∀{P:List Od}{t:Nat},(∀v∈wls l P t,WOk v.2)/\∀i p,(∃v∈wls l P t,v.1=i/\onW v.2 p)↔(i,p)∈sps l P t
 | [],t=>⟨(fun v m=>by cases m),fun i p=>⟨(fun⟨v,m,_⟩=>by cases m),fun m=>by cases m⟩⟩
 | .tk i::P,t=>qC (P:=P) (t:=i)
 | .ov _ _ _::P,t=>qC (P:=P) (t:=t)
 | .ct ps::P,t=>by
  obtain⟨a1,a2⟩:=qC (l:=l) (P:=P) (t:=t);obtain⟨b1,b2,_⟩:=uE (l:=l) (ps:=ps) (W:=[]) (b:=false) fun w m=>by cases m
  rw[wls,sps];refine⟨fun v m=>?_,fun i p=>?_⟩
  ·rcases x_.mp m with m|m
   ·obtain⟨w,mw,rfl⟩:=t_.mp m;exact b1 w (Ng.mp mw)
   exact a1 v m
  rw[x_,<-a2 i p];constructor
  ·rintro⟨v,m,rfl,h⟩;rcases x_.mp m with m|m
   ·obtain⟨w,mw,rfl⟩:=t_.mp m;obtain u|⟨z,mz,hz⟩:=(b2 p).mp ⟨w,Ng.mp mw,h⟩
    ·obtain⟨_,z,_⟩:=u;cases z
    exact .inl (t_.mpr ⟨(p,z),LZ.mpr ⟨mz,decide_eq_true hz⟩,rfl⟩)
   exact .inr ⟨v,m,rfl,h⟩
  rintro(m|⟨v,m,rfl,h⟩)
  ·obtain⟨⟨c,z⟩,mc,e⟩:=t_.mp m;cases e;obtain⟨m1,m2⟩:=LZ.mp mc;obtain⟨w,mw,h⟩:=(b2 c).mpr (.inr ⟨z,m1,of_decide_eq_true m2⟩);exact⟨_,y_ _ (t_.mpr ⟨w,Ng.mpr mw,rfl⟩),rfl,h⟩
  exact⟨v,r_ _ m,rfl,h⟩
noncomputable def EX(t:Int×Int):Prop:=1<=t.1/\t.1<t.2/\t.2<2*t.1
noncomputable def swT(t:Int×Int)(w:Pt×Pt):Oc:=swQ t.1 t.2 w.1.1 w.1.2 w.2.1 w.2.2
noncomputable def mkT(t:Int×Int)(p:Pt):Oc:=mkQ t.1 t.2 p.1 p.2
variable {P:List Od}
theorem Ii{l:Int}{t:Nat}{T:Nat->Int×Int}(ho:∀o,o∈os↔∃v∈wls l P t,o=swT (T v.1) v.2)(ht:∀v∈sps l P t,EX (T v.1))(h4:q.2.2<4):inU os q↔∃v∈sps l P t,inL (mkT (T v.1) v.2) q:=by
 obtain⟨a1,a2⟩:=qC (l:=l) (P:=P) (t:=t);have tl:∀v∈wls l P t,EX (T v.1):=fun v m=>by obtain⟨k,hk,n,e⟩:=a1 v m;exact ht (v.1,v.2.1) ((a2 _ _).mp ⟨v,m,rfl,(hU hk e).mpr ⟨0,E_ _,by unfold gon;simp⟩⟩)
 constructor
 ·rintro⟨o,mo,h⟩;obtain⟨v,mv,rfl⟩:=(ho o).mp mo;obtain⟨k0,k1,k2⟩:=tl v mv;obtain⟨p,hp,g⟩:=(Bg h4 k0 k1 k2 (a1 v mv)).mp h;exact⟨(v.1,p),(a2 _ _).mp ⟨v,mv,rfl,hp⟩,g⟩
 rintro⟨⟨i,p⟩,m,g⟩;obtain⟨v,mv,rfl,hp⟩:=(a2 i p).mpr m;obtain⟨k0,k1,k2⟩:=tl v mv;exact⟨_,(ho _).mpr ⟨v,mv,rfl⟩,(Bg h4 k0 k1 k2 (a1 v mv)).mpr ⟨p,hp,g⟩⟩
abbrev Ed:=Pt×Pt
def edT(e:Ed):T:=.tup [ptP e.1,ptP e.2]
variable {e:Ed}
theorem kJ:er (edT e)=edT e:=rfl
theorem eB:cv (edT e)=true:=rfl
theorem dk:aW (edT e)=true:=rfl
theorem cT:isAny (edT e)=false:=rfl
theorem fF{k:T->Prop}:ixT (edT e) (.int 0) k=k (ptP e.1):=rfl
theorem iF{k:T->Prop}:ixT (edT e) (.int 1) k=k (ptP e.2):=rfl
theorem sH{q:Pt}:tW p q=(lead p q).map fun d=>(d,far p q):=by
 unfold tW lead;by_cases h:far p q=0
 ·rw[if_pos h,if_pos (show mny p q=0 from h)];rfl
 rw[if_neg h,if_neg (show ¬mny p q=0 from h)];rfl
theorem BC{c:Pt}(h:¬c=w.2):gOn w c=match lead w.1 c with
 |none=>false
 |some d=>match lead w.1 w.2 with
  |none=>decide (far w.1 c=1)
  |some d'=>decide (d=d'/\far w.1 c=far w.1 w.2+1):=by
 unfold gOn;rw[if_neg h,sH,sH];cases lead w.1 c with
 |none=>rfl
 |some d=>cases lead w.1 w.2 <;> rfl
theorem uY{L:α}{Ls:List α}{g:α->T}:atI ((L::Ls).reverse.map g) (-1)=some (g L):=by
 unfold atI ixN;rw[if_neg (by decide),if_pos (by rw[a_,Ma,h_];lia)];show(LO g (L::Ls).reverse)[_]?=_;rw[B_,show(-1+(((L::Ls).reverse.map g).length:Int)).toNat=Ls.reverse.length by rw[a_,Ma,h_,Ma];lia,NA,List.getElem?_concat_length]
 rfl
section
variable{α:Type}{ρ:α->List Int}
def dG(ρ:α->List Int)(l:List α):List (List Key×T):=l.map fun a=>(kI (ρ a),T.bl true)
noncomputable def nX(ρ:α->List Int)(l:List α)(a:α):List α:=if ρ a∈l.map ρ then l else l++[a]
def bJ(ρ:α->List Int)(l:List α):List α->List α
 | []=>l
 |a::r=>bJ ρ (nX ρ l a) r
theorem pC{l:List α}{a:α}:iC (dG ρ l) (kI (ρ a)) (.bl true)=dG ρ (nX ρ l a):=by
 unfold iC dG nX;by_cases m:ρ a∈l.map ρ
 ·rw[if_pos m,if_pos]
  ·rw[z_];refine ML fun r mr=>?_;show(if kI (ρ r)=kI (ρ a)then(kI (ρ r),T.bl true)else(kI (ρ r),T.bl true))=_;split <;> rfl
  obtain⟨b,mb,e⟩:=t_.mp m;exact Nj.mpr ⟨_,t_.mpr ⟨b,mb,rfl⟩,decide_eq_true (congrArg kI e)⟩
 rw[if_neg m,if_neg]
 ·rw[q_]
  rfl
 intro g;obtain⟨kv,mk,e⟩:=Nj.mp g;obtain⟨b,mb,rfl⟩:=t_.mp mk;exact m (IU (of_decide_eq_true e)▸Mn mb)
theorem nq(l:List α):(dG ρ l).length=l.length:=a_ ..
theorem kc(l:List α):erT (dG ρ l)=dG ρ l:=by
 unfold dG;induction l with
 |nil=>rfl
 |cons a l ih=>rw[k_,erT,ih];rfl
theorem cy(l:List α):i5 (dG ρ l)=true:=by
 unfold dG;induction l with
 |nil=>rfl
 |cons a l ih=>rw[k_,i5,ih];rfl
theorem dU(l:List α):oM (dG ρ l)=true:=by
 unfold dG;induction l with
 |nil=>rfl
 |cons a l ih=>rw[k_,oM,ih];rfl
theorem GK(r:List Int):kyT (kI r)=iT r:=by
 unfold kyT kI iT;rw[z_]
 rfl
theorem qB(l:List α):(dG ρ l).map (fun p=>kyT p.1)=l.map fun a=>iT (ρ a):=by unfold dG;rw[z_];exact ML fun a _=>GK _
variable(inj:∀a b,ρ a=ρ b->a=b)
include inj
theorem Bz{l:List α}{a x:α}:x∈nX ρ l a↔x∈l\/x=a:=by
 unfold nX;by_cases m:ρ a∈l.map ρ
 ·rw[if_pos m];obtain⟨b,mb,e⟩:=t_.mp m;cases inj _ _ e;exact⟨.inl,fun h=>h.elim id fun e=>e▸mb⟩
 rw[if_neg m,x_,A_]
theorem DZ{l:List α}{a:α}(h:l.Nodup):(nX ρ l a).Nodup:=by
 unfold nX;by_cases m:ρ a∈l.map ρ
 ·rw[if_pos m];exact h
 rw[if_neg m,Mz];exact⟨h,F_.mpr ⟨(nomatch ·),MG⟩,fun b hb c hc e=>by rw[A_.mp hc]at e;exact m (e▸Mn hb)⟩
theorem cI:∀{r l:List α}{x:α},x∈bJ ρ l r↔x∈l\/x∈r
 | [],_,x=>⟨.inl,fun h=>h.elim id (nomatch ·)⟩
 |a::r,l,x=>by rw[bJ,cI,Bz inj,p_,or_assoc]
theorem tG:∀{r l:List α},l.Nodup->(bJ ρ l r).Nodup
 | [],_,h=>h
 |a::r,l,h=>tG (r:=r) (DZ inj h)
omit inj
theorem Bh{l:List α}{a:α}(h:ρ a ∉ l.map ρ):nX ρ l a=l++[a]:=if_neg h
theorem BE{l:List α}{a:α}:(nX ρ l a).length<=l.length+1:=by
 unfold nX;by_cases m:ρ a∈l.map ρ
 ·rw[if_pos m];lia
 rw[if_neg m,e_];exact b_ _
theorem bV:∀{r l:List α},(bJ ρ l r).length<=l.length+r.length
 | [],_=>b_ _
 |a::r,l=>by have h1:=bV (r:=r) (l:=nX ρ l a);have h2:=BE (ρ:=ρ) (l:=l) (a:=a);rw[bJ,h_];lia
theorem fx:∀{r l s:List α},bJ ρ l (r++s)=bJ ρ (bJ ρ l r) s
 | [],_,_=>rfl
 |a::r,l,s=>fx (r:=r) (l:=nX ρ l a)
theorem rn{l r:List α}{a:α}(h:r[i]?=some a):bJ ρ l (r.take (i+1))=nX ρ (bJ ρ l (r.take i)) a:=by
 rw[LU,h,fx]
 rfl
end
noncomputable def bg(q:Qt):List Int:=[q.1,q.2.1,(q.2.2:Int)]
theorem jl(q r:Qt)(h:bg q=bg r):q=r:=by unfold bg at h;simp only[MK,and_true]at h;exact M9 h.1 (M9 h.2.1 (by have:=h.2.2;lia))
noncomputable def dF(v:Nat×Pt):List Int:=[(v.1:Int),v.2.1,v.2.2]
theorem iQ(v w:Nat×Pt)(h:dF v=dF w):v=w:=by unfold dF at h;simp only[MK,and_true]at h;exact M9 (by have:=h.1;lia) (M9 h.2.1 h.2.2)
theorem Ea(o p:Oc)(h:ocL o=ocL p):o=p:=by
 obtain⟨a,b,c,d,e,f,g,i⟩:=o;unfold ocL at h;simp only[MK,and_true]at h;obtain⟨h1,h2,h3,h4,h5,h6,h7,h8⟩:=h;subst h1 h2 h3 h4 h5 h6 h7 h8
 rfl
theorem xV(v:Nat×Pt):iT (dF v)=.tup [.int (v.1:Int),.int v.2.1,.int v.2.2]:=rfl
theorem xT(q:Qt):iT (bg q)=.tup [.int q.1,.int q.2.1,.int (q.2.2:Int)]:=rfl
theorem gm{kvs:List (List Key×T)}{t:T}{k:T->Prop}:uW (.dT true kvs) (ocT o) t k=uW (.dT true kvs) (.tup [.int o.a,.int o.b,.int o.c,.int o.d,.int o.e,.int o.f,.int o.g,.int o.h]) t k:=rfl
abbrev Tl:=Int×Int×Int×Int×Int
noncomputable def tvT(t:Tl):T:=.tup [.int t.1,.int t.2.1,.int t.2.2.1,.int t.2.2.2.1,.int t.2.2.2.2]
noncomputable def tlO(t:Tl):Prop:=2<=t.1/\t.1<=6/\1<=t.2.1/\t.2.1<t.1
noncomputable def tR(tl:List Tl)(i:Nat):Int×Int:=((tl.getD i (0,0,0,0,0)).1,(tl.getD i (0,0,0,0,0)).1+(tl.getD i (0,0,0,0,0)).2.1)
variable {t:Tl}
theorem kX:er (tvT t)=tvT t:=rfl
theorem d0:isAny (tvT t)=false:=rfl
theorem dm:aW (tvT t)=true:=rfl
theorem h9{k:T->Prop}:ixT (tvT t) (.int 0) k=k (.int t.1):=rfl
theorem gR{k:T->Prop}:ixT (tvT t) (.int 1) k=k (.int t.2.1):=rfl
abbrev Plc:=Pt×Int
noncomputable def plT(p:Plc):T:=.tup [.int p.1.1,.int p.1.2,.int p.2]
theorem iY{p:Plc}:er (plT p)=plT p:=rfl
theorem cD{p:Plc}:aW (plT p)=true:=rfl
theorem eQ{p:Plc}:cv (plT p)=true:=rfl
noncomputable def hS(h:Bool):Str:=if h then "high" else "low"
def odT:Od->T
 | .tk i=>.tup [.str "take",.int (i:Int)]
 | .ov h x y=>.tup [.str "over",.str (hS h),.int x,.int y]
 | .ct ps=>.tup [.str "cut",.tup (ps.map plT)]
theorem nU:odT (.tk i)=.tup [.str "take",.int (i:Int)]:=rfl
theorem nG{h:Bool}:odT (.ov h x y)=.tup [.str "over",.str (hS h),.int x,.int y]:=rfl
theorem l9{ps:List Plc}:odT (.ct ps)=.tup [.str "cut",.tup (ps.map plT)]:=rfl
theorem kL{o:Od}:er (odT o)=odT o:=by cases o <;> simp only[odT,er,erL,cJ,iY]
theorem dc{o:Od}:isAny (odT o)=false:=by cases o <;> rfl
theorem cZ{o:Od}:aW (odT o)=true:=by cases o <;> simp only[odT,aW,bC,cf,cD,fj,Nq,PC]
theorem y4:(("over":Str)="take")=False:=by rfl'
theorem xH:(("cut":Str)="take")=False:=by rfl'
theorem wV:(("over":Str)="cut")=False:=by rfl'
theorem wW:(("take":Str)="cut")=False:=by rfl'
theorem x5:(("cut":Str)="over")=False:=by rfl'
theorem yc:(("take":Str)="over")=False:=by rfl'
noncomputable def tlA:List Od->Nat->Nat
 | [],t=>t
 | .tk i::P,_=>tlA P i
 | .ov _ _ _::P,t=>tlA P t
 | .ct _::P,t=>tlA P t
theorem gZ{l:Int}{Q:List Od}:∀{P:List Od}{t:Nat},wls l (P++Q) t=wls l P t++wls l Q (tlA P t)/\sps l (P++Q) t=sps l P t++sps l Q (tlA P t)/\tlA (P++Q) t=tlA Q (tlA P t)
 | [],t=>⟨rfl,rfl,rfl⟩
 | .tk i::P,t=>gZ (P:=P) (t:=i)
 | .ov _ _ _::P,t=>gZ (P:=P) (t:=t)
 | .ct ps::P,t=>by
  obtain⟨h1,h2,h3⟩:=gZ (l:=l) (Q:=Q) (P:=P) (t:=t);refine⟨?_,?_,h3⟩
  ·show _++wls l (P++Q) t=(_++wls l P t)++_;rw[h1,l_]
   rfl
  show _++sps l (P++Q) t=(_++sps l P t)++_;rw[h2,l_]
  rfl
noncomputable def HR:Od->Nat
 | .ct ps=>ps.length
 | _=>0
def nPl(P:List Od):Nat:=(P.map HR).sum
theorem oY{l:Int}:∀{P:List Od}{t:Nat},(wls l P t).length<=nPl P
 | [],t=>b_ _
 | .tk i::P,t=>by have:=oY (l:=l) (P:=P) (t:=i);show(wls l P i).length<=_;unfold nPl at *;rw[k_,MW];lia
 | .ov _ _ _::P,t=>by have:=oY (l:=l) (P:=P) (t:=t);show(wls l P t).length<=_;unfold nPl at *;rw[k_,MW];lia
 | .ct ps::P,t=>by have:=oY (l:=l) (P:=P) (t:=t);have:=(uE (l:=l) (ps:=ps) (W:=[]) (b:=false) fun w m=>by cases m).2.2;unfold nPl at *;rw[wls,e_,a_,Ma,k_,MW];show _<=ps.length+_;rw[L_]at this;lia
theorem jB{l:Int}:∀{P:List Od}{t:Nat},(sps l P t).length<=nPl P
 | [],t=>b_ _
 | .tk i::P,t=>by have:=jB (l:=l) (P:=P) (t:=i);show(sps l P i).length<=_;unfold nPl at *;rw[k_,MW];lia
 | .ov _ _ _::P,t=>by have:=jB (l:=l) (P:=P) (t:=t);show(sps l P t).length<=_;unfold nPl at *;rw[k_,MW];lia
 | .ct ps::P,t=>by have:=jB (l:=l) (P:=P) (t:=t);unfold nPl at *;rw[sps,e_,a_,k_,MW];exact Qr (MC _ _) this
noncomputable def IT(m:Nat)(C:Int):Od->Prop
 | .tk i=>i<m
 | .ov _ _ _=>True
 | .ct ps=>∀p∈ps,(-C<=p.1.1/\p.1.1<=C)/\-C<=p.1.2/\p.1.2<=C
def OkP(m:Nat)(C:Int)(N:Nat)(P:List Od):Prop:=(∀o,P[0]?=some o->∃i,o=.tk i)/\P.length<=300/\nPl P<=N/\∀o∈P,IT m C o
theorem sw_eq{r k:Int}{q:Pt}:swO r k p q=swT (r,r+k) (p,q):=by unfold swO mkO BH oc1 oc2 swT swQ;dsimp only;congr 1 <;> lia
theorem Jh{tl:List Tl}(h:j<tl.length):atI (tl.map tvT) (j:Int)=some (tvT (tl.getD j (0,0,0,0,0))):=by
 refine cH ?_;rw[B_,d_ h,J_,d_ h]
 rfl
def cn(l:Int)(tl:List Tl)(P:List Od):List Oc:=bJ ocL [] ((wls l P 0).map fun v=>swT (tR tl v.1) v.2)
theorem vO{l:Int}{tl:List Tl}:o∈cn l tl P↔∃v∈wls l P 0,o=swT (tR tl v.1) v.2:=by unfold cn;rw[cI Ea,t_];exact⟨fun h=>h.elim (nomatch ·) fun⟨v,m,e⟩=>⟨v,m,e.symm⟩,fun⟨v,m,e⟩=>.inr ⟨v,m,e.symm⟩⟩
theorem pxy(h:s<4):(0<px s/\px s<8)/\0<py s/\py s<8:=by
 match s,h with
 |0,_=>decide
 |1,_=>decide
 |2,_=>decide
 |3,_=>decide
noncomputable def edL:List (List Pt):=[[(1,0),(1,1)],[(0,1),(1,1)],[(0,0),(0,1)],[(0,0),(1,0)]]
noncomputable def ptM(q:Qt):List Pt:=(2*q.1+1,2*q.2.1+1)::(edL.getD q.2.2 []).map fun e=>(2*(q.1+e.1),2*(q.2.1+e.2))
def inM(R:Int)(q:Qt):Bool:=(ptM q).all fun p=>decide ((p.1.natAbs:Int)+p.2.natAbs<=2*R)
theorem yX(h:s<4):atI [T.lst true [.tup [.int 1,.int 0],.tup [.int 1,.int 1]],.lst true [.tup [.int 0,.int 1],.tup [.int 1,.int 1]],.lst true [.tup [.int 0,.int 0],.tup [.int 0,.int 1]],.lst true [.tup [.int 0,.int 0],.tup [.int 1,.int 0]]] (s:Int)=some (.lst true ((edL.getD s []).map ptP))/\(edL.getD s []).length=2:=by
 match s,h with
 |0,_=>exact⟨rfl,rfl⟩
 |1,_=>exact⟨rfl,rfl⟩
 |2,_=>exact⟨rfl,rfl⟩
 |3,_=>exact⟨rfl,rfl⟩
theorem jg(f:α->Bool)(l:List α):boolsOf (l.map fun x=>T.bl (f x))=some (l.map f):=by
 induction l with
 |nil=>rfl
 |cons x l ih=>rw[k_,boolsOf,ih];rfl
instance (o:Oc) (q:Qt):Decidable (inL o q):=by unfold inL;infer_instance
theorem Ec:∀r∈[(2:Int),3,4,5,6],∀k∈[(1:Int),2,3,4,5],∀x∈B' 12,∀y∈B' 12,∀s∈B' 4,(((-6+(x:Int),-6+(y:Int),s):Qt) |> fun q=>decide (k<r/\(-r<=q.1/\q.1<r)/\(-r<=q.2.1/\q.2.1<r))=true->decide (inM (r+k) q=true↔inL (mkQ r (r+k) 0 0) q)=true):=by
 rfl'
theorem B7{r k:Int}(h4:q.2.2<4)(hr:2<=r/\r<=6)(hk:1<=k/\k<r)(hx:-r<=q.1/\q.1<r)(hy:-r<=q.2.1/\q.2.1<r):inM (r+k) q=true↔inL (mkQ r (r+k) 0 0) q:=by obtain⟨x,y,s⟩:=q;dsimp only at *;have:=Ec r (by simp only[p_,Mi,or_false];lia) k (by simp only[p_,Mi,or_false];lia) (x+6).toNat (LP.mpr (by lia)) (y+6).toNat (LP.mpr (by lia)) s (LP.mpr h4);rw[show -6+((x+6).toNat:Int)=x by lia,show -6+((y+6).toNat:Int)=y by lia]at this;exact of_decide_eq_true (this (decide_eq_true ⟨hk.2,hx,hy⟩))
def mkC(r R x:Int)(m:Nat):List Qt:=oN (fun y=>cl4 (fun s=>inM R (x,y,s)=true) x y) (-r) m
def mkN(r R:Int)(n:Nat):List Qt:=oN (fun x=>mkC r R x (r - -r).toNat) (-r) n
theorem A2{r k:Int}(hr:2<=r/\r<=6)(hk:1<=k/\k<r):q∈mkN r (r+k) (r - -r).toNat↔q.2.2<4/\inL (mkQ r (r+k) 0 0) q:=by
 unfold mkN mkC;rw[bS];constructor
 ·rintro⟨x,x1,x2,m⟩;obtain⟨y,y1,y2,m⟩:=bS.mp m;obtain⟨rfl,rfl,h4,hm⟩:=dA.mp m;exact⟨h4,(B7 h4 hr hk ⟨x1,by lia⟩ ⟨y1,by lia⟩).mp hm⟩
 rintro⟨h4,hi⟩;have hb:(-r<=q.1/\q.1<r)/\-r<=q.2.1/\q.2.1<r:=by have:=pxy h4;unfold inL mkQ at hi;dsimp only at hi;omega
 exact⟨q.1,hb.1.1,by lia,bS.mpr ⟨q.2.1,hb.2.1,by lia,dA.mpr ⟨rfl,rfl,h4,(B7 h4 hr hk hb.1 hb.2).mpr hi⟩⟩⟩
theorem IG{r R:Int}:bg (-r+(i:Int),-r+(j:Int),s) ∉ (mkN r R i++mkC r R (-r+i) j++((B' s).filter fun s=>decide (inM R (-r+i,-r+j,s)=true)).map fun s=>(-r+(i:Int),-r+(j:Int),s)).map bg:=by
 intro h;obtain⟨q,mq,e⟩:=t_.mp h;cases jl _ _ e;rcases x_.mp mq with h|h
 ·rcases x_.mp h with h|h
  ·unfold mkN mkC at h;obtain⟨k,_,hk,mk⟩:=bS.mp h;obtain⟨k',_,_,mk'⟩:=bS.mp mk;have:=(dA.mp mk').1;dsimp only at this;lia
  unfold mkC at h;obtain⟨k,_,hk,mk⟩:=bS.mp h;have:=(dA.mp mk).2.1;dsimp only at this;lia
 obtain⟨s',m',e⟩:=t_.mp h;have:=LP.mp (LZ.mp m').1;have:=(QD.mp (QD.mp e).2).2;dsimp only at this;omega
theorem zQ{p:Nat->Prop}[DecidablePred p]:(cl4 p x y).length<=4:=by unfold cl4;rw[a_];exact m_ (MC _ _) (by rw[Mo];exact b_ _)
theorem nj{f:Int->List α}(h:∀y,(f y).length<=m)(n:Nat):(oN f a n).length<=m*n:=by
 induction n with
 |zero=>exact E_ _
 |succ n ih=>
  have:=h (a+n);rw[fy,e_,Nat.mul_succ];lia
theorem Hh{r R:Int}(hm:(r - -r).toNat<=100):(mkN r R i++mkC r R (-r+i) j++((B' s).filter fun s=>decide (inM R (-r+i,-r+j,s)=true)).map fun s=>((-r+(i:Int),-r+(j:Int),s):Qt)).length<=400*i+4*j+s:=by have lc:∀x m,(mkC r R x m).length<=4*m:=fun x m=>nj (fun y=>zQ) m;have l1:(mkN r R i).length<=400*i:=nj (fun x=>m_ (lc x _) (by lia)) i;have l2:=lc (-r+i) j;have l3:=MC (fun s=>decide (inM R (-r+i,-r+j,s)=true)) (B' s);rw[Mo]at l3;rw[e_,e_,a_];lia
variable {N:Nat}
theorem um(h:OkP m C N P){o:Od}(e:P[i]?=some o):P.take (i+1)=P.take i++[o]/\(i=0->∃j,o=.tk j):=by refine⟨by rw[LU,e];rfl,fun z=>?_⟩;subst z;exact h.1 o e
theorem pg:∀{P:List Od}{ps:List Plc},Od.ct ps∈P->ps.length<=nPl P
 |o::P,ps,m=>by
  unfold nPl;rw[k_,MW];rcases p_.mp m with e|m
  ·subst e;exact M1 _ _
  have:=pg m;unfold nPl at this;lia
theorem Aa:cv (.lst true (os.map ocT))=true:=by simp only[cv,bM,dB,fj,Nq]
theorem qp:nPl (P.take i)<=nPl P:=by
 unfold nPl
 conv=>rhs;rw[<-G_ i P,q_,Pb]
 exact M1 _ _
theorem eA{l:Int}{tl:List Tl}:(cn l tl P).length<=nPl P:=by have h1:=bV (ρ:=ocL) (l:=[]) (r:=(wls l P 0).map fun v=>swT (tR tl v.1) v.2);have h2:=oY (l:=l) (P:=P) (t:=0);rw[a_,L_]at h1;unfold cn;lia
def mkA(t:Tl):List Qt:=mkN t.1 (t.1+t.2.1) (t.1 - -t.1).toNat
noncomputable def mvQ(p:Pt)(m:Qt):Qt:=(m.1+p.1,m.2.1+p.2,m.2.2)
theorem zE(h:tlO t):(mkA t).length<=576:=by
 obtain⟨h1,h2,_⟩:=h;have l1:∀x,(mkC t.1 (t.1+t.2.1) x (t.1 - -t.1).toNat).length<=48:=fun x=>m_ (nj (fun y=>zQ) _) (by lia)
 exact m_ (nj l1 _) (by lia)
theorem B5{r R:Int}{m:Qt}:inL (mkQ r R p.1 p.2) (mvQ p m)↔inL (mkQ r R 0 0) m:=by unfold inL mkQ mvQ;dsimp only;lia
theorem zi(h:tlO t):(∃m∈mkA t,q=mvQ p m)↔q.2.2<4/\inL (mkQ t.1 (t.1+t.2.1) p.1 p.2) q:=by
 obtain⟨h1,h2,h3,h4⟩:=h;constructor
 ·rintro⟨m,mm,rfl⟩;obtain⟨a,b⟩:=(A2 ⟨h1,h2⟩ ⟨h3,h4⟩).mp mm;exact⟨a,B5.mpr b⟩
 rintro⟨a,b⟩;have e:q=mvQ p (q.1-p.1,q.2.1-p.2,q.2.2):=by unfold mvQ;exact M9 (by dsimp only;lia) (M9 (by dsimp only;lia) rfl)
 rw[e]at b;exact⟨(q.1-p.1,q.2.1-p.2,q.2.2),(A2 ⟨h1,h2⟩ ⟨h3,h4⟩).mpr ⟨a,B5.mp b⟩,e⟩
theorem tQ{m:Nat}{l:Int}:∀{P:List Od}{t:Nat},t<m->(∀i,Od.tk i∈P->i<m)->∀v∈sps l P t,v.1<m
 | [],_,_,_,_,h=>by cases h
 | .tk i::P,t,_,h,v,hv=>tQ (P:=P) (t:=i) (h i u_) (fun j mj=>h j (n_ _ mj)) v hv
 | .ov _ _ _::P,t,ht,h,v,hv=>tQ (P:=P) (t:=t) ht (fun j mj=>h j (n_ _ mj)) v hv
 | .ct ps::P,t,ht,h,v,hv=>by
  rw[sps]at hv;rcases x_.mp hv with hv|hv
  ·obtain⟨p,_,rfl⟩:=t_.mp hv;exact ht
  exact tQ (P:=P) (t:=t) ht (fun j mj=>h j (n_ _ mj)) v hv
theorem su(h:OkP m C N P){l:Int}:∀v∈sps l P 0,v.1<m:=by
 obtain⟨h0,_,_,h⟩:=h;cases P with
 |nil=>intro v mv;cases mv
 |cons o P=>
  obtain⟨i,rfl⟩:=h0 o rfl;exact tQ (P:=P) (t:=i) (h _ u_) fun j mj=>h _ (n_ _ mj)
def fnd(tl:List Tl)(S:List (Nat×Pt)):List Qt:=S.flatMap fun v=>(mkA (tl.getD v.1 (0,0,0,0,0))).map (mvQ v.2)
theorem vR{tl:List Tl}(h:∀t∈tl,tlO t)(hi:i<tl.length):tlO (tl.getD i (0,0,0,0,0)):=by rw[J_,d_ hi];exact h _ (MQ hi)
theorem Ff{tl:List Tl}(ht:∀t∈tl,tlO t){S:List (Nat×Pt)}(hS:∀v∈S,v.1<tl.length):q∈fnd tl S↔q.2.2<4/\∃v∈S,inL (mkT (tR tl v.1) v.2) q:=by
 unfold fnd;rw[Qe];constructor
 ·rintro⟨v,mv,m⟩;obtain⟨x,mx,rfl⟩:=t_.mp m;obtain⟨a,b⟩:=(zi (vR ht (hS v mv)) (p:=v.2)).mp ⟨x,mx,rfl⟩;exact⟨a,v,mv,b⟩
 rintro⟨a,v,mv,b⟩;obtain⟨x,mx,e⟩:=(zi (vR ht (hS v mv)) (p:=v.2)).mpr ⟨a,b⟩;exact⟨v,mv,t_.mpr ⟨x,mx,e.symm⟩⟩
theorem uj{tl:List Tl}(ht:∀t∈tl,tlO t):∀{S:List (Nat×Pt)},(∀v∈S,v.1<tl.length)->(fnd tl S).length<=576*S.length
 | [],_=>b_ _
 |v::S,h=>by have h1:=uj ht (S:=S) fun w mw=>h w (n_ _ mw);have h2:=zE (vR ht (h v u_));unfold fnd at *;rw[List.flatMap_cons,e_,a_,h_];lia
variable {v:Nat×Pt}
theorem Bc{tl:List Tl}{S:List (Nat×Pt)}:fnd tl (S++[v])=fnd tl S++(mkA (tl.getD v.1 (0,0,0,0,0))).map (mvQ v.2):=by unfold fnd;rw[NP,Pf]
theorem Jx{tl:List Tl}{o:Bool}(h:j<tl.length):atI (tl.map fun t=>T.dT o (dG bg (mkA t))) (j:Int)=some (.dT o (dG bg (mkA (tl.getD j (0,0,0,0,0))))):=by
 refine cH ?_;rw[B_,d_ h,J_,d_ h]
 rfl
theorem uz{l:Int}:∀{P:List Od}{t:Nat}{v:Nat×Pt},v∈sps l P t->∃ps p,Od.ct ps∈P/\p∈ps/\p.1=v.2
 | [],_,_,h=>by cases h
 | .tk i::P,t,v,h=>by obtain⟨ps,p,m,r⟩:=uz (P:=P) (t:=i) h;exact⟨ps,p,n_ _ m,r⟩
 | .ov _ _ _::P,t,v,h=>by obtain⟨ps,p,m,r⟩:=uz (P:=P) (t:=t) h;exact⟨ps,p,n_ _ m,r⟩
 | .ct ps::P,t,v,h=>by
  rw[sps]at h;rcases x_.mp h with h|h
  ·obtain⟨p,m,rfl⟩:=t_.mp h;exact⟨ps,p,u_,(LZ.mp m).1,rfl⟩
  obtain⟨ps,p,m,r⟩:=uz (P:=P) (t:=t) h;exact⟨ps,p,n_ _ m,r⟩
theorem Ek{l:Int}{t:Nat}{v:Nat×Pt×Pt}(h:v∈wls l P t):(v.1,v.2.1)∈sps l P t/\(v.1,v.2.2)∈sps l P t:=by obtain⟨a1,a2⟩:=qC (l:=l) (P:=P) (t:=t);obtain⟨k,hk,n,e⟩:=a1 v h;exact⟨(a2 _ _).mp ⟨v,h,rfl,(hU hk e).mpr ⟨0,E_ _,by unfold gon;simp⟩⟩,(a2 _ _).mp ⟨v,h,rfl,(hU hk e).mpr ⟨n,b_ _,e⟩⟩⟩
theorem CU(h:OkP m C N P){l:Int}(hv:v∈sps l P 0):(-C<=v.2.1/\v.2.1<=C)/\-C<=v.2.2/\v.2.2<=C:=by obtain⟨ps,p,m1,m2,e⟩:=uz hv;rw[<-e];exact h.2.2.2 _ m1 p m2
theorem Dd{tl:List Tl}(ht:∀t∈tl,tlO t)(hi:i<tl.length):EX (tR tl i)/\(tR tl i).1<=6:=by obtain⟨h1,h2,h3,h4⟩:=vR ht hi;unfold EX tR;dsimp only;lia
theorem C6{tl:List Tl}{l:Int}(hP:OkP tl.length C N P)(ht:∀t∈tl,tlO t)(h:o∈cn l tl P):∃r R p q,o=swT (r,R) (p,q)/\(1<=r/\r<R/\R<2*r)/\r<=6/\(-C<=p.1/\p.1<=C/\-C<=p.2/\p.2<=C)/\-C<=q.1/\q.1<=C/\-C<=q.2/\q.2<=C:=by obtain⟨v,mv,rfl⟩:=vO.mp h;obtain⟨e1,e2⟩:=Ek mv;obtain⟨k1,k2⟩:=Dd ht (su hP _ e1);have b1:=CU hP e1;have b2:=CU hP e2;dsimp only at b1 b2;exact⟨_,_,v.2.1,v.2.2,rfl,k1,k2,by lia,by lia⟩
theorem sV{tl:List Tl}{l:Int}(hP:OkP tl.length C N P)(ht:∀t∈tl,tlO t)(hl:(cn l tl P).length<=200)(hB:C+6<=B)(h8:B<=800):jj B (cn l tl P):=by
 refine⟨hl,by lia,.inr h8,fun o m=>?_,fun o m=>?_⟩
 ·obtain⟨r,R,p,q,rfl,h,_⟩:=C6 hP ht m;exact JM (w:=(p,q)) h.1 h.2.1 h.2.2
 obtain⟨r,R,p,q,rfl,h,h6,b1,b2⟩:=C6 hP ht m;exact JH (w:=(p,q)) b1 b2 (by lia)
def Cuts(l:Int)(tl:List Tl)(P:List Od)(qs:List Qt):Prop:=qs.Nodup/\∀q,q∈qs↔q.2.2<4/\∃v∈sps l P 0,inL (mkT (tR tl v.1) v.2) q
theorem jq{tl:List Tl}{l:Int}(hP:OkP tl.length C N P)(ht:∀t∈tl,tlO t)(hs:jj B (cn l tl P))(hq:Cuts l tl P qs):Ar B (cn l tl P)/2=(qs.length:Int):=by have:=FN hs.2.2.2.2 hq.1 fun q=>(hq.2 q).trans (and_congr_right fun h4=>(Ii (T:=tR tl) (fun o=>vO) (fun v m=>(Dd ht (su hP v m)).1) h4).symm);lia
variable {ts:List T}
theorem fT{i:Int}{t:T}{k:T->Prop}:uW (.lst true ts) (.int i) t k=d6 (ixN ts.length i) (k:=⟨fun j=>k (.lst true (ts.set j t))⟩):=rfl
def PrO(m:Nat)(P:List Od)(N L:Nat):Prop:=(∃i P',P=.tk i::P')/\nPl P<=N/\P.length<=L/\∀o∈P,IT m 21 o
theorem Ld(h:i<m):PrO m [.tk i] 0 1:=⟨⟨i,[],rfl⟩,b_ _,b_ _,fun o mo=>by rw[A_.mp mo];exact h⟩
variable {L:Nat}
theorem sQ{N' L':Nat}(h:PrO m P N L)(hN:N<=N')(hL:L<=L'):PrO m P N' L':=⟨h.1,m_ h.2.1 hN,m_ h.2.2.1 hL,h.2.2.2⟩
theorem uh{N' L':Nat}(o:Od)(h:PrO m P N L)(hN:HR o+N<=N')(hL:L+1<=L')(ho:IT m 21 o):PrO m (P++[o]) N' L':=by
 obtain⟨⟨i,P',rfl⟩,h1,h2,h3⟩:=h;refine⟨⟨i,P'++[o],rfl⟩,?_,?_,fun x mx=>?_⟩
 ·unfold nPl at *;rw[q_,Pb];show _+(HR o+0)<=N';lia
 ·rw[e_];exact m_ (Qc h2) hL
 rcases x_.mp mx with mx|mx
 ·exact h3 x mx
 rw[A_.mp mx];exact ho
theorem KU(h:PrO m P N L)(hL:L<=300):OkP m 21 N P:=by obtain⟨⟨i,P',rfl⟩,h1,h2,h3⟩:=h;exact⟨fun o e=>⟨i,(H_ e).symm⟩,m_ h2 hL,h1,h3⟩
theorem JK{d:Int}(h0:0<=d)(h1:d<2):∃h,atI [T.str "low",T.str "high"] d=some (.str (hS h)):=by
 rcases(by lia:d=0\/d=1)with rfl|rfl
 ·exact⟨false,rfl⟩
 exact⟨true,rfl⟩
noncomputable def Lw:Od->Bool
 | .ct _=>true
 | _=>false
theorem HG{l:Int}{tl:List Tl}(h:sps l P 0=[]):Cuts l tl P []:=⟨MG,fun q=>⟨(nomatch ·),fun⟨_,v,mv,_⟩=>by rw[h]at mv;cases mv⟩⟩
theorem iB{i:Int}{k:T->Prop}:jv [.int i,.ty "dict"] k=k (.bl false):=rfl
theorem iI{i:Int}{k:T->Prop}:jv [.int i,.ty "list"] k=k (.bl false):=rfl
theorem gC{i:Int}{k:T->Prop}:jv [.int i,.ty "tuple"] k=k (.bl false):=rfl
theorem gJ{i:Int}{k:T->Prop}:jv [.int i,.ty "str"] k=k (.bl false):=rfl
theorem fN{i:Int}{k:T->Prop}:jv [.int i,.ty "int"] k=k (.bl true):=rfl
theorem gQ{i:Int}{k:T->Prop}:jv [.int i,.ty "bool"] k=k (.bl false):=rfl
theorem gL{o:Bool}{k:T->Prop}:jv [.lst o ts,.ty "dict"] k=k (.bl false):=rfl
theorem gY{o:Bool}{k:T->Prop}:jv [.lst o ts,.ty "list"] k=k (.bl true):=rfl
theorem i8{o:Bool}{k:T->Prop}:jv [.lst o ts,.ty "tuple"] k=k (.bl false):=rfl
def qY(qs:List Qt):List T:=qs.map fun q=>T.tup [iT (bg q),.bl true]
theorem Ga{b:Bool}{k:T->Prop}(h:k (.lst true (qY qs))):liT (.dT b (dG bg qs)) k:=by
 refine⟨qs.map bg,?_,fun r m=>?_,?_⟩
 ·unfold dG;rw[z_,z_];rfl
 ·obtain⟨q,_,rfl⟩:=t_.mp m;exact NM _ _
 unfold dG;rw[z_,z_,Qw,z_];exact h
theorem rC:∀qs:List Qt,pairsOf (qY qs)=some (dG bg qs)
 | []=>rfl
 |q::qs=>by
  show(match some (kI (bg q),T.bl true),pairsOf (qY qs)with
   |some k,some ks=>some (k::ks)
   | _,_=>none)=_
  rw[rC qs]
  rfl
theorem ym:∀{r l:List Qt},(dG bg r).foldl (fun a x=>iC a x.1 x.2) (dG bg l)=dG bg (bJ bg l r)
 | [],_=>rfl
 |a::r,l=>by show(dG bg r).foldl _ (iC (dG bg l) (kI (bg a)) (.bl true))=_;rw[pC];exact ym
variable {rs:List Qt}
theorem Cr{k:T->Prop}(h:k (.dT true (dG bg (bJ bg [] (qs++rs))))):BR [.lst true (qY qs++qY rs)] k:=by have e:qY qs++qY rs=qY (qs++rs):=(q_ ..).symm;rw[e];show got (pairsOf (qY (qs++rs))) _;rw[rC];refine⟨cy _,?_⟩;unfold putAll;rw[show([]:List (List Key×T))=dG bg []from rfl,ym];exact h
variable {Q:List Od}
theorem xc{M:Nat}(hP:OkP m C N P)(hQ:OkP m C M Q)(l:P.length+Q.length<=300):OkP m C (N+M) (P++Q):=by
 refine⟨fun o e=>?_,by rw[e_];exact l,?_,fun o mo=>(x_.mp mo).elim (hP.2.2.2 o) (hQ.2.2.2 o)⟩
 ·cases P with
  |nil=>exact hQ.1 o e
  |cons p P=>exact hP.1 o e
 have h1:=hP.2.2.1;have h2:=hQ.2.2.1;unfold nPl at *;rw[q_,Pb];exact Qr h1 h2
theorem DF(h:OkP m C N P)(i:Nat):OkP m C N (P.take i):=by
 refine⟨fun o e=>?_,m_ (NL _ _) h.2.1,m_ qp h.2.2.1,fun o mo=>h.2.2.2 o (Mu mo)⟩;cases i with
 |zero=>cases e
 |succ i=>rw[OQ (Qz _)]at e;exact h.1 o e
theorem ES{l:Int}(hQ:∀o,Q[0]?=some o->∃i,o=.tk i):sps l (P++Q) 0=sps l P 0++sps l Q 0:=by
 rw[(gZ (l:=l) (Q:=Q) (P:=P) (t:=0)).2.1];cases Q with
 |nil=>rfl
 |cons o Q=>obtain⟨i,rfl⟩:=hQ o rfl;rfl
theorem qv{l:Int}{tl:List Tl}{ss:List Qt}(hQ:∀o,Q[0]?=some o->∃i,o=.tk i)(h:Cuts l tl P qs)(h':Cuts l tl Q rs)(nd:ss.Nodup)(hs:∀q,q∈ss↔q∈qs\/q∈rs):Cuts l tl (P++Q) ss:=by
 refine⟨nd,fun q=>?_⟩;rw[hs,h.2,h'.2,ES hQ];constructor
 ·rintro(⟨a,v,mv,b⟩|⟨a,v,mv,b⟩)
  ·exact⟨a,v,y_ _ mv,b⟩
  exact⟨a,v,r_ _ mv,b⟩
 rintro⟨a,v,mv,b⟩;exact(x_.mp mv).elim (fun mv=>.inl ⟨a,v,mv,b⟩) (fun mv=>.inr ⟨a,v,mv,b⟩)
theorem uQ{l:Int}{tl:List Tl}(hP:OkP tl.length C N P)(ht:∀t∈tl,tlO t):Cuts l tl P (bJ bg [] (fnd tl (bJ dF [] (sps l P 0)))):=by
 have hv:∀v∈bJ dF [] (sps l P 0),v.1<tl.length:=fun v m=>((cI iQ).mp m).elim (nomatch ·) (su hP v);refine⟨tG jl MG,fun q=>?_⟩;rw[cI jl,Ff ht hv];constructor
 ·rintro(h|⟨a,v,m,b⟩)
  ·cases h
  exact⟨a,v,((cI iQ).mp m).elim (nomatch ·) id,b⟩
 rintro⟨a,v,m,b⟩;exact .inr ⟨a,v,(cI iQ).mpr (.inr m),b⟩
theorem vT{l:Int}{tl:List Tl}(hP:OkP tl.length C N P)(ht:∀t∈tl,tlO t)(h:Cuts l tl P qs):qs.length<=576*N:=by have h1:=k9 h.1 fun q mq=>((uQ (l:=l) hP ht).2 q).mpr ((h.2 q).mp mq);have h2:=bV (ρ:=bg) (l:=[]) (r:=fnd tl (bJ dF [] (sps l P 0)));have h3:=uj ht (S:=bJ dF [] (sps l P 0)) fun v m=>((cI iQ).mp m).elim (nomatch ·) (su hP v);have h4:=bV (ρ:=dF) (l:=[]) (r:=sps l P 0);have h5:=jB (l:=l) (P:=P) (t:=0);have h6:=hP.2.2.1;rw[L_]at h2 h4;lia
theorem Ac{l:Int}{tl:List Tl}{o:Od}(h:Cuts l tl P qs)(h':Cuts l tl (P++[o]) rs):qs.length<=rs.length/\(Lw o=false->rs.length<=qs.length):=by
 have e:=(gZ (l:=l) (Q:=[o]) (P:=P) (t:=0)).2.1;refine⟨k9 h.1 fun q mq=>?_,fun hc=>k9 h'.1 fun q mq=>?_⟩
 ·obtain⟨a,v,mv,b⟩:=(h.2 q).mp mq;exact(h'.2 q).mpr ⟨a,v,by rw[e];exact y_ _ mv,b⟩
 obtain⟨a,v,mv,b⟩:=(h'.2 q).mp mq;rw[e]at mv;refine(h.2 q).mpr ⟨a,v,(x_.mp mv).elim id fun mv=>?_,b⟩;cases o with
 |tk i=>cases mv
 |ov _ _ _=>cases mv
 |ct ps=>cases hc
noncomputable def mvE(x:Int):Od->Od
 | .tk i=>.tk i
 | .ov b u v=>.ov b (u+x) v
 | .ct ps=>.ct (ps.map fun p=>((p.1.1+x,p.1.2),p.2))
noncomputable def ovE(x:Int):Od->Od
 | .ov b u v=>.ov b (u+x) v
 |o=>o
theorem uq{l x:Int}:∀{P:List Od}{t:Nat},sps l (P.map (mvE x)) t=(sps l P t).map fun v=>(v.1,(v.2.1+x,v.2.2))
 | [],_=>rfl
 | .tk i::P,t=>uq (P:=P) (t:=i)
 | .ov _ _ _::P,t=>uq (P:=P) (t:=t)
 | .ct ps::P,t=>by
  rw[k_,mvE,sps,sps,uq (P:=P) (t:=t),q_,z_,List.filter_map,z_]
  rfl
theorem EA{tl:List Tl}{l:Int}(h:Cuts l tl P qs):Cuts l tl (P.map (mvE x)) (qs.map (mvQ (x,0))):=by
 have mi:∀{r R:Int}{p:Pt}{q:Qt},inL (mkQ r R (p.1+x) p.2) (mvQ (x,0) q)↔inL (mkQ r R p.1 p.2) q:=by intro r R p q;unfold inL mkQ mvQ;dsimp only;lia
 refine⟨?_,fun q=>?_⟩
 ·refine LV.mpr (h.1.imp fun{a b} ne e=>ne ?_);unfold mvQ at e;simp only[Prod.mk.injEq]at e;exact M9 (by lia) (M9 (by lia) e.2.2)
 rw[t_,uq];constructor
 ·rintro⟨u,mu,rfl⟩;obtain⟨a,v,mv,b⟩:=(h.2 u).mp mu;exact⟨a,_,t_.mpr ⟨v,mv,rfl⟩,mi.mpr b⟩
 rintro⟨a,w,mw,b⟩;obtain⟨v,mv,rfl⟩:=t_.mp mw;have e:q=mvQ (x,0) (q.1-x,q.2.1,q.2.2):=by unfold mvQ;exact M9 (by dsimp only;lia) (M9 (by dsimp only;lia) rfl)
 rw[e]at b;exact⟨_,(h.2 (q.1-x,q.2.1,q.2.2)).mpr ⟨a,v,mv,mi.mp b⟩,e.symm⟩
theorem Bv(h:OkP m C N P)(h0:0<=x):OkP m (C+x) N (P.map (mvE x))/\OkP m (C+x) N P:=by
 obtain⟨h1,h2,h3,h4⟩:=h;refine⟨⟨fun o e=>?_,by rw[a_];exact h2,?_,fun o mo=>?_⟩,h1,h2,h3,fun o mo=>?_⟩
 ·cases P with
  |nil=>cases e
  |cons p P=>
   obtain⟨i,rfl⟩:=h1 p rfl;exact⟨i,(H_ e).symm⟩
 ·refine m_ (NB ?_) h3;unfold nPl;rw[z_];congr 1;refine ML fun o _=>?_;cases o with
  |ct ps=>exact a_ ..
  | _=>rfl
 ·obtain⟨o',mo',rfl⟩:=t_.mp mo;have:=h4 o' mo';cases o' with
  |tk i=>exact this
  |ov b u v=>trivial
  |ct ps=>
   intro p mp;obtain⟨p',mp',rfl⟩:=t_.mp mp;have:=this p' mp';dsimp only;lia
 have:=h4 o mo;cases o with
 |tk i=>exact this
 |ov b u v=>trivial
 |ct ps=>
  intro p mp;have:=this p mp;lia
theorem yL{tl:List Tl}{l:Int}(hP:OkP tl.length C N P)(ht:∀t∈tl,tlO t)(h:Cuts l tl P qs)(mq:q∈qs):-C-7<=q.1/\q.1<=C+7:=by obtain⟨a,v,mv,b⟩:=(h.2 q).mp mq;have h1:=CU hP mv;have h2:=(Dd ht (su hP v mv)).2;have h3:=pxy a;unfold mkT mkQ inL at b;dsimp only at b;lia
theorem xG{tl:List Tl}{l:Int}{M:Nat}(hP:OkP tl.length 21 N P)(hQ:OkP tl.length 21 M Q)(ht:∀t∈tl,tlO t)(h:Cuts l tl P qs)(h':Cuts l tl Q rs):Cuts l tl (P++Q.map (mvE 60)) (qs++rs.map (mvQ (60,0))):=by
 have hm:=EA (x:=60) h';refine qv (Bv (x:=60) hQ (by decide)).1.1 h hm (Mz.mpr ⟨h.1,hm.1,fun a ma b mb e=>?_⟩) fun q=>x_
 obtain⟨c,mc,rfl⟩:=t_.mp mb;have h1:=yL hP ht h ma;have h2:=yL hQ ht h' mc;rw[e]at h1;unfold mvQ at h1;dsimp only at h1;lia
theorem iH{gs:r9}{env:Ev}{k:Ev->Prop}:gTp n gs (ptP p) env k=gTp n gs (.tup [.int p.1,.int p.2]) env k:=rfl
noncomputable def jT(p:Pt):List Int:=[p.1,p.2]
theorem ql{f:α->β}{l m:List β}(p:l.Perm m):∀{xs:List α},m=xs.map f->∃ys:List α,ys.Perm xs/\l=ys.map f:=by
 induction p with
 |nil=>exact fun{xs} e=>⟨xs,.refl _,e⟩
 |cons x p ih=>
  intro xs e;cases xs with
  |nil=>cases e
  |cons y xs=>
   obtain⟨e1,e2⟩:=M' e;obtain⟨ys,q,r⟩:=ih e2;exact⟨y::ys,.cons y q,by rw[r,e1];rfl⟩
 |swap x y l=>
  intro xs e
  match xs,e with
  |a::b::xs,e=>
   obtain⟨e1,e2⟩:=M' e;obtain⟨e2,e3⟩:=M' e2;exact⟨b::a::xs,.swap _ _ _,by rw[e1,e2,e3];rfl⟩
 |trans p q ih jh=>
  intro xs e;obtain⟨ys,y1,y2⟩:=jh e;obtain⟨zs,z1,z2⟩:=ih y2;exact⟨zs,z1.trans y1,z2⟩
def E8(l:List Pt):List Pt:=(uK (l.map jT)).map fun r=>(r.getD 0 0,r.getD 1 0)
theorem rM(l:List Pt):∃ys:List Pt,ys.Perm l/\uK (l.map jT)=ys.map jT/\E8 l=ys:=by obtain⟨ys,y1,y2⟩:=ql (ny (lt:=ZS.ltL) (l.map jT)) (f:=jT) (xs:=l) rfl;refine⟨ys,y1,y2,?_⟩;unfold E8;rw[show uK (l.map jT)=ys.map jT from y2,z_];exact OC _
theorem kB{o:Bool}{l:List Pt}{k:T->Prop}:tV [.lst o (l.map ptP)] k=k (.lst true ((E8 l).map ptP)):=by
 obtain⟨ys,y1,y2,y3⟩:=rM l;rw[y3];show got (rowsOf (l.map ptP)) (fun ks=>k (.lst true ((uK ks).map iT)))=_;have e:rowsOf (l.map ptP)=some (l.map jT):=oH ptP jT (fun x=>rfl) (fun x=>NM _ _) _;rw[e];show k (.lst true ((uK (l.map jT)).map iT))=_;rw[y2,z_]
 rfl
theorem Bx{P:Q5}{w:Q8}{K:QT}{mg:Str->Option QR}{base:Q_}{k:Nat}{f:QS}{ps:List Str}(h:n=ps.length):FnOk P w K mg base CX0 k f fd ps (aL K n fun _ _=>False):=
 ⟨by rintro _ _ _ _ ⟨_,_,_,_,h2,_⟩;exact h2.trans h,by rintro _ _ _ _ _ _ _ _ _ _ _ _ _ ⟨_,_,_,_,_,_,z,_⟩;exact z.elim⟩
theorem Ez{m:Int}:∃U:List Oc,U.Perm os/\E8 (spn os m)=spn U m/\(spn U m).Pairwise fun p q=>p.1<=q.1:=by
 obtain⟨ys,y1,y2,y3⟩:=rM (spn os m);obtain⟨U,p,r⟩:=ql y1 (f:=fun o=>(loM o m,hiM o m)) (xs:=os) rfl;refine⟨U,p,y3.trans r,?_⟩;have s:=jf ZS.CK ((spn os m).map jT);rw[show wY ZS.ltL ((spn os m).map jT)=ys.map jT from y2,LV,r]at s;refine s.imp fun{a b} h=>Qh fun z=>?_;have:ZS.ltL (jT b) (jT a)=true:=by show(if b.1=a.1 then _ else decide (b.1<a.1))=true;rw[if_neg (by lia)];exact decide_eq_true z
 rw[this]at h;cases h
theorem Ba{m:Int}{x:Oc}(h:os[i]?=some x):spn (os.take (i+1)) m=spn (os.take i) m++[(loM x m,hiM x m)]:=by
 unfold spn;rw[LU,h,q_]
 rfl
theorem fX{k:T->Prop}:qA [ocT o] k=k (ocT o):=rfl
variable {ws:List Oc}
theorem Fj(h:(ws.map ocL).Pairwise fun x y=>ZS.ltL x y=false):ws.Pairwise fun x y=>y.a<=x.a:=by
 rw[LV]at h;refine h.imp fun{x y} g=>Qh fun z=>?_;have:ZS.ltL (ocL x) (ocL y)=true:=by show(if x.a=y.a then _ else decide (x.a<y.a))=true;rw[if_neg (by lia)];exact decide_eq_true z
 rw[this]at g;cases g
theorem Dn(l:ws.length<=os.length)(m:∀x∈ws,x∈os)(h:jj B os):jj B ws:=⟨m_ l h.1,h.2.1,h.2.2.1.elim (fun z=>.inl (m_ l z)) .inr,fun x hx=>h.2.2.2.1 x (m x hx),fun x hx=>h.2.2.2.2 x (m x hx)⟩
theorem Li:rm ts (some 1) none=ts.drop 1:=Az ts 1
theorem Be:LO (fun p:T×T=>T.tup [p.1,p.2]) ((LO (fun x=>T.int x) S).zip (erL (List.drop 1 (LO (fun x=>T.int x) S))))=(S.zip (S.drop 1)).map ptP:=by
 rw[<-PD,cJ,QE,z_]
 rfl
theorem HQ{l r:Int}(h:(S.zip (S.drop 1))[i]?=some (l,r)):S[i]?=some l/\S[i+1]?=some r:=by rw[OM]at h;refine⟨h.1,?_⟩;have:=h.2;rw[M6,Nat.add_comm]at this;exact this
theorem Fp(V:List Oc)(x:Oc):atI (LO (fun x=>ocT x) (V.concat x)) (-1)=some (ocT x):=by
 have e:LO (fun x=>ocT x) (V.concat x)=V.map ocT++[ocT x]:=by rw[M8,q_];rfl
 rw[e];unfold atI ixN;rw[e_,Pg,if_neg (by lia),if_pos (by lia)];show(V.map ocT++[ocT x])[_]?=_;rw[show((-1:Int)+((LO ocT V).length+1:Nat)).toNat=(V.map ocT).length by lia,Mb (b_ _),Ni]
 rfl
theorem vN(V:List Oc)(x:Oc):(LO ocT (V.concat x))[(V.concat x).length-1]?=some (ocT x)/\(LO ocT (V.concat x)).dropLast=V.map ocT:=by
 rw[PZ,M8,q_,Nat.add_sub_cancel];refine⟨?_,Ou⟩;rw[Mb (by rw[a_];exact b_ _),a_,Ni]
 rfl
noncomputable def AK(ws:List Oc)(l:Int)(V th:List Oc):Prop:=(V.Pairwise fun x y=>y.a<=x.a)/\(∀x∈V,x∈ws)/\(∀x∈th,x∈ws/\2*x.a<=l)/\(∀x∈ws,x∈V\/x∈th\/2*x.b<l)/\V.length+th.length<=ws.length
variable {th:List Oc}
theorem Io{l:Int}{V:List Oc}{x:Oc}(h:AK ws l (V.concat x) th)(g:2*x.a<=l):AK ws l V (th++[x]):=by
 obtain⟨h1,h2,h3,h4,h5⟩:=h;rw[M8]at h1 h2 h4 h5;refine⟨(D_.mp h1).1,fun y m=>h2 y (y_ _ m),fun y m=>?_,fun y m=>?_,by rw[e_]at h5 ⊢;exact(by lia)⟩
 ·rcases x_.mp m with m|m
  ·exact h3 y m
  rw[A_.mp m];exact⟨h2 x (r_ _ u_),g⟩
 rcases h4 y m with m|m|m
 ·rcases x_.mp m with m|m
  ·exact .inl m
  exact .inr (.inl (r_ _ m))
 ·exact .inr (.inl (y_ _ m))
 exact .inr (.inr m)
def AJ(B:Nat)(ws:List Oc)(S:List Int)(i:Nat)(V th:List Oc)(D:Int):Prop:=(S=[]->D=0)/\∀l,S[i]?=some l->AK ws l V th/\∀w,S[0]?=some w->w<=l/\D=Sm (fun j=>Lm B ws (2*j+1)) w (l-w).toNat
theorem LK(h:ws.Pairwise fun x y=>y.a<=x.a):AJ B ws S 0 ws [] 0:=⟨fun _=>rfl,fun l e=>⟨⟨h,fun x m=>m,(fun x m=>by cases m),fun x m=>.inl m,by rw[L_];lia⟩,fun w e'=>by rw[e]at e';cases e';exact⟨Ms _,by rw[show(l-l).toNat=0 by lia];rfl⟩⟩⟩
theorem Bs{l r:Int}(hw:jj B ws)(hS:Sds B ws S)(sl:S[i]?=some l)(sr:S[i+1]?=some r):l<r/\-(2 ^ 60)<l/\r<2 ^ 60:=by
 obtain⟨u,_,n,s,_⟩:=hS;have ne:ws≠[]:=fun z=>by rw[n z]at sl;cases sl
 obtain⟨w,e,s0,s1,b1,b2,b3,_⟩:=s ne;have hB:=hw.2.1;have lr:=jY u sl sr (Nk i);have il:=(c_.mp sl).1;have ir:=(c_.mp sr).1;have g1:w<=l:=by
  by_cases z:i=0
  ·subst z;rw[s0]at sl;cases sl;exact Ms _
  exact QF (jY u s0 sl (by lia))
 have g2:r<=e:=by
  by_cases z:i+1=S.length-1
  ·rw[<-z,sr]at s1;cases s1;exact Ms _
  exact QF (jY u sr s1 (by omega))
 exact⟨lr,by lia,by lia⟩
theorem E2{V U:List Oc}{D l r:Int}(hw:jj B ws)(hS:Sds B ws S)(sl:S[i]?=some l)(sr:S[i+1]?=some r)(J0:∀w,S[0]?=some w->w<=l/\D=Sm (fun j=>Lm B ws (2*j+1)) w (l-w).toNat)(K:AK ws l V th)(hV:∀x∈V,l<2*x.a)(pU:U.Perm (th.filter fun x=>decide (r<=2*x.b)))(sU:(spn U (l+r)).Pairwise fun p q=>p.1<=q.1) :
  AJ B ws S (i+1) V (th.filter fun x=>decide (r<=2*x.b)) (D+(r-l)*sw (wX (spn U (l+r))) (spn U (l+r))):=by
 obtain⟨lr,_⟩:=Bs hw hS sl sr;obtain⟨k1,k2,k3,k4,k5⟩:=K;have fl:=MC (fun x:Oc=>decide (r<=2*x.b)) th;have mem:∀x,x∈U↔x∈ws/\2*x.a<=l/\r<=2*x.b:=fun x=>by
  rw[pU.mem_iff,LZ,decide_eq_true_iff];refine⟨fun⟨a,b⟩=>⟨(k3 x a).1,(k3 x a).2,b⟩,fun⟨a,b,c⟩=>⟨?_,c⟩⟩;rcases k4 x a with m|m|m
  ·have:=hV x m;lia
  ·exact m
  lia
 refine⟨fun z=>(by rw[z]at sl;cases sl),fun r' er=>?_⟩;rw[sr]at er;cases er;refine⟨⟨k1,k2,fun x m=>?_,fun x m=>?_,by lia⟩,fun w ew=>?_⟩
 ·have:=(k3 x (LZ.mp m).1);exact⟨this.1,by lia⟩
 ·rcases k4 x m with m'|m'|m'
  ·exact .inl m'
  ·by_cases c:r<=2*x.b
   ·exact .inr (.inl (LZ.mpr ⟨m',decide_eq_true c⟩))
   exact .inr (.inr (by lia))
  exact .inr (.inr (by lia))
 obtain⟨g1,g2⟩:=J0 w ew;refine⟨by lia,?_⟩;rw[g2,Cc (B:=B) lr (hS.2.2.2.2 i l r sl sr) hw.2.2.2.1 hw.2.2.2.2 mem sU,show(r-w).toNat=(l-w).toNat+(r-l).toNat by lia,tq,show w+((l-w).toNat:Int)=l by lia]
theorem Iw{V:List Oc}{D:Int}(hw:jj B ws)(hS:Sds B ws S)(J:AJ B ws S ((S.zip (S.drop 1)).map ptP).length V th D):D=Ar B ws:=by
 rw[a_,O_,K_,show min S.length (S.length-1)=S.length-1 by lia]at J;obtain⟨u,_,n,s,_⟩:=hS;by_cases ne:ws=[]
 ·rw[J.1 (n ne),ne];unfold Ar Lm;exact(iJ fun j _ _=>iJ fun y _ _=>if_neg fun⟨o,ho,_⟩=>by cases ho).symm
 obtain⟨w,e,s0,s1,b1,b2,b3,b4⟩:=s ne;rw[((J.2 e s1).2 w s0).2];exact Dj (fun x m=>(b4 x m).1) (fun x m=>(b4 x m).2) b2 b1 b3
noncomputable def xD:=And.intro @Mp.BJ (@Mp.BJ)
noncomputable def xw:=@PL.bB
end Mp
local macro_rules | `(tactic| walk_at "go")=>do
 let l<-("!PL.qM !PL.kA !PL.pK !PL.fE !PL.kh !PL.lh !PL.fC !PL.lq !PL.fU !PL.gM !PL.d9 !PL.dS !PL.gy !PL.eI !PL.gI !PL.gf !PL.kP !PL.iA !PL.eK !PL.fZ !PL.gc !PL.kT !PL.gX !PL.ip !PL.fL !PL.gv !PL.eE !PL.dZ !PL.cX !PL.m8 !PL.iG !PL.fY !PL.eC !PL.gU !PL.eN !PL.gD !PL.kx !PL.fM !PL.ig !PL.lY !PL.gx !PL.de !PL.g9 !PL.qG !PL.gF !PL.eG !PL.iw !PL.e9 !PL.gH !PL.jZ !PL.kM !PL.kE !PL.kD !PL.lJ !PL.fV !PL.fP !PL.iq !PL.hZ !PL.i6 !PL.dQ !PL.kR !PL.lu !PL.lF !PL.lX !PL.lC !PL.fD !PL.iy !PL.ij !PL.iD !PL.eR !PL.dY !PL.gP !PL.lH !PL.lO !PL.kF !PL.m9 !PL.lT !PL.lM !PL.kS !PL.dX !PL.kW !PL.qV !PL.kY !PL.lB !PL.cw !PL.cq !PL.gS !PL.lN !PL.ik PL.kQ PL.fG PL.eW PL.eJ PL.qO PL.pQ PL.qD PL.qk PL.qH PL.qr PL.pV PL.qS PL.d8 PL.dC PL.cA PL.gu PL.cJ PL.fW PL.cf PL.cu PL.bB PL.bM PL.fj PL.dq PL.fH PL.cU PL.dR PL.cY PL.i7 PL.cV PL.df PL.iK PL.dg PL.cR PL.cW PL.fI PL.dh PL.eS PL.fO PL.du PL.d5 PL.er PL.erL PL.aW PL.bC PL.cv PL.cQ PL.lend PL.back PL.outs PL.frA PL.vt k_ Nf h_ L_ a_ MX MJ PQ OD M0 Mm Ot List.zipWith_cons_cons List.zipWith_nil_left List.zipWith_nil_right decide_eq_true_eq decide_true decide_false Py Pj Nq Bool.and_self G' true_and Option.map_some NW Ni PySem.sizeLine_eq PL.Th.v if_true if_false Mp.gB Nat.reduceAdd Nat.reduceSub Nat.reduceLeDiff Mp.jU Mp.dB Mp.d7 Mp.dv !Mp.kG !PL.gG !PL.fJ !PL.lg !PL.fS Mp.cM Mp.eD !PL.kH !PL.m5 !PL.kO !PL.lG !PL.kZ !PL.j9 Mp.bI Mp.aQ Mp.aI Mp.bh !Mp.b9 !Mp.bT !Mp.bp Mp.bI Mp.aQ Mp.aI Mp.bh !Mp.b9 !Mp.bT !Mp.bp Mp.kJ Mp.eB Mp.dk Mp.cT !Mp.fF !Mp.iF !PL.gq !PL.pO Mp.qB Mp.kc Mp.cy Mp.dU !Mp.gm Mp.xV Mp.xT Mp.kX Mp.d0 Mp.dm !Mp.h9 !Mp.gR Mp.iY Mp.cD Mp.eQ Mp.kL Mp.cZ Mp.y4 Mp.xH Mp.wV Mp.wW !Mp.fT !Mp.iB !Mp.iI !Mp.gC !Mp.gJ !Mp.gL !Mp.gY !Mp.i8 Mp.yc Mp.x5 Mp.dc !Mp.fN !Mp.gQ !PL.lL !PL.jX !PL.d4 Mp.bI Mp.aQ Mp.aI !Mp.b9 !Mp.iH !Mp.kB !Mp.fX !Mp.xD Mp.xw".splitOn " ").toArray.mapM fun s=>let i:Lean.Ident:=Lean.mkIdent (s.replace "!" "").toName;if s.front=='!' then `(Lean.Parser.Tactic.simpLemma|↓$i:ident) else `(Lean.Parser.Tactic.simpLemma|$i:ident)
 `(tactic| simp only[$l,*])
local macro_rules | `(tactic| nofun)=>`(tactic| walk_at "go")
local macro_rules | `(tactic| walk_at "take")=>`(tactic| refine⟨_,_,_,rfl,by lia,by first|decide|lia,by first|decide|lia,?_⟩)
namespace Mp
open PySem L2 PL
def oy:FP:=fun ts k=>∃(o:Bool) (os:List Oc) (i:Nat),ts=[.lst o (os.map ocT),.int (i:Int)]/\i<7/\os.length<=200/\∀(ms:List Int) (z:T),ms.Pairwise (·<·)->(∀z,z∈ms↔∃o∈os,z=gA i o\/z=gA (i+1) o)->k (.lst true (ms.map T.int)) [.lst o (os.map ocT),.int (i:Int)]
variable {f:QS}{fd:Rj}
section
variable{P:Q5}{w:Q8}{K:QT}{mg:Str->Option QR}{base:Q_}
theorem mN:FnScope ["octos","at"] ["octos","at"] (av j8):=⟨rfl,rfl,rfl,by rfl',rfl,by rfl',by rfl'⟩
theorem uA(F:Fun K "bounds_at" "bounds_at" j8 f fd)(TX:Txt mg)  :FnOk P w K mg base CX0 1 f fd ["octos","at"] (aL K 2 oy):=by
 refine bN F mN [true,true] rfl (fun cdv A outer s H E hr=>?_);have sc:=@mN;have nd1:(["octo","at"]:List Str).Nodup:=by rfl'
 have nd2:(["octo","at"]:List Str).Nodup:=by rfl'
 refine⟨_,(ai (aG (aB (mB (by rfl) (by rfl) TX.sorted (by rfl) TX.set (aj az (bu sc ["octo","at"] [none,some 1] nd1 (by rfl') (aR (ae 0)) (fun _ _ _=>(ak (i:=0) nd1 (by rfl) (f_ rfl) (by rfl) (hf:=(v_ rfl)))) (fun _ _ _=>bo) (fun _ _ _=>(aA hr (ae 0) (ae 1)))) (bu sc ["octo","at"] [none,some 1] nd2 (by rfl') (aR (ae 0)) (fun _ _ _=>(ak (i:=0) nd2 (by rfl) (f_ rfl) (by rfl) (hf:=(v_ rfl)))) (fun _ _ _=>bo) (fun _ _ _=>(aA hr (ae 0) (aj az (ae 1) ge_int))))))))),fun ts kk hl hp=>?_⟩;clear hl;obtain⟨o,os,i,rfl,hi,hz,q⟩:=hp;nofun;refine aP (by rw[a_,sizeLine_eq];lia) (fun j acc ie=>∃z1,acc=(os.take j).map (fun o=>T.int (gA i o))/\ie=[z1,.int (i:Int)]) ⟨_,rfl,rfl⟩ ?_ ?_
 ·rintro j t _ _ ⟨z1,rfl,rfl⟩ ei;obtain⟨o',eo,rfl⟩:=aM ei;nofun;refine aZ (G5 (by lia)) ?_;nofun;exact⟨_,by rw[map_take eo],rfl⟩
 rintro _ _ ⟨z1,rfl,rfl⟩;rw[a_,w_];nofun;refine aP (by rw[a_,sizeLine_eq];lia) (fun j acc ie=>∃z1,acc=(os.take j).map (fun o=>T.int (gA (i+1) o))/\ie=[z1,.int (i:Int)]) ⟨_,rfl,rfl⟩ ?_ ?_
 ·rintro j t _ _ ⟨z1,rfl,rfl⟩ ei;obtain⟨o',eo,rfl⟩:=aM ei;nofun;refine aZ (G5 (i:=i+1) (by lia)) ?_;nofun;exact⟨_,by rw[map_take eo],rfl⟩
 rintro _ _ ⟨z1,rfl,rfl⟩;rw[a_,w_];nofun;refine⟨by lia,aZ AS ?_⟩;nofun;refine⟨by rw[e_,a_,a_];lia,fun ms h1 h2=>?_⟩;refine q ms .non h1 fun z=>?_;rw[h2 z,x_,t_,t_];exact⟨fun h=>h.elim (fun⟨o,m,e⟩=>⟨o,m,.inl e.symm⟩) fun⟨o,m,e⟩=>⟨o,m,.inr e.symm⟩,fun⟨o,m,e⟩=>e.elim (fun e=>.inl ⟨o,m,e.symm⟩) fun e=>.inr ⟨o,m,e.symm⟩⟩
end
def jR:FP:=fun ts k=>∃(o:Bool) (os:List Oc) (B:Nat),ts=[.lst o (os.map ocT)]/\jj B os/\∀(S:List Int),Sds B os S->k (.lst true (S.map T.int)) [.lst o (os.map ocT)]
section
variable{P:Q5}{w:Q8}{K:QT}{mg:Str->Option QR}{base:Q_}
theorem iP:FnScope ["octos","west","east","levels","falls","rises","sides","fall","rise"] ["octos"] (av fq):=⟨rfl,rfl,rfl,by rfl',rfl,by rfl',by rfl'⟩
theorem qf(F:Fun K "strip_sides" "strip_sides" fq f fd)(TX:Txt mg)  (G_bounds_at:Cal P w K mg base 1 "bounds_at" ["octos","at"] (aL K 2 oy)):FnOk P w K mg base CX0 2 f fd ["octos"] (aL K 1 jR):=by
 refine bN F iP [true] rfl (fun cdv A outer s H E hr=>?_);have sc:=@iP;have nd1:(["octo"]:List Str).Nodup:=by rfl'
 have nd2:(["octo"]:List Str).Nodup:=by rfl'
 have nd3:(["bound"]:List Str).Nodup:=by rfl'
 have nd4:(["level","fall"]:List Str).Nodup:=by rfl'
 have nd5:(["rise","fall"]:List Str).Nodup:=by rfl'
 have nd6:(["level","rise"]:List Str).Nodup:=by rfl'
 have nd7:(["side","west","east"]:List Str).Nodup:=by rfl'
 refine⟨_,(af (bj (ck (nS (cL (ae 0)))) (ai (aG (aB (ba ag)))) aH) (af (ax (i:=1) sc.nd (by rfl) (v_ rfl) (by rfl) (aB (aj aS ge_int (ay (jG rfl) (by rfl) TX.min (by rfl') (ab (bu sc ["octo"] [none] nd1 (by rfl') (aR (ae 0)) (fun _ _ _=>(ak (i:=0) nd1 (by rfl) (f_ rfl) (by rfl) (hf:=(v_ rfl)))) (fun _ _ _=>bo) (fun _ _ _=>(aA hr (ae 0) ge_int))) ag))))) (af (ax (i:=2) sc.nd (by rfl) (v_ rfl) (by rfl) (aB (aj aS ge_int (ay (dP rfl) (by rfl) TX.max (by rfl') (ab (bu sc ["octo"] [none] nd2 (by rfl') (aR (ae 0)) (fun _ _ _=>(ak (i:=0) nd2 (by rfl) (f_ rfl) (by rfl) (hf:=(v_ rfl)))) (fun _ _ _=>bo) (fun _ _ _=>(aA hr (ae 0) ge_int))) ag))))) (af (ax (i:=3) sc.nd (by rfl) (f_ rfl) (by rfl) (aB (au G_bounds_at hr (by rfl) (ah (ae 0) (ah ge_int aq))))) (af (ax (i:=4) sc.nd (by rfl) (f_ rfl) (by rfl) (aB (au G_bounds_at hr (by rfl) (ah (ae 0) (ah ge_int aq))))) (af (ax (i:=5) sc.nd (by rfl) (f_ rfl) (by rfl) (aB (au G_bounds_at hr (by rfl) (ah (ae 0) (ah ge_int aq))))) (af (bj (ck (aT jo (aj bP (ae 2) (ae 1)) (aj az (aj aS (ay bD (by rfl) TX.len (by rfl') (ab (ae 3) ag)) (aj az (ay bD (by rfl) TX.len (by rfl') (ab (ae 4) ag)) (ay bD (by rfl) TX.len (by rfl') (ab (ae 5) ag)))) (aj aS (ay bD (by rfl) TX.len (by rfl') (ab (ae 4) ag)) (ay bD (by rfl) TX.len (by rfl') (ab (ae 5) ag)))) (aK _))) (ai (aG (aB (r6 (by rfl) (by rfl) TX.list (by rfl) TX.range (ab (ae 1) (ab (aj az (ae 2) ge_int) ag)))))) aH) (af (qa sc (i:=6) ["bound"] [none] nd3 (by rfl') (by rfl) (f_ rfl) (by rfl) (aR (au G_bounds_at hr (by rfl) (ah (ae 0) (ah ge_int aq)))) (fun _ _ _=>(ak (i:=0) nd3 (by rfl) (f_ rfl) (by rfl) (hf:=(v_ rfl)))) (fun _ _ _=>bo) (fun _ _ _=>(aj aS ge_int (ae 0))) (by rfl)) (af (bA Rk (by rfl) (aR (bc 4)) (ak (i:=7) sc.nd (by rfl) (v_ rfl) (by rfl)) (af (bK (bO 6 T3 T4 kj (ab (aB (bu sc ["level","fall"] [none,some 7] nd4 (by rfl') (aR (ae 3)) (fun _ _ _=>(ak (i:=0) nd4 (by rfl) (f_ rfl) (by rfl) (hf:=(v_ rfl)))) (fun _ _ _=>bo) (fun _ _ _=>(aj aS ge_int (aj bP (ae 1) (ae 0)))))) ag))) (ai (bK (bO 6 T3 T4 kj (ab (aB (bu sc ["rise","fall"] [none,some 7] nd5 (by rfl') (aR (ae 5)) (fun _ _ _=>(ak (i:=0) nd5 (by rfl) (f_ rfl) (by rfl) (hf:=(v_ rfl)))) (fun _ _ _=>bo) (fun _ _ _=>(aj az (ae 1) (ae 0))))) ag)))))) (af (bA Rk (by rfl) (aR (bc 5)) (ak (i:=8) sc.nd (by rfl) (v_ rfl) (by rfl)) (ai (bK (bO 6 T3 T4 kj (ab (aB (bu sc ["level","rise"] [none,some 8] nd6 (by rfl') (aR (ae 3)) (fun _ _ _=>(ak (i:=0) nd6 (by rfl) (f_ rfl) (by rfl) (hf:=(v_ rfl)))) (fun _ _ _=>bo) (fun _ _ _=>(aj aS ge_int (aj az (ae 1) (ae 0)))))) ag))))) (ai (aG (aB (mB (by rfl) (by rfl) TX.sorted (by rfl) TX.set (bu sc ["side","west","east"] [none,some 1,some 2] nd7 (by rfl') (aR (ae 6)) (fun _ _ _=>(ak (i:=0) nd7 (by rfl) (f_ rfl) (by rfl) (hf:=(v_ rfl)))) (fun _ _ _=>(zB (vV jo jo (ae 1) (ae 0) (ae 2)))) (fun _ _ _=>(ae 0))))))))))))))))),fun ts kk hl hp=>?_⟩;clear hl;obtain⟨o,os,B,rfl,⟨hz,hB,hc,vo,bd⟩,q⟩:=hp;nofun;refine o9 (fun h=>?_) (fun h=>?_)
 ·have e0:os=[]:=Nm.mp (Qi.mp h);nofun;refine q [] ⟨.nil,by decide,fun _=>rfl,fun z=>absurd e0 z,fun i l r e=>by cases e⟩
 have ne:os≠[]:=fun z=>by rw[z]at h;cases h
 have hne:∀j,os.map (gA j)≠[]:=fun j z=>ne (Nm.mp z);nofun;refine aP (by rw[a_,sizeLine_eq];lia) (fun j acc ie=>∃z1,acc=(os.take j).map (fun o=>T.int (gA 0 o))/\ie=[z1]) ⟨_,rfl,rfl⟩ ?_ ?_
 ·rintro j t _ _ ⟨z1,rfl,rfl⟩ ei;obtain⟨o',eo,rfl⟩:=aM ei;nofun;exact⟨_,by rw[map_take eo];rfl,rfl⟩
 rintro _ _ ⟨z1,rfl,rfl⟩;rw[a_,w_];nofun;refine⟨hne 0,fun W hW=>⟨c2 _,?_⟩⟩;refine aP (by rw[a_,sizeLine_eq];lia) (fun j acc ie=>∃z1,acc=(os.take j).map (fun o=>T.int (gA 1 o))/\ie=[z1]) ⟨_,rfl,rfl⟩ ?_ ?_
 ·rintro j t _ _ ⟨z1,rfl,rfl⟩ ei;obtain⟨o',eo,rfl⟩:=aM ei;nofun;exact⟨_,by rw[map_take eo];rfl,rfl⟩
 rintro _ _ ⟨z1,rfl,rfl⟩;rw[a_,w_];nofun;refine⟨hne 1,fun E hE=>⟨c2 _,?_⟩⟩;refine⟨false,os,2,rfl,by decide,by omega,fun lv _ lv1 lv2=>?_⟩;nofun;refine⟨false,os,4,rfl,by decide,by omega,fun fa _ fa1 fa2=>?_⟩;nofun;refine⟨false,os,6,rfl,by decide,by omega,fun ri _ ri1 ri2=>?_⟩;nofun;have bl:=oU lv1 lv2;have bf:=oU fa1 fa2;have br:=oU ri1 ri2;have w1:∃o∈os,W=o.a:=by obtain⟨x,m,e⟩:=t_.mp hW.1;exact⟨x,m,e.symm⟩
 have w2:∀o∈os,W<=o.a:=fun x m=>hW.2 _ (Mn (f:=gA 0) m);have e1:∃o∈os,E=o.b:=by obtain⟨x,m,e⟩:=t_.mp hE.1;exact⟨x,m,e.symm⟩
 have e2:∀o∈os,o.b<=E:=fun x m=>hE.2 _ (Mn (f:=gA 1) m);have bW:-(B:Int)<=W/\W<=E/\E<=B:=by obtain⟨x,m,e⟩:=w1;obtain⟨y,m',e'⟩:=e1;have g1:=(bd x m).1;have g2:=(bd y m').1;have g3:=e2 x m;have g4:=(vo x m).1.1;lia
 refine⟨.inl ⟨by lia,by lia⟩,.inl ⟨by lia,by lia⟩,aY (fun h2=>?_) (fun h2=>?_)⟩
 ·have hl:2*E-2*W<=50000:=by
   rcases hc with hc|hc
   ·have p1:lv.length*(fa.length+ri.length)<=128*256:=M5 (by lia) (by lia);have p2:fa.length*ri.length<=128*128:=M5 (by lia) (by lia);have p1':(lv.length:Int)*((fa.length:Int)+ri.length)<=128*256:=by exact_mod_cast p1
    have p2':(fa.length:Int)*ri.length<=128*128:=by exact_mod_cast p2
    lia
   lia
  nofun;refine⟨⟨by lia,by lia,by lia,by lia,by lia⟩,?_⟩;have:=q _ (B1 ne vo bd w1 w2 e1 e2 hl);rw[z_]at this;refine⟨?_,this⟩;unfold jN;rw[bM];exact Nh.mpr fun _ _=>rfl
 nofun;refine⟨false,os,0,rfl,by decide,by omega,fun xb _ xb1 xb2=>?_⟩;nofun;have bx:=oU xb1 xb2;refine aP (by rw[a_,sizeLine_eq];lia) (fun j acc ie=>∃z1,acc=(xb.take j).map (fun x=>T.int (2*x))/\ie=[z1]) ⟨_,rfl,rfl⟩ ?_ ?_
 ·rintro j t _ _ ⟨z1,rfl,rfl⟩ ei;obtain⟨x,ex,rfl⟩:=aM ei;nofun;exact⟨c2 _,_,by rw[map_take ex],rfl⟩
 rintro _ _ ⟨z1,rfl,rfl⟩;rw[a_,w_];nofun;refine aU (fun i env=>∃(L:List Int) (z7 z8:T),L.length=xb.length+i*(lv.length+ri.length)/\(∀x∈xb,2*x∈L)/\(∀f∈fa.take i,(∀l∈lv,2*(f-l)∈L)/\∀r∈ri,f+r∈L)/\env=[.lst o (os.map ocT),.int (2*W),.int (2*E),.lst true (lv.map T.int),.lst false (fa.map T.int),.lst true (ri.map T.int),.lst true (L.map T.int),z7,z8]) ⟨xb.map fun x=>2*x,_,_,by rw[a_];lia,fun x m=>t_.mpr ⟨x,m,rfl⟩,(fun f m=>by cases m),by rw[z_];rfl⟩ ?_ ?_
 ·rintro i t _ ⟨L,z7,z8,hL,k1,k2,rfl⟩ ei;obtain⟨f,ef,rfl⟩:=aM ei;have hi:i<fa.length:=(c_.mp ef).1;have hm:i*(lv.length+ri.length)<=400*800:=M5 (by lia) (by lia);nofun;refine aP (by rw[a_,sizeLine_eq];lia) (fun j acc ie=>∃z1,acc=(lv.take j).map (fun l=>T.int (2*(f-l)))/\ie=[z1,.int f]) ⟨_,rfl,rfl⟩ ?_ ?_
  ·rintro j t _ _ ⟨z1,rfl,rfl⟩ ej;obtain⟨x,ex,rfl⟩:=aM ej;nofun;exact⟨c2 _,_,by rw[map_take ex],rfl⟩
  rintro _ _ ⟨z1,rfl,rfl⟩;rw[a_,w_];nofun;refine⟨by lia,aP (by rw[a_,sizeLine_eq];lia) (fun j acc ie=>∃z1,acc=(ri.take j).map (fun r=>T.int (f+r))/\ie=[z1,.int f]) ⟨_,rfl,rfl⟩ ?_ ?_⟩
  ·rintro j t _ _ ⟨z1,rfl,rfl⟩ ej;obtain⟨x,ex,rfl⟩:=aM ej;nofun;exact⟨_,by rw[map_take ex],rfl⟩
  rintro _ _ ⟨z1,rfl,rfl⟩;rw[a_,w_];nofun;refine⟨by first|omega|(rw[e_,a_,a_];lia),L++(lv.map fun l=>2*(f-l))++ri.map (fun r=>f+r),_,_,?_,fun x m=>y_ _ (y_ _ (k1 x m)),fun g m=>?_,by rw[q_,q_,z_,z_];rfl⟩
  ·rw[e_,e_,a_,a_,hL,QG];lia
  rw[LU,ef]at m;rcases x_.mp m with m|m
  ·exact⟨fun l ml=>y_ _ (y_ _ ((k2 g m).1 l ml)),fun r mr=>y_ _ (y_ _ ((k2 g m).2 r mr))⟩
  obtain rfl:g=f:=A_.mp m;exact⟨fun l ml=>y_ _ (r_ _ (t_.mpr ⟨l,ml,rfl⟩)),fun r mr=>r_ _ (t_.mpr ⟨r,mr,rfl⟩)⟩
 rintro _ ⟨L,z7,z8,hL,k1,k2,rfl⟩;rw[a_]at hL k2;rw[w_]at k2;nofun;have hm:fa.length*(lv.length+ri.length)<=400*800:=M5 (by lia) (by lia);refine aU (fun i env=>∃(M:List Int) (z7 z8:T),M.length=L.length+i*lv.length/\(∀x∈L,x∈M)/\(∀r∈ri.take i,∀l∈lv,2*(r+l)∈M)/\env=[.lst o (os.map ocT),.int (2*W),.int (2*E),.lst true (lv.map T.int),.lst false (fa.map T.int),.lst false (ri.map T.int),.lst true (M.map T.int),z7,z8]) ⟨L,_,_,by lia,fun x m=>m,(fun f m=>by cases m),rfl⟩ ?_ ?_
 ·rintro i t _ ⟨M,z7,z8,hM,j1,j2,rfl⟩ ei;obtain⟨r,er,rfl⟩:=aM ei;have hi:i<ri.length:=(c_.mp er).1;have hm2:i*lv.length<=400*400:=M5 (by lia) (by lia);nofun;refine aP (by rw[a_,sizeLine_eq];lia) (fun j acc ie=>∃z1,acc=(lv.take j).map (fun l=>T.int (2*(r+l)))/\ie=[z1,.int r]) ⟨_,rfl,rfl⟩ ?_ ?_
  ·rintro j t _ _ ⟨z1,rfl,rfl⟩ ej;obtain⟨x,ex,rfl⟩:=aM ej;nofun;exact⟨c2 _,_,by rw[map_take ex],rfl⟩
  rintro _ _ ⟨z1,rfl,rfl⟩;rw[a_,w_];nofun;refine⟨by lia,M++lv.map (fun l=>2*(r+l)),_,_,?_,fun x m=>y_ _ (j1 x m),fun g m l ml=>?_,by rw[q_,z_];rfl⟩
  ·rw[e_,a_,hM,QG];lia
  rw[LU,er]at m;rcases x_.mp m with m|m
  ·exact y_ _ (j2 g m l ml)
  obtain rfl:g=r:=A_.mp m;exact r_ _ (t_.mpr ⟨l,ml,rfl⟩)
 rintro _ ⟨M,z7,z8,hM,j1,j2,rfl⟩;rw[a_]at hM j2;rw[w_]at j2;nofun;have hm3:ri.length*lv.length<=400*400:=M5 (by lia) (by lia);refine aP (by rw[a_,sizeLine_eq];lia) (fun j acc ie=>∃z1,acc=((M.take j).filter fun x=>decide (2*W<=x/\x<=2*E)).map T.int/\ie=[z1,.int (2*W),.int (2*E)]) ⟨_,rfl,rfl⟩ ?_ ?_
 ·rintro j t _ _ ⟨z1,rfl,rfl⟩ ej;obtain⟨x,ex,rfl⟩:=aM ej;nofun;rw[nQ ex];refine aY (fun g1=>?_) (fun g1=>?_)
  ·nofun;refine aY (fun g2=>?_) (fun g2=>?_)
   ·nofun;exact⟨_,by rw[if_pos ⟨g1,g2⟩],rfl⟩
   nofun;exact⟨_,by rw[if_neg fun z=>g2 z.2,I_],rfl⟩
  nofun;exact⟨_,by rw[if_neg fun z=>g1 z.1,I_],rfl⟩
 rintro _ _ ⟨z1,rfl,rfl⟩;rw[a_,w_];nofun;have fl:=MC (fun x=>decide (2*W<=x/\x<=2*E)) M;have small:M.length<4095:=by
  have n1:=QM fa.length lv.length ri.length;have n2:=QM lv.length fa.length ri.length;have n3:=QH lv.length fa.length;have n4:=QH lv.length ri.length;have h3:lv.length*(fa.length+ri.length)+fa.length*ri.length<(2*E-2*W).toNat:=by
   have:((lv.length*(fa.length+ri.length)+fa.length*ri.length:Nat):Int)<2*E-2*W:=by push_cast;lia
   lia
  rcases hc with hc|hc
  ·have m1:fa.length*(lv.length+ri.length)<=28*56:=M5 (by lia) (by lia);have m2:ri.length*lv.length<=28*28:=M5 (by lia) (by lia);lia
  lia
 refine⟨by omega,fun S h1 h2=>q S (zG (c:=fun z=>z∈M) ne vo bd w1 w2 e1 e2 ⟨fun x m=>?_,fun x m t' et y m' u eu y' m'' v ev=>?_⟩ h1 (fun z=>?_) ?_)⟩
 ·exact⟨j1 _ (k1 _ ((xb2 _).mpr ⟨x,m,.inl rfl⟩)),j1 _ (k1 _ ((xb2 _).mpr ⟨x,m,.inr rfl⟩))⟩
 ·have il:t'∈lv:=(lv2 _).mpr ⟨x,m,et⟩;have if':u∈fa:=(fa2 _).mpr ⟨y,m',eu⟩;have ir:v∈ri:=(ri2 _).mpr ⟨y',m'',ev⟩;exact⟨j1 _ ((k2 u if').1 _ il),j2 v ir _ il,j1 _ ((k2 u if').2 _ ir)⟩
 ·rw[h2 z,LZ,decide_eq_true_iff]
 have:=k9 (Gs h1) fun z hz=>(h2 z).mp hz;lia
end
def jm:FP:=fun ts k=>∃(o:Bool) (os:List Oc) (m:Int),ts=[.lst o (os.map ocT),.int m]/\os.length<=1000/\∀(U:List Oc) (z:T),U.Perm os->(spn U m).Pairwise (fun p q=>p.1<=q.1)->k (.int (sw (wX (spn U m)) (spn U m))) [z,.int m]
section
variable{P:Q5}{w:Q8}{K:QT}{mg:Str->Option QR}{base:Q_}
theorem iN:FnScope ["octos","middle","spans","octo","low","high","length","top"] ["octos","middle"] (av eP):=⟨rfl,rfl,rfl,by rfl',rfl,by rfl',by rfl'⟩
theorem oR(F:Fun K "length_along" "length_along" eP f fd)(TX:Txt mg)  :FnOk P w K mg base CX0 1 f fd ["octos","middle"] (aL K 2 jm):=by
 refine bN F iN [true,true] rfl (fun cdv A outer s H E hr=>?_);have sc:=@iN;refine⟨_,(af (ax (i:=2) sc.nd (by rfl) (f_ rfl) (by rfl) (aB (ba ag))) (af (bA Rk (by rfl) (aR (bc 0)) (ak (i:=3) sc.nd (by rfl) (f_ rfl) (by rfl)) (af (ax (i:=4) sc.nd (by rfl) (f_ rfl) (by rfl) (aB (ay (dP rfl) (by rfl) TX.max (by rfl') (ab (aj aS ge_int (aA hr (ae 3) ge_int)) (ab (aj bP (aj aS ge_int (aA hr (ae 3) ge_int)) (ae 1)) (ab (aj bP (ae 1) (aj aS ge_int (aA hr (ae 3) ge_int))) ag)))))) (af (ax (i:=5) sc.nd (by rfl) (f_ rfl) (by rfl) (aB (ay (jG rfl) (by rfl) TX.min (by rfl') (ab (aj aS ge_int (aA hr (ae 3) ge_int)) (ab (aj bP (aj aS ge_int (aA hr (ae 3) ge_int)) (ae 1)) (ab (aj bP (ae 1) (aj aS ge_int (aA hr (ae 3) ge_int))) ag)))))) (ai (bK (bO 2 Rt Ru bq (ab (aB (aF (ab (ae 4) (ab (ae 5) ag)))) ag))))))) (af (ax (i:=2) sc.nd (by rfl) (f_ rfl) (by rfl) (aB (ay qX (by rfl) TX.sorted (by rfl') (ab (ae 2) ag)))) (af (ax (i:=6) sc.nd (by rfl) (f_ rfl) (by rfl) ge_int) (af (ax (i:=7) sc.nd (by rfl) (f_ rfl) (by rfl) (aB (ge_if (cL (ae 2)) (aA hr (aA hr (ae 2) ge_int) ge_int) ge_int))) (af (bA Rk (by rfl) (aR (bc 2)) (cF (n:=2) (by rfl) (aC (ak (i:=4) sc.nd (by rfl) (f_ rfl) (by rfl)) (aC (ak (i:=5) sc.nd (by rfl) (f_ rfl) (by rfl)) bU))) (ai (bj (ck (aT xX (ae 5) (ae 7) (aK _))) (af (Bn (i:=6) sc.nd (by rfl) (f_ rfl) (by rfl) (aB (aj bP (ae 5) (ay (dP rfl) (by rfl) TX.max (by rfl') (ab (ae 4) (ab (ae 7) ag))))) A0) (ai (ax (i:=7) sc.nd (by rfl) (f_ rfl) (by rfl) (bc 5)))) aH))) (ai (aG (qt 6))))))))),fun ts kk hl hp=>?_⟩;clear hl;obtain⟨o,os,m,rfl,hz,q⟩:=hp;nofun;refine aU (fun i env=>∃z3 z4 z5,env=[.lst false (os.map ocT),.int m,.lst true ((spn (os.take i) m).map ptP),z3,z4,z5,.any,.any]) ⟨_,_,_,rfl⟩ ?_ ?_
 ·rintro i t _ ⟨z3,z4,z5,rfl⟩ ei;obtain⟨x,ex,rfl⟩:=aM ei;have hi:=(c_.mp ex).1;have ll:(spn (os.take i) m).length<=i:=by unfold spn;rw[a_,C'];lia
  nofun;exact⟨c4 _,c4 _,c4 _,c4 _,c4 _,c4 _,by lia,_,_,_,by rw[Ba ex,q_];rfl⟩
 rintro _ ⟨z3,z4,z5,rfl⟩;rw[a_,w_];nofun;obtain⟨U,pU,eU,sU⟩:=Ez (os:=os) (m:=m);rw[eU];have hq:∀z,kk _ _:=fun z=>q U z pU sU;clear q;have ln:(spn U m).length=os.length:=by unfold spn;rw[a_,pU.length_eq]
 generalize spn U m=sp at *;cases sp with
 |nil=>
  refine o9 (fun _=>?_) (fun h=>by cases h);nofun;refine aU (fun i env=>env=[.lst false (os.map ocT),.int m,.lst false [],z3,z4,z5,.int 0,.int 0]) rfl (fun i t env _ e=>by cases e) ?_;rintro _ rfl;nofun;exact hq _
 |cons p r=>
  refine o9 (fun h=>by cases h) (fun _=>?_);nofun;have el:ptP p::LO (fun x=>ptP x) r=(p::r).map ptP:=rfl;rw[el];have e0:wX (p::r)=p.1:=rfl;rw[e0]at hq;generalize p.1=t0 at *;generalize p::r=sp at *;refine aU (fun i env=>∃(a t:Int) (z4 z5:T),a+sw t (sp.drop i)=sw t0 sp/\env=[.lst false (os.map ocT),.int m,.lst false (sp.map ptP),z3,z4,z5,.int a,.int t]) ⟨0,t0,_,_,by rw[ND];lia,rfl⟩ ?_ ?_
  ·rintro i t _ ⟨a,t,z4,z5,ha,rfl⟩ ei;obtain⟨x,ex,rfl⟩:=aM ei;have hi:=(c_.mp ex).1;have ed:sp.drop i=x::sp.drop (i+1):=by rw[NS hi];congr 1;exact(c_.mp ex).2
   rw[ed,sw]at ha;nofun;refine aY (fun g=>?_) (fun g=>?_)
   ·rw[if_pos g]at ha;nofun;exact⟨_,_,_,_,by rw[<-ha];lia,rfl⟩
   rw[if_neg g]at ha;nofun;exact⟨_,_,_,_,ha,rfl⟩
  rintro _ ⟨a,t,z4,z5,ha,rfl⟩;rw[a_,List.drop_length]at ha;have ha:a+0=_:=ha;rw[NZ]at ha;subst ha;nofun;exact hq _
end
def rD:FP:=fun ts k=>∃(o:Bool) (os:List Oc) (B:Nat),ts=[.lst o (os.map ocT)]/\jj B os/\∀z:T,k (.int (Ar B os/2)) [z]
section
variable{P:Q5}{w:Q8}{K:QT}{mg:Str->Option QR}{base:Q_}
theorem qI:FnScope ["octos","waiting","sides","there","doubled","left","right"] ["octos"] (av nF):=⟨rfl,rfl,rfl,by rfl',rfl,by rfl',by rfl'⟩
theorem wD(F:Fun K "area_of" "area_of" nF f fd)(TX:Txt mg)  (G_strip_sides:Cal P w K mg base 2 "strip_sides" ["octos"] (aL K 1 jR))(G_length_along:Cal P w K mg base 1 "length_along" ["octos","middle"] (aL K 2 jm)):FnOk P w K mg base CX0 3 f fd ["octos"] (aL K 1 rD):=by
 refine bN F qI [true] rfl (fun cdv A outer s H E hr=>?_);have sc:=@qI;have nd1:(["octo"]:List Str).Nodup:=by rfl'
 have nd2:(["octo","right"]:List Str).Nodup:=by rfl'
 refine⟨_,(af (ax (i:=1) sc.nd (by rfl) (f_ rfl) (by rfl) (aB (uJ (by rfl) TX.sorted (bu sc ["octo"] [none] nd1 (by rfl') (aR (ae 0)) (fun _ _ _=>(ak (i:=0) nd1 (by rfl) (f_ rfl) (by rfl) (hf:=(v_ rfl)))) (fun _ _ _=>bo) (fun _ _ _=>(cB cE (by rfl) TX.tuple (by rfl') (ab (ae 0) ag))))))) (af (ax (i:=2) sc.nd (by rfl) (f_ rfl) (by rfl) (aB (au G_strip_sides hr (by rfl) (ah (ae 1) aq)))) (af (ax (i:=3) sc.nd (by rfl) (f_ rfl) (by rfl) (aB (ba ag))) (af (ax (i:=4) sc.nd (by rfl) (f_ rfl) (by rfl) ge_int) (af (bA Rk (by rfl) (xN (by rfl) TX.zip (ab (bc 2) (ab (aB (C2 (ae 2) (Fo ge_int) FE)) ag))) (cF (n:=2) (by rfl) (aC (ak (i:=5) sc.nd (by rfl) (f_ rfl) (by rfl)) (aC (ak (i:=6) sc.nd (by rfl) (v_ rfl) (by rfl)) bU))) (dN (DG Rk (ck (vL (qE (cL (ae 1)) (mS (aT jo (aj aS ge_int (aA hr (aA hr (ae 1) (cm ge_int)) ge_int)) (ae 5) (aK _)))))) (ai (bK (bO 3 Rt Ru bq (ab (Cm 1 PySem.F.slot_list_pop PySem.F.type_list_pop EK) ag))))) (af (qa sc (i:=3) ["octo","right"] [none,some 6] nd2 (by rfl') (by rfl) (f_ rfl) (by rfl) (aR (ae 3)) (fun _ _ _=>(ak (i:=0) nd2 (by rfl) (f_ rfl) (by rfl) (hf:=(v_ rfl)))) (fun _ _ _=>(zB (aT GQ (aj aS ge_int (aA hr (ae 0) ge_int)) (ae 1) (aK _)))) (fun _ _ _=>(ae 0)) (by rfl)) (ai (Bn (i:=4) sc.nd (by rfl) (f_ rfl) (by rfl) (aB (aj aS (aj bP (ae 6) (ae 5)) (au G_length_along hr (by rfl) (ah (ae 3) (ah (aj az (ae 5) (ae 6)) aq))))) A0))))) (ai (aG (aB (aj DV (ae 4) ge_int))))))))),fun ts kk hl hp=>?_⟩;clear hl;obtain⟨o,os,B,rfl,hs,q⟩:=hp;nofun;have hlen:=hs.1;refine aP (by rw[a_,sizeLine_eq];lia) (fun j acc ie=>∃z1,acc=(os.take j).map ocT/\ie=[z1]) ⟨_,rfl,rfl⟩ ?_ ?_
 ·rintro j t _ _ ⟨z1,rfl,rfl⟩ ei;obtain⟨x,ex,rfl⟩:=aM ei;nofun;exact⟨_,by rw[map_take ex],rfl⟩
 rintro _ _ ⟨z1,rfl,rfl⟩;rw[a_,w_];nofun;refine aZ (oH ocT ocL Hm (fun x=>NM _ _) os) ?_;intro ls pl sl;obtain⟨ws,pw,rfl⟩:=ql pl rfl;have dn:=Fj sl;have hw:jj B ws:=Dn (by rw[pw.length_eq];exact b_ _) (fun x m=>pw.mem_iff.mp m) hs;have hA:Ar B ws=Ar B os:=IE fun x=>pw.mem_iff;rw[<-hA]at q;clear hA pl sl;have el:(ws.map ocL).map iT=ws.map ocT:=by rw[z_];rfl
 rw[el];nofun;refine⟨false,ws,B,rfl,hw,fun S hS=>?_⟩;nofun;rw[Li (ts:=LO (fun x=>T.int x) S)];refine⟨by rw[<-PD,bM];exact Nh.mpr fun _ _=>rfl,?_⟩;rw[Be];refine aU (fun i env=>∃(V th:List Oc) (D:Int) (z5 z6:T),AJ B ws S i V th D/\env=[.lst o (os.map ocT),.lst true (V.map ocT),.lst false (S.map T.int),.lst true (th.map ocT),.int D,z5,z6]) ⟨ws,[],0,_,_,LK dn,rfl⟩ ?_ ?_
 ·rintro i t _ ⟨V,th,D,z5,z6,J,rfl⟩ ei;obtain⟨⟨l,r⟩,ex,rfl⟩:=aM ei;obtain⟨sl,sr⟩:=HQ ex;have J':=J.2 l sl;nofun;refine gp (fun env=>∃(V th:List Oc),AK ws l V th/\(∀x∈V,l<2*x.a)/\env=[.lst o (os.map ocT),.lst true (V.map ocT),.lst false (S.map T.int),.lst true (th.map ocT),.int D,.int l,.int r]) ?_ ?_
  ·nofun;refine AU (fun m env=>∃(V th:List Oc),m=V.length/\AK ws l V th/\env=[.lst o (os.map ocT),.lst true (V.map ocT),.lst false (S.map T.int),.lst true (th.map ocT),.int D,.int l,.int r]) V.length ⟨V,th,rfl,J'.1,rfl⟩ ?_;rintro m _ ⟨V,th,rfl,K',rfl⟩;nofun;rcases List.eq_nil_or_concat V with rfl|⟨V',x,rfl⟩
   ·refine o9 (fun _=>?_) (fun h=>by cases h);nofun;exact⟨[],th,K',(fun x m=>by cases m),rfl⟩
   have lc:=PZ (as:=V') (a:=x);refine o9 (fun h=>?_) (fun _=>?_)
   ·rw[Qi,Nm]at h;rw[h]at lc;cases lc
   nofun;refine aZ (Fp V' x) ?_;nofun;refine⟨c2 _,aY (fun g=>?_) (fun g=>?_)⟩
   ·nofun;refine aZ (vN V' x).1 ?_;rw[(vN V' x).2];nofun;have:=K'.2.2.2.2;have:=hw.1;refine⟨by lia,V'.length,by lia,V',th++[x],rfl,Io K' g,by rw[q_];rfl⟩
   nofun;refine⟨V'.concat x,th,K',fun y m=>?_,rfl⟩;rw[M8]at m;have:=K'.1;rw[M8,D_]at this;rcases x_.mp m with m|m
   ·have:=this.2.2 y m x u_;lia
   rw[A_.mp m];lia
  have J0:=J'.2;clear J' z5 z6 V th J;rintro _ ⟨V,th,K',hV,rfl⟩;nofun;have tl:=K'.2.2.2.2;have wl:=hw.1;refine aP (by rw[a_,sizeLine_eq];lia) (fun j acc ie=>∃z1,acc=((th.take j).filter fun x=>decide (r<=2*x.b)).map ocT/\ie=[z1,.int r]) ⟨_,rfl,rfl⟩ ?_ ?_
  ·rintro j t _ _ ⟨z1,rfl,rfl⟩ ej;obtain⟨x,ex,rfl⟩:=aM ej;nofun;rw[nQ ex];refine⟨c2 _,aY (fun g=>?_) (fun g=>?_)⟩
   ·nofun;exact⟨_,by rw[if_pos g],rfl⟩
   nofun;exact⟨_,by rw[if_neg g,I_],rfl⟩
  rintro _ _ ⟨z1,rfl,rfl⟩;rw[a_,w_];nofun;have fl:=MC (fun x:Oc=>decide (r<=2*x.b)) th;refine⟨false,_,l+r,rfl,by lia,fun U z pU sU=>?_⟩;nofun;have lr:=Bs hw hS sl sr;exact⟨.inl ⟨by lia,by lia⟩,V,_,_,_,_,E2 hw hS sl sr J0 K' hV pU sU,rfl⟩
 rintro _ ⟨V,th,D,z5,z6,J,rfl⟩;nofun;refine⟨⟨by decide,by decide⟩,?_⟩;rw[Iw hw hS J];exact q _
end
def rO:FP:=fun ts k=>∃(p:Pt) (d:Nat) (m:Int),ts=[ptP p,.int d,.int m]/\d<8/\k (ptP (vx p d m)) ts
section
variable{P:Q5}{w:Q8}{K:QT}{mg:Str->Option QR}{base:Q_}
theorem pN:FnScope ["corner","direction","many","step"] ["corner","direction","many"] (av nu):=⟨rfl,rfl,rfl,by rfl',rfl,by rfl',by rfl'⟩
theorem xP(F:Fun K "stepped" "stepped" nu f fd)(TX:Txt mg)(C_STEPS:Glb K mg "STEPS" tY) :FnOk P w K mg base CX0 1 f fd ["corner","direction","many"] (aL K 3 rO):=by refine bN F pN [true,true,true] rfl (fun cdv A outer s H E hr=>?_);have sc:=@pN;refine⟨_,(af (ax (i:=3) sc.nd (by rfl) (f_ rfl) (by rfl) (aB (aA hr (Jw C_STEPS (by rfl)) (ae 1)))) (ai (aG (aB (aF (ab (aj az (aA hr (ae 0) ge_int) (aj aS (aA hr (ae 3) ge_int) (ae 2))) (ab (aj az (aA hr (ae 0) ge_int) (aj aS (aA hr (ae 3) ge_int) (ae 2))) ag))))))),fun ts kk hl hp=>?_⟩;clear hl;obtain⟨p,d,m,rfl,hd,q⟩:=hp;nofun;refine aZ (D8 hd) ?_;have:=AH d hd;nofun;exact⟨.inl (by lia),.inl (by lia),q⟩
end
def qU:FP:=fun ts k=>∃(p q:Pt),ts=[ptP p,ptP q]/\k (zP p q) ts
section
variable{P:Q5}{w:Q8}{K:QT}{mg:Str->Option QR}{base:Q_}
theorem oG:FnScope ["one","other","many","direction"] ["one","other"] (av jV):=⟨rfl,rfl,rfl,by rfl',rfl,by rfl',by rfl'⟩
theorem wz(F:Fun K "straight" "straight" jV f fd)(TX:Txt mg)(C_STEPS:Glb K mg "STEPS" tY)(G_stepped:Cal P w K mg base 1 "stepped" ["corner","direction","many"] (aL K 3 rO)):FnOk P w K mg base CX0 2 f fd ["one","other"] (aL K 2 qU):=by
 refine bN F oG [true,true] rfl (fun cdv A outer s H E hr=>?_);have sc:=@oG;refine⟨_,(af (ax (i:=2) sc.nd (by rfl) (f_ rfl) (by rfl) (aB (ay (dP rfl) (by rfl) TX.max (by rfl') (ab (ay jx (by rfl) TX.abs (by rfl') (ab (aj bP (aA hr (ae 1) ge_int) (aA hr (ae 0) ge_int)) ag)) (ab (ay jx (by rfl) TX.abs (by rfl') (ab (aj bP (aA hr (ae 1) ge_int) (aA hr (ae 0) ge_int)) ag)) ag))))) (af (bj (ck (aT (bF hr) (ae 2) ge_int (aK _))) (ai (aG nZ)) aH) (af (bA Rk (by rfl) (dO (by rfl) TX.range (ab (aB (ay bD (by rfl) TX.len (by rfl') (ab (Jw C_STEPS (by rfl)) ag))) ag)) (ak (i:=3) sc.nd (by rfl) (f_ rfl) (by rfl)) (ai (bj (ck (aT (bF hr) (au G_stepped hr (by rfl) (ah (ae 0) (ah (ae 3) (ah (ae 2) aq)))) (cB cE (by rfl) TX.tuple (by rfl') (ab (ae 1) ag)) (aK _))) (ai (aG (aB (aF (ab (ae 3) (ab (ae 2) ag)))))) aH))) (ai (aG nZ))))),fun ts kk hl hp=>?_⟩;clear hl;obtain⟨a,b,rfl,q⟩:=hp;unfold zP lead far at q;nofun;refine aY (fun h=>?_) (fun h=>?_)
 ·nofun;rw[if_pos h]at q;exact q
 nofun;rw[if_neg h]at q;refine⟨by decide,aU (fun i env=>(∀j,j<i->vx a j (far a b)≠b)/\∃z,env=[ptP a,ptP b,.int (far a b),z]) ⟨fun j hj=>by lia,_,rfl⟩ ?_ ?_⟩
 ·rintro i t _ ⟨hb,z,rfl⟩ ei;have hi:i<8:=fR ei;have et:=pH ei;subst et;nofun;refine⟨a,i,far a b,by rw[N0],hi,?_⟩;nofun;refine aY (fun h2=>?_) (fun h2=>?_)
  ·nofun;have ef:(B' 8).find? (fun d=>decide (vx a d (far a b)=b))=some i:=by rw[List.find?_range_eq_some];exact⟨decide_eq_true h2,LP.mpr hi,fun j hj=>by rw[decide_eq_false (hb j hj)];rfl⟩
   unfold far at ef ⊢;rw[ef]at q;rw[N0];exact q
  nofun;refine⟨fun j hj=>?_,_,rfl⟩;rcases O0.mp hj with hj|rfl
  ·exact hb j hj
  exact h2
 rintro _ ⟨hb,z,rfl⟩;nofun;have ef:(B' 8).find? (fun d=>decide (vx a d (far a b)=b))=none:=by rw[List.find?_range_eq_none];intro j hj;rw[decide_eq_false (hb j (by rw[cO];exact hj))];rfl
 unfold far at ef;rw[ef]at q;exact q
end
def nR:FP:=fun ts k=>∃(o:Bool) (ps:List Pt),ts=[.lst o (ps.map ptP)]/\ps≠[]/\ps.length<sizeLine/\∀oc,CA ps oc->k (ocT oc) ts
section
variable{P:Q5}{w:Q8}{K:QT}{mg:Str->Option QR}{base:Q_}
theorem pG:FnScope ["corners","bounds","numbers"] ["corners"] (av og):=⟨rfl,rfl,rfl,by rfl',rfl,by rfl',by rfl'⟩
theorem wK(F:Fun K "octo_of" "octo_of" og f fd)(TX:Txt mg)  :FnOk P w K mg base CX0 1 f fd ["corners"] (aL K 1 nR):=by
 refine bN F pG [true] rfl (fun cdv A outer s H E hr=>?_);have sc:=@pG;have nd1:(["corner"]:List Str).Nodup:=by rfl'
 have nd2:(["corner"]:List Str).Nodup:=by rfl'
 have nd3:(["corner"]:List Str).Nodup:=by rfl'
 have nd4:(["corner"]:List Str).Nodup:=by rfl'
 refine⟨_,(af (ax (i:=1) sc.nd (by rfl) (f_ rfl) (by rfl) (aB (ba ag))) (af (bA Rk (by rfl) (aR (aF (ab (aB (bu sc ["corner"] [none] nd4 (by rfl') (aR (ae 0)) (fun _ _ _=>(ak (i:=0) nd4 (by rfl) (f_ rfl) (by rfl) (hf:=(v_ rfl)))) (fun _ _ _=>bo) (fun _ _ _=>(aA hr (ae 0) ge_int)))) (ab (aB (bu sc ["corner"] [none] nd3 (by rfl') (aR (ae 0)) (fun _ _ _=>(ak (i:=0) nd3 (by rfl) (f_ rfl) (by rfl) (hf:=(v_ rfl)))) (fun _ _ _=>bo) (fun _ _ _=>(aA hr (ae 0) ge_int)))) (ab (aB (bu sc ["corner"] [none] nd2 (by rfl') (aR (ae 0)) (fun _ _ _=>(ak (i:=0) nd2 (by rfl) (f_ rfl) (by rfl) (hf:=(v_ rfl)))) (fun _ _ _=>bo) (fun _ _ _=>(aj az (aA hr (ae 0) ge_int) (aA hr (ae 0) ge_int))))) (ab (aB (bu sc ["corner"] [none] nd1 (by rfl') (aR (ae 0)) (fun _ _ _=>(ak (i:=0) nd1 (by rfl) (f_ rfl) (by rfl) (hf:=(v_ rfl)))) (fun _ _ _=>bo) (fun _ _ _=>(aj bP (aA hr (ae 0) ge_int) (aA hr (ae 0) ge_int))))) ag)))))) (ak (i:=2) sc.nd (by rfl) (f_ rfl) (by rfl)) (af (bK (bO 1 Rt Ru bq (ab (aB (ay (jG rfl) (by rfl) TX.min (by rfl') (ab (ae 2) ag))) ag))) (ai (bK (bO 1 Rt Ru bq (ab (aB (ay (dP rfl) (by rfl) TX.max (by rfl') (ab (ae 2) ag))) ag)))))) (ai (aG (aB (cB cE (by rfl) TX.tuple (by rfl') (ab (ae 1) ag))))))),fun ts kk hl hp=>?_⟩;clear hl;obtain⟨o,ps,rfl,hne,hz,q⟩:=hp;have hne':∀j,ps.map (gO j)≠[]:=fun j z=>hne (Nm.mp z);nofun;refine aP (by rw[a_];exact hz) (fun i acc ie=>∃z,acc=(ps.take i).map (fun p=>T.int (gO 0 p))/\ie=[z]) ⟨_,rfl,rfl⟩ ?_ ?_
 ·rintro i u _ _ ⟨z,rfl,rfl⟩ eu;obtain⟨p,ep,rfl⟩:=aM eu;nofun;exact⟨_,by rw[map_take ep];rfl,rfl⟩
 rintro _ _ ⟨z,rfl,rfl⟩;rw[a_,w_];nofun;refine aP (by rw[a_];exact hz) (fun i acc ie=>∃z,acc=(ps.take i).map (fun p=>T.int (gO 1 p))/\ie=[z]) ⟨_,rfl,rfl⟩ ?_ ?_
 ·rintro i u _ _ ⟨z,rfl,rfl⟩ eu;obtain⟨p,ep,rfl⟩:=aM eu;nofun;exact⟨_,by rw[map_take ep];rfl,rfl⟩
 rintro _ _ ⟨z,rfl,rfl⟩;rw[a_,w_];nofun;refine aP (by rw[a_];exact hz) (fun i acc ie=>∃z,acc=(ps.take i).map (fun p=>T.int (gO 2 p))/\ie=[z]) ⟨_,rfl,rfl⟩ ?_ ?_
 ·rintro i u _ _ ⟨z,rfl,rfl⟩ eu;obtain⟨p,ep,rfl⟩:=aM eu;nofun;exact⟨_,by rw[map_take ep];rfl,rfl⟩
 rintro _ _ ⟨z,rfl,rfl⟩;rw[a_,w_];nofun;refine aP (by rw[a_];exact hz) (fun i acc ie=>∃z,acc=(ps.take i).map (fun p=>T.int (gO 3 p))/\ie=[z]) ⟨_,rfl,rfl⟩ ?_ ?_
 ·rintro i u _ _ ⟨z,rfl,rfl⟩ eu;obtain⟨p,ep,rfl⟩:=aM eu;nofun;exact⟨_,by rw[map_take ep];rfl,rfl⟩
 rintro _ _ ⟨z,rfl,rfl⟩;rw[a_,w_];nofun;have eL:[T.lst false (LO (fun p=>T.int (gO 0 p)) ps),T.lst false (LO (fun p=>T.int (gO 1 p)) ps),T.lst false (LO (fun p=>T.int (gO 2 p)) ps),T.lst false (LO (fun p=>T.int (gO 3 p)) ps)]=(B' 4).map fun j=>T.lst false (LO (fun p=>T.int (gO j p)) ps):=rfl;rw[eL];refine aU (fun i env=>∃(f:Nat->Int×Int) (z:T),(∀j,j<i->iO (ps.map (gO j)) (f j).1/\iL (ps.map (gO j)) (f j).2)/\env=[.lst o (ps.map ptP),.lst true ((B' i).flatMap fun j=>[.int (f j).1,.int (f j).2]),z]) ⟨fun _=>(0,0),_,fun j hj=>by lia,rfl⟩ ?_ ?_
 ·rintro i t _ ⟨f,z,hf,rfl⟩ ei;obtain⟨j,ej,rfl⟩:=aM ei;have hi:i<4:=by have:=(c_.mp ej).1;rwa[Mo]at this
  rw[OA hi]at ej;cases ej;have ll:∀n,((B' n).flatMap fun j=>[T.int (f j).1,T.int (f j).2]).length=2*n:=fun n=>by
   induction n with
   |zero=>rfl
   |succ n ih=>rw[NU,NP,e_,ih];rfl
  nofun;refine⟨hne' i,fun m hm=>⟨by rw[ll];lia,hne' i,fun M hM=>⟨by rw[e_,ll];show 2*i+1<_;lia,fun j=>if j=i then(m,M)else f j,.lst false (ps.map fun p=>T.int (gO i p)),fun j hj=>?_,by rw[DB]⟩⟩⟩;show iO _ (if j=i then(m,M)else f j).1/\iL _ (if j=i then(m,M)else f j).2;by_cases e:j=i
  ·rw[if_pos e,e];exact⟨hm,hM⟩
  rw[if_neg e];exact hf j (by lia)
 rintro _ ⟨f,z,hf,rfl⟩;have e4:(B' (LO (fun j=>T.lst false (LO (fun p=>T.int (gO j p)) ps)) (B' 4)).length).flatMap (fun j=>[T.int (f j).1,T.int (f j).2])=[T.int (f 0).1,T.int (f 0).2,T.int (f 1).1,T.int (f 1).2,T.int (f 2).1,T.int (f 2).2,T.int (f 3).1,T.int (f 3).2]:=by rw[a_];rfl
 rw[e4];rw[a_]at hf;have f0:=hf 0 (by decide);have f1:=hf 1 (by decide);have f2:=hf 2 (by decide);have f3:=hf 3 (by decide);nofun;exact q ⟨(f 0).1,(f 0).2,(f 1).1,(f 1).2,(f 2).1,(f 2).2,(f 3).1,(f 3).2⟩ ⟨⟨f0,f1⟩,f2,f3⟩
end
def sZ:FP:=fun ts k=>∃o q,ts=[ocT o,ocT q]/\k (ocT (BH o q)) ts
section
variable{P:Q5}{w:Q8}{K:QT}{mg:Str->Option QR}{base:Q_}
theorem vS:FnScope ["one","other"] ["one","other"] (av tU):=⟨rfl,rfl,rfl,by rfl',rfl,by rfl',by rfl'⟩
theorem CC(F:Fun K "added" "added" tU f fd)(TX:Txt mg)  :FnOk P w K mg base CX0 1 f fd ["one","other"] (aL K 2 sZ):=by
 refine bN F vS [true,true] rfl (fun cdv A outer s H E hr=>?_);have sc:=@vS;have nd1:(["bound","more"]:List Str).Nodup:=by rfl'
 refine⟨_,(ai (aG (aB (cB cE (by rfl) TX.tuple (by rfl') (ab (bu sc ["bound","more"] [none,none] nd1 (by rfl') (xN (by rfl) TX.zip (ab (ae 0) (ab (ae 1) ag))) (fun _ _ _=>(cF (n:=2) (by rfl) (aC (ak (i:=0) nd1 (by rfl) (f_ rfl) (by rfl) (hf:=(v_ rfl))) (aC (ak (i:=1) nd1 (by rfl) (f_ rfl) (by rfl) (hf:=(v_ rfl))) bU)))) (fun _ _ _=>bo) (fun _ _ _=>(aj az (ae 0) (ae 1)))) ag))))),fun ts kk hl hp=>?_⟩;clear hl;obtain⟨o,q',rfl,q⟩:=hp;have e1:∀o:Oc,ocT o=.tup ((ocL o).map T.int):=fun o=>rfl;rw[e1,e1];nofun;have ez:(LO (fun p=>T.tup [p.1,p.2]) ((LO (fun x=>T.int x) (ocL o)).zip (LO (fun x=>T.int x) (ocL q'))))=((ocL o).zip (ocL q')).map fun p=>T.tup [.int p.1,.int p.2]:=by rw[QE,z_];rfl
 rw[ez];refine aP (by rw[a_];show 8<sizeLine;decide) (fun i acc ie=>∃z1 z2,acc=(((ocL o).zip (ocL q')).take i).map (fun p=>T.int (p.1+p.2))/\ie=[z1,z2]) ⟨_,_,rfl,rfl⟩ ?_ ?_
 ·rintro i u _ _ ⟨z1,z2,rfl,rfl⟩ eu;obtain⟨p,ep,rfl⟩:=aM eu;nofun;exact⟨_,_,by rw[map_take ep],rfl⟩
 rintro _ _ ⟨z1,z2,rfl,rfl⟩;rw[a_,w_];nofun;exact q
end
def yT:FP:=fun ts k=>∃o p,ts=[ocT o,ptP p]/\k (ocT (BH o (oc1 p))) ts
section
variable{P:Q5}{w:Q8}{K:QT}{mg:Str->Option QR}{base:Q_}
theorem vb:FnScope ["octo","corner"] ["octo","corner"] (av uL):=⟨rfl,rfl,rfl,by rfl',rfl,by rfl',by rfl'⟩
theorem B9(F:Fun K "moved" "moved" uL f fd)(TX:Txt mg)  (G_octo_of:Cal P w K mg base 1 "octo_of" ["corners"] (aL K 1 nR))(G_added:Cal P w K mg base 1 "added" ["one","other"] (aL K 2 sZ)):FnOk P w K mg base CX0 2 f fd ["octo","corner"] (aL K 2 yT):=by refine bN F vb [true,true] rfl (fun cdv A outer s H E hr=>?_);have sc:=@vb;refine⟨_,(ai (aG (aB (au G_added hr (by rfl) (ah (ae 0) (ah (au G_octo_of hr (by rfl) (ah (ba (ab (ae 1) ag)) aq)) aq)))))),fun ts kk hl hp=>?_⟩;clear hl;obtain⟨o,p,rfl,q⟩:=hp;nofun;refine⟨true,[p],rfl,(fun z=>nomatch z),by show 1<sizeLine;decide,fun oc h=>?_⟩;rw[JC h];nofun;refine⟨o,oc1 p,rfl,?_⟩;nofun;exact q
end
def sF:FP:=fun ts k=>∃(t:Tl) (p:Pt),ts=[tvT t,ptP p]/\k (ocT (mkO t.1 t.2.1 p)) ts
section
variable{P:Q5}{w:Q8}{K:QT}{mg:Str->Option QR}{base:Q_}
theorem qT:FnScope ["tool","corner","r","both"] ["tool","corner"] (av nz):=⟨rfl,rfl,rfl,by rfl',rfl,by rfl',by rfl'⟩
theorem wC(F:Fun K "mark_of" "mark_of" nz f fd)(TX:Txt mg)  (G_moved:Cal P w K mg base 2 "moved" ["octo","corner"] (aL K 2 yT)):FnOk P w K mg base CX0 3 f fd ["tool","corner"] (aL K 2 sF):=by refine bN F qT [true,true] rfl (fun cdv A outer s H E hr=>?_);have sc:=@qT;refine⟨_,(af (ax (i:=2) sc.nd (by rfl) (f_ rfl) (by rfl) (aB (aA hr (ae 0) ge_int))) (af (ax (i:=3) sc.nd (by rfl) (f_ rfl) (by rfl) (aB (aj az (aA hr (ae 0) ge_int) (aA hr (ae 0) ge_int)))) (ai (aG (aB (au G_moved hr (by rfl) (ah (aF (ab (cm (ae 2)) (ab (ae 2) (ab (cm (ae 2)) (ab (ae 2) (ab (cm (ae 3)) (ab (ae 3) (ab (cm (ae 3)) (ab (ae 3) ag))))))))) (ah (ae 1) aq)))))))),fun ts kk hl hp=>?_⟩;clear hl;obtain⟨t,p,rfl,q⟩:=hp;nofun;refine⟨⟨-t.1,t.1,-t.1,t.1,-(t.1+t.2.1),t.1+t.2.1,-(t.1+t.2.1),t.1+t.2.1⟩,p,rfl,?_⟩;nofun;exact q
end
def yU:FP:=fun ts k=>∃(t:Tl) (p q:Pt),ts=[tvT t,ptP p,ptP q]/\k (ocT (swO t.1 t.2.1 p q)) ts
section
variable{P:Q5}{w:Q8}{K:QT}{mg:Str->Option QR}{base:Q_}
theorem vD:FnScope ["tool","one","other"] ["tool","one","other"] (av ui):=⟨rfl,rfl,rfl,by rfl',rfl,by rfl',by rfl'⟩
theorem BB(F:Fun K "swept" "swept" ui f fd)(TX:Txt mg)  (G_octo_of:Cal P w K mg base 1 "octo_of" ["corners"] (aL K 1 nR))(G_added:Cal P w K mg base 1 "added" ["one","other"] (aL K 2 sZ))(G_mark_of:Cal P w K mg base 3 "mark_of" ["tool","corner"] (aL K 2 sF)):FnOk P w K mg base CX0 4 f fd ["tool","one","other"] (aL K 3 yU):=by refine bN F vD [true,true,true] rfl (fun cdv A outer s H E hr=>?_);have sc:=@vD;refine⟨_,(ai (aG (aB (au G_added hr (by rfl) (ah (au G_mark_of hr (by rfl) (ah (ae 0) (ah (aF (ab ge_int (ab ge_int ag))) aq))) (ah (au G_octo_of hr (by rfl) (ah (ba (ab (ae 1) (ab (ae 2) ag))) aq)) aq)))))),fun ts kk hl hp=>?_⟩;clear hl;obtain⟨t,p,q',rfl,q⟩:=hp;nofun;refine⟨t,(0,0),rfl,?_⟩;nofun;refine⟨true,[p,q'],rfl,(fun z=>nomatch z),by show 2<sizeLine;decide,fun oc h=>?_⟩;rw[K9 h];nofun;refine⟨mkO t.1 t.2.1 (0,0),oc2 p q',rfl,?_⟩;nofun;exact q
end
def rQ:FP:=fun ts k=>∃(w:Ed) (c:Pt),ts=[edT w,ptP c]/\k (.bl (gOn w c)) ts
section
variable{P:Q5}{w:Q8}{K:QT}{mg:Str->Option QR}{base:Q_}
theorem pI:FnScope ["way","corner","ahead","whole"] ["way","corner"] (av nP):=⟨rfl,rfl,rfl,by rfl',rfl,by rfl',by rfl'⟩
theorem xq(F:Fun K "goes_on" "goes_on" nP f fd)(TX:Txt mg)  (G_straight:Cal P w K mg base 2 "straight" ["one","other"] (aL K 2 qU)):FnOk P w K mg base CX0 3 f fd ["way","corner"] (aL K 2 rQ):=by
 refine bN F pI [true,true] rfl (fun cdv A outer s H E hr=>?_);have sc:=@pI;refine⟨_,(af (bj (ck (aT (bF hr) (ae 1) (aA hr (ae 0) ge_int) (aK _))) (ai (aG cG)) aH) (af (ax (i:=2) sc.nd (by rfl) (f_ rfl) (by rfl) (aB (au G_straight hr (by rfl) (ah (aA hr (ae 0) ge_int) (ah (aA hr (ae 0) ge_int) aq))))) (af (ax (i:=3) sc.nd (by rfl) (f_ rfl) (by rfl) (aB (au G_straight hr (by rfl) (ah (aA hr (ae 0) ge_int) (ah (ae 1) aq))))) (af (bj (ck (aT tD (ae 3) nZ (aK _))) (ai (aG cG)) aH) (ai (aG (aB (ge_if (aT tD (ae 2) nZ (aK _)) (t9 (bF hr) (aA hr (ae 3) ge_int) ge_int (aK _)) (t9 (bF hr) (ae 3) (aF (ab (aA hr (ae 2) ge_int) (ab (aj az (aA hr (ae 2) ge_int) ge_int) ag))) (aK _)))))))))),fun ts kk hl hp=>?_⟩;clear hl;obtain⟨w,c,rfl,q⟩:=hp;nofun;refine aY (fun h=>?_) (fun h=>?_)
 ·nofun;have:gOn w c=true:=by unfold gOn;rw[if_pos h]
  rw[this]at q;exact q
 have g:=BC h;nofun;refine⟨_,_,rfl,?_⟩;nofun;refine⟨by unfold zP;cases lead w.1 w.2 <;> rfl,_,_,rfl,?_⟩;nofun;unfold zP;cases e1:lead w.1 c with
 |none=>
  rw[e1]at g;nofun;rw[g]at q;exact q
 |some d=>
  rw[e1]at g;cases e2:lead w.1 w.2 with
  |none=>
   rw[e2]at g;nofun;rw[g]at q;exact q
  |some d'=>
   rw[e2]at g;nofun;rw[g]at q;have e:decide ((d:Int)=(d':Int)/\far w.1 c=far w.1 w.2+1)=decide (d=d'/\far w.1 c=far w.1 w.2+1):=decide_eq_decide.mpr (and_congr_left fun _=>by lia);rw[e];exact q
end
def rG:FP:=fun ts k=>∃(l:Int) (ps:List (Pt×Int)),ts=[.tup (ps.map plT),.int l]/\ps.length<=400/\∀z,k (.lst true ((wys l ps ([],false)).1.reverse.map edT)) [z,.int l]
section
variable{P:Q5}{w:Q8}{K:QT}{mg:Str->Option QR}{base:Q_}
theorem qm:FnScope ["places","layer","ways","is_in","x","y","z"] ["places","layer"] (av nB):=⟨rfl,rfl,rfl,by rfl',rfl,by rfl',by rfl'⟩
theorem xm(F:Fun K "ways_at" "ways_at" nB f fd)(TX:Txt mg)  (G_goes_on:Cal P w K mg base 3 "goes_on" ["way","corner"] (aL K 2 rQ)):FnOk P w K mg base CX0 4 f fd ["places","layer"] (aL K 2 rG):=by
 refine bN F qm [true,true] rfl (fun cdv A outer s H E hr=>?_);have sc:=@qm;refine⟨_,(af (ax (i:=2) sc.nd (by rfl) (f_ rfl) (by rfl) (aB (ba ag))) (af (ax (i:=3) sc.nd (by rfl) (f_ rfl) (by rfl) cG) (af (bA Rk (by rfl) (aR (bc 0)) (cF (n:=3) (by rfl) (aC (ak (i:=4) sc.nd (by rfl) (f_ rfl) (by rfl)) (aC (ak (i:=5) sc.nd (by rfl) (f_ rfl) (by rfl)) (aC (ak (i:=6) sc.nd (by rfl) (f_ rfl) (by rfl)) bU)))) (ai (bj (ck (aT jo (ae 6) (ae 1) (aK _))) (ai (ax (i:=3) sc.nd (by rfl) (f_ rfl) (by rfl) cG)) (ai (bj (ck (vL (qE (cL (ae 3)) (mS (cL (au G_goes_on hr (by rfl) (ah (aA hr (ae 2) (cm ge_int)) (ah (aF (ab (ae 4) (ab (ae 5) ag))) aq)))))))) (ai (lV (aB (aF (ab (aA hr (aA hr (ae 2) (cm ge_int)) ge_int) (ab (aF (ab (ae 4) (ab (ae 5) ag))) ag)))) (qN (i:=2) hr (aB (cm ge_int))))) (af (bK (bO 2 Rt Ru bq (ab (aB (aF (ab (aF (ab (ae 4) (ab (ae 5) ag))) (ab (aF (ab (ae 4) (ab (ae 5) ag))) ag)))) ag))) (ai (ax (i:=3) sc.nd (by rfl) (f_ rfl) (by rfl) cG)))))))) (ai (aG (qt 2)))))),fun ts kk hl hp=>?_⟩;clear hl;obtain⟨l,ps,rfl,hl,q⟩:=hp;have app:∀(xs:List (Pt×Int)) (x:Pt×Int) (s:List (Pt×Pt)×Bool),wys l (xs++[x]) s=wy1 l x (wys l xs s):=fun xs x=>by
  induction xs with
  |nil=>intro s;rfl
  |cons y xs ih=>intro s;exact ih _
 nofun;refine aU (fun i env=>∃(W:List (Pt×Pt)) (b:Bool) (z4 z5 z6:T),wys l (ps.take i) ([],false)=(W,b)/\W.length<=i/\(b=true->W≠[])/\env=[.tup (ps.map plT),.int l,.lst true (W.reverse.map edT),.bl b,z4,z5,z6]) ⟨[],false,_,_,_,rfl,b_ _,(fun z=>by cases z),rfl⟩ ?_ ?_
 ·rintro i t _ ⟨W,b,z4,z5,z6,hw,hW,hb,rfl⟩ ei;obtain⟨⟨⟨x,y⟩,z⟩,ep,rfl⟩:=aM ei;rw[plT];have hi:i<ps.length:=(c_.mp ep).1;have hs:wys l (ps.take (i+1)) ([],false)=wy1 l ((x,y),z) (W,b):=by rw[LU,ep];exact(app _ _ _).trans (by rw[hw])
  unfold wy1 at hs;dsimp only at hs;nofun;refine aY (fun h=>?_) (fun h=>?_)
  ·nofun;rw[if_pos h]at hs;exact⟨W,false,_,_,_,hs,by lia,(fun z=>by cases z),rfl⟩
  rw[if_neg h]at hs;nofun;cases b with
  |false=>
   refine F6 rfl ?_;nofun;have e:wys l (ps.take (i+1)) ([],false)=(((x,y),(x,y))::W,true):=by rw[hs];cases W <;> rfl
   exact⟨by rw[Ma];lia,_::W,true,_,_,_,e,by rw[h_];lia,(fun _ z=>by cases z),by rw[NA,q_];rfl⟩
  |true=>
   cases W with
   |nil=>exact absurd rfl (hb rfl)
   |cons w W'=>
   refine tf rfl ?_;nofun;refine aZ uY ?_;nofun;refine⟨w,(x,y),rfl,?_⟩;nofun;cases eg:gOn w (x,y)with
   |true=>
    nofun;refine aZ uY ?_;nofun;have e:wys l (ps.take (i+1)) ([],false)=((w.1,(x,y))::W',true):=by rw[hs];dsimp only;rw[eg];rfl
    have ei:ixN (w::W').reverse.length (-1)=some W'.reverse.length:=by unfold ixN;rw[if_neg (by decide),if_pos (by rw[Ma,h_];lia)];congr 1;rw[Ma,Ma,h_];lia
    refine aZ ei ?_;nofun;have es:((w::W').reverse.map edT).set W'.reverse.length (.tup [ptP w.1,.tup [.int x,.int y]])=((w.1,(x,y))::W').reverse.map edT:=by
     rw[NA,NA,q_,q_,Pl _ _ (by rw[a_];lia),a_,Ni]
     rfl
    exact⟨_,true,_,_,_,e,N8 hW,(fun _ z=>by cases z),by rw[<-es]⟩
   |false=>
    nofun;have e:wys l (ps.take (i+1)) ([],false)=(((x,y),(x,y))::w::W',true):=by rw[hs];dsimp only;rw[eg];rfl
    exact⟨by rw[Ma];lia,_::w::W',true,_,_,_,e,by rw[h_];lia,(fun _ z=>by cases z),by rw[NA (a:=((x,y),(x,y))),q_];rfl⟩
 rintro _ ⟨W,b,z4,z5,z6,hw,hW,hb,rfl⟩;rw[a_,w_]at hw;rw[hw]at q;nofun;exact q _
end
def jn:FP:=fun ts k=>∃(o o2:Bool) (P:List Od) (tl:List Tl) (l C:Int) (N:Nat),ts=[.lst o (P.map odT),.lst o2 (tl.map tvT),.int l]/\OkP tl.length C N P/\N<=400/\∀z0 z1,k (.lst true ((cn l tl P).map ocT)) [z0,z1,.int l]
section
variable{P:Q5}{w:Q8}{K:QT}{mg:Str->Option QR}{base:Q_}
theorem mT:FnScope ["program","tools","layer","octos","tool","order","one","other"] ["program","tools","layer"] (av j7):=⟨rfl,rfl,rfl,by rfl',rfl,by rfl',by rfl'⟩
theorem uv(F:Fun K "cut_octos" "cut_octos" j7 f fd)(TX:Txt mg)  (G_swept:Cal P w K mg base 4 "swept" ["tool","one","other"] (aL K 3 yU))(G_ways_at:Cal P w K mg base 4 "ways_at" ["places","layer"] (aL K 2 rG)):FnOk P w K mg base CX0 5 f fd ["program","tools","layer"] (aL K 3 jn):=by
 refine bN F mT [true,true,true] rfl (fun cdv A outer s H E hr=>?_);have sc:=@mT;refine⟨_,(af (ax (i:=3) sc.nd (by rfl) (f_ rfl) (by rfl) (aB tN)) (af (ax (i:=4) sc.nd (by rfl) (f_ rfl) (by rfl) nZ) (af (bA Rk (by rfl) (aR (bc 0)) (ak (i:=5) sc.nd (by rfl) (f_ rfl) (by rfl)) (ai (bj (ck (aT (bF hr) (aA hr (ae 5) ge_int) ge_str (aK _))) (ai (ax (i:=4) sc.nd (by rfl) (f_ rfl) (by rfl) (aA hr (bc 1) (aB (aA hr (ae 5) ge_int))))) (ai (bj (ck (aT (bF hr) (aA hr (ae 5) ge_int) ge_str (aK _))) (ai (bA Rk (by rfl) (aR (aB (au G_ways_at hr (by rfl) (ah (aA hr (ae 5) ge_int) (ah (ae 2) aq))))) (cF (n:=2) (by rfl) (aC (ak (i:=6) sc.nd (by rfl) (f_ rfl) (by rfl)) (aC (ak (i:=7) sc.nd (by rfl) (f_ rfl) (by rfl)) bU))) (ai (lV cG (qN (i:=3) hr (aB (au G_swept hr (by rfl) (ah (ae 4) (ah (ae 6) (ah (ae 7) aq)))))))))) aH))))) (ai (aG (aB (cB (vP rfl) (by rfl) TX.list (by rfl') (ab (ae 3) ag)))))))),fun ts kk hl hp=>?_⟩;clear hl;obtain⟨o,o2,P,tl,l,C,N,rfl,hP,hN,q⟩:=hp;nofun;refine⟨rfl,aU (fun i env=>∃(o2:Bool) (tool z5 z6 z7:T),(0<i->tool=tvT (tl.getD (tlA (P.take i) 0) (0,0,0,0,0)))/\env=[.lst false (P.map odT),.lst o2 (tl.map tvT),.int l,.dT true (dG ocL (cn l tl (P.take i))),tool,z5,z6,z7]) ⟨o2,_,_,_,_,(fun z=>absurd z (MP _)),rfl⟩ ?_ ?_⟩
 ·rintro i t _ ⟨o2,tool,z5,z6,z7,ht,rfl⟩ ei;obtain⟨od,eo,rfl⟩:=aM ei;obtain⟨et,e0⟩:=um hP eo;have hm:=hP.2.2.2 od (F' eo);have hw:=gZ (l:=l) (Q:=[od]) (P:=P.take i) (t:=0);rw[<-et]at hw;cases od with
  |tk j=>
   have hj:j<tl.length:=hm;rw[nU];nofun;refine aZ (Jh hj) ?_;nofun;have e:cn l tl (P.take (i+1))=cn l tl (P.take i):=by unfold cn;rw[hw.1,show wls l [Od.tk j] (tlA (P.take i) 0)=[]from rfl,I_]
   exact⟨false,tvT (tl.getD j (0,0,0,0,0)),_,_,_,fun _=>by rw[hw.2.2];rfl,by rw[e]⟩
  |ov h x y=>
   have h0:0<i:=Ml fun z=>by obtain⟨j,hj⟩:=e0 z;cases hj
   rw[nG];nofun;have e:cn l tl (P.take (i+1))=cn l tl (P.take i):=by unfold cn;rw[hw.1,show wls l [Od.ov h x y] (tlA (P.take i) 0)=[]from rfl,I_]
   exact⟨o2,tool,_,_,_,fun _=>by rw[hw.2.2];exact ht h0,by rw[e]⟩
  |ct ps=>
   have h0:0<i:=Ml fun z=>by obtain⟨j,hj⟩:=e0 z;cases hj
   have ht:=ht h0;subst ht;have hl:=pg (F' eo);rw[l9];nofun;refine⟨l,ps,rfl,by have:=hP.2.2.1;lia,fun z'=>?_⟩;nofun;have eo2:cn l tl (P.take (i+1))=bJ ocL (cn l tl (P.take i)) (((wys l ps ([],false)).1.reverse.map fun w=>(tlA (P.take i) 0,w)).map fun v=>swT (tR tl v.1) v.2):=by unfold cn;rw[hw.1,q_,fx,show wls l [Od.ct ps] (tlA (P.take i) 0)=((wys l ps ([],false)).1.reverse.map fun w=>(tlA (P.take i) 0,w))from I_ _]
   have lo:(cn l tl (P.take i)).length<=400:=by have h1:=eA (l:=l) (tl:=tl) (P:=P.take i);have h2:=qp (P:=P) (i:=i);have h3:=hP.2.2.1;lia
   have lw:(wys l ps ([],false)).1.reverse.length<=400:=by have h1:=(uE (l:=l) (ps:=ps) (W:=[]) (b:=false) fun w m=>by cases m).2.2;have h3:=hP.2.2.1;rw[L_]at h1;rw[Ma];lia
   have ht2:tlA (P.take (i+1)) 0=tlA (P.take i) 0:=hw.2.2;clear hw;generalize (wys l ps ([],false)).1.reverse=W at *;generalize cn l tl (P.take i)=os at *;generalize tlA (P.take i) 0=tn at *;rw[z_]at eo2;refine aU (fun j env=>∃z5 z6 z7,env=[.lst false (P.map odT),.lst o2 (tl.map tvT),.int l,.dT true (dG ocL (bJ ocL os ((W.map (swT (tR tl tn))).take j))),tvT (tl.getD tn (0,0,0,0,0)),z5,z6,z7]) ⟨_,_,_,rfl⟩ ?_ ?_
   ·rintro j t _ ⟨z5,z6,z7,rfl⟩ ej;obtain⟨w,ew,rfl⟩:=aM ej;have hj:=(c_.mp ew).1;rw[edT];nofun;refine⟨_,w.1,w.2,rfl,?_⟩;nofun;have la:=bV (ρ:=ocL) (l:=os) (r:=(W.map (swT (tR tl tn))).take j);rw[C']at la;rw[rn (a:=swT (tR tl tn) w) (by rw[B_,ew];rfl),sw_eq];exact⟨by rw[nq];lia,_,_,_,by rw[<-pC];rfl⟩
   rintro _ ⟨z5,z6,z7,rfl⟩;rw[a_];have e3:bJ ocL os ((W.map (swT (tR tl tn))).take W.length)=cn l tl (P.take (i+1)):=by
    rw[eo2,show W.length=(W.map (swT (tR tl tn))).length from(a_ ..).symm,w_]
    rfl
   exact⟨o2,_,_,_,_,fun _=>by rw[ht2],by rw[e3]⟩
 rintro _ ⟨o2,tool,z5,z6,z7,ht,rfl⟩;rw[a_,w_];nofun;rw[BF];refine⟨(cn l tl P).map ocL,?_,?_,fun _=>⟨?_,?_⟩⟩
 ·unfold dG;rw[z_,z_];rfl
 ·intro r m;obtain⟨o',_,rfl⟩:=t_.mp m;exact NM _ _
 ·rw[z_];exact Aa
 rw[z_];exact q _ _
end
def kC:FP:=fun ts k=>∃(o o2:Bool) (P:List Od) (tl:List Tl) (l C:Int) (N B:Nat),ts=[.lst o (P.map odT),.lst o2 (tl.map tvT),.int l]/\OkP tl.length C N P/\N<=400/\jj B (cn l tl P)/\k (.int (Ar B (cn l tl P)/2)) ts
section
variable{P:Q5}{w:Q8}{K:QT}{mg:Str->Option QR}{base:Q_}
theorem oB:FnScope ["program","tools","layer"] ["program","tools","layer"] (av kK):=⟨rfl,rfl,rfl,by rfl',rfl,by rfl',by rfl'⟩
theorem vB(F:Fun K "cut_area" "cut_area" kK f fd)(TX:Txt mg)  (G_area_of:Cal P w K mg base 3 "area_of" ["octos"] (aL K 1 rD))(G_cut_octos:Cal P w K mg base 5 "cut_octos" ["program","tools","layer"] (aL K 3 jn)):FnOk P w K mg base CX0 6 f fd ["program","tools","layer"] (aL K 3 kC):=by refine bN F oB [true,true,true] rfl (fun cdv A outer s H E hr=>?_);have sc:=@oB;refine⟨_,(ai (aG (aB (au G_area_of hr (by rfl) (ah (au G_cut_octos hr (by rfl) (ah (ae 0) (ah (ae 1) (ah (ae 2) aq)))) aq))))),fun ts kk hl hp=>?_⟩;clear hl;obtain⟨o,o2,P,tl,l,C,N,B,rfl,hP,hN,hs,q⟩:=hp;nofun;refine⟨false,false,P,tl,l,C,N,rfl,hP,hN,fun z0 z1=>?_⟩;nofun;refine⟨_,cn l tl P,B,rfl,hs,fun z=>?_⟩;nofun;exact q
end
def rW:FP:=fun ts k=>∃(t:Tl) (x y:Int) (s:Nat),ts=[tvT t,.int x,.int y,.int (s:Int)]/\s<4/\k (.bl (inM (t.1+t.2.1) (x,y,s))) ts
section
variable{P:Q5}{w:Q8}{K:QT}{mg:Str->Option QR}{base:Q_}
theorem pZ:FnScope ["_law_tool_here","_law_x","_law_y","_law_side","_law_ends","_law_points"] ["_law_tool_here","_law_x","_law_y","_law_side"] (av nW):=⟨rfl,rfl,rfl,by rfl',rfl,by rfl',by rfl'⟩
theorem xj(F:Fun K "_law_in_mark" "_law_in_mark" nW f fd)(TX:Txt mg)  :FnOk P w K mg base CX0 1 f fd ["_law_tool_here","_law_x","_law_y","_law_side"] (aL K 4 rW):=by
 refine bN F pZ [true,true,true,true] rfl (fun cdv A outer s H E hr=>?_);have sc:=@pZ;have nd1:(["_law_one","_law_other","_law_y","_law_x"]:List Str).Nodup:=by rfl'
 have nd2:(["_law_one","_law_other","_law_tool_here"]:List Str).Nodup:=by rfl'
 refine⟨_,(@af _ _ _ _ _ _ (@ax _ _ _ _ _ 4 _ _ sc.nd (by rfl) (f_ rfl) (by rfl) (@aB _ _ _ (@aA _ _ _ _ _ _ _ hr (@ba _ _ _ _ (@ab _ _ _ _ _ (@ba _ _ _ _ (@ab _ _ _ _ _ (@aF _ _ _ _ _ (@ab _ _ _ _ _ (@ge_int _ _ _ _) (@ab _ _ _ _ _ (@ge_int _ _ _ _) (@ag _) (by rfl)) (by rfl))) (@ab _ _ _ _ _ (@aF _ _ _ _ _ (@ab _ _ _ _ _ (@ge_int _ _ _ _) (@ab _ _ _ _ _ (@ge_int _ _ _ _) (@ag _) (by rfl)) (by rfl))) (@ag _) (by rfl)) (by rfl))) (@ab _ _ _ _ _ (@ba _ _ _ _ (@ab _ _ _ _ _ (@aF _ _ _ _ _ (@ab _ _ _ _ _ (@ge_int _ _ _ _) (@ab _ _ _ _ _ (@ge_int _ _ _ _) (@ag _) (by rfl)) (by rfl))) (@ab _ _ _ _ _ (@aF _ _ _ _ _ (@ab _ _ _ _ _ (@ge_int _ _ _ _) (@ab _ _ _ _ _ (@ge_int _ _ _ _) (@ag _) (by rfl)) (by rfl))) (@ag _) (by rfl)) (by rfl))) (@ab _ _ _ _ _ (@ba _ _ _ _ (@ab _ _ _ _ _ (@aF _ _ _ _ _ (@ab _ _ _ _ _ (@ge_int _ _ _ _) (@ab _ _ _ _ _ (@ge_int _ _ _ _) (@ag _) (by rfl)) (by rfl))) (@ab _ _ _ _ _ (@aF _ _ _ _ _ (@ab _ _ _ _ _ (@ge_int _ _ _ _) (@ab _ _ _ _ _ (@ge_int _ _ _ _) (@ag _) (by rfl)) (by rfl))) (@ag _) (by rfl)) (by rfl))) (@ab _ _ _ _ _ (@ba _ _ _ _ (@ab _ _ _ _ _ (@aF _ _ _ _ _ (@ab _ _ _ _ _ (@ge_int _ _ _ _) (@ab _ _ _ _ _ (@ge_int _ _ _ _) (@ag _) (by rfl)) (by rfl))) (@ab _ _ _ _ _ (@aF _ _ _ _ _ (@ab _ _ _ _ _ (@ge_int _ _ _ _) (@ab _ _ _ _ _ (@ge_int _ _ _ _) (@ag _) (by rfl)) (by rfl))) (@ag _) (by rfl)) (by rfl))) (@ag _) (by rfl)) (by rfl)) (by rfl)) (by rfl))) (@ae _ _ 3 _ (by rfl) (by first|exact f_ rfl|exact v_ (f_ rfl)|exact v_ (v_ rfl)) (by decide) (by decide)) (by intro _ _;rfl))) (by rfl) (by first|exact .inl rfl|exact .inr rfl)) (@af _ _ _ _ _ _ (@ax _ _ _ _ _ 5 _ _ sc.nd (by rfl) (f_ rfl) (by rfl) (@aB _ _ _ (@aj _ _ _ _ _ _ _ _ az (@ba _ _ _ _ (@ab _ _ _ _ _ (@aF _ _ _ _ _ (@ab _ _ _ _ _ (@aj _ _ _ _ _ _ _ _ az (@aj _ _ _ _ _ _ _ _ aS (@ge_int _ _ _ _) (@ae _ _ 1 _ (by rfl) (by first|exact f_ rfl|exact v_ (f_ rfl)|exact v_ (v_ rfl)) (by decide) (by decide))) (@ge_int _ _ _ _)) (@ab _ _ _ _ _ (@aj _ _ _ _ _ _ _ _ az (@aj _ _ _ _ _ _ _ _ aS (@ge_int _ _ _ _) (@ae _ _ 2 _ (by rfl) (by first|exact f_ rfl|exact v_ (f_ rfl)|exact v_ (v_ rfl)) (by decide) (by decide))) (@ge_int _ _ _ _)) (@ag _) (by rfl)) (by rfl))) (@ag _) (by rfl))) (@bu _ _ _ _ sc ["_law_one","_law_other","_law_y","_law_x"] [none,none,some 2,some 1] nd1 _ _ _ _ _ _ _ _ _ _ (by rfl') (@aR _ _ _ _ (@ae _ _ 4 _ (by rfl) (by first|exact f_ rfl|exact v_ (f_ rfl)|exact v_ (v_ rfl)) (by decide) (by decide))) (fun _ _ _=>(@cF _ _ _ _ _ _ 2 (by rfl) (@aC _ _ _ _ _ _ (@ak _ _ _ 0 _ nd1 (by rfl) (f_ rfl) (by rfl) (v_ rfl)) (@aC _ _ _ _ _ _ (@ak _ _ _ 1 _ nd1 (by rfl) (f_ rfl) (by rfl) (v_ rfl)) (@bU _ _) (by rfl)) (by rfl)) (by rfl) (by rfl))) (fun _ _ _=>(@bo _)) (fun _ _ _=>(@aF _ _ _ _ _ (@ab _ _ _ _ _ (@aj _ _ _ _ _ _ _ _ aS (@ge_int _ _ _ _) (@aj _ _ _ _ _ _ _ _ az (@ae _ _ 3 _ (by rfl) (by first|exact f_ rfl|exact v_ (f_ rfl)|exact v_ (v_ rfl)) (by decide) (by decide)) (@ae _ _ 0 _ (by rfl) (by first|exact f_ rfl|exact v_ (f_ rfl)|exact v_ (v_ rfl)) (by decide) (by decide)))) (@ab _ _ _ _ _ (@aj _ _ _ _ _ _ _ _ aS (@ge_int _ _ _ _) (@aj _ _ _ _ _ _ _ _ az (@ae _ _ 2 _ (by rfl) (by first|exact f_ rfl|exact v_ (f_ rfl)|exact v_ (v_ rfl)) (by decide) (by decide)) (@ae _ _ 1 _ (by rfl) (by first|exact f_ rfl|exact v_ (f_ rfl)|exact v_ (v_ rfl)) (by decide) (by decide)))) (@ag _) (by rfl)) (by rfl)))) (by rfl) (by rfl) (by rfl) (by intro _;rfl)))) (by rfl) (by first|exact .inl rfl|exact .inr rfl)) (@ai _ _ _ _ (@aG _ _ _ _ _ (@aB _ _ _ (@ay _ _ _ _ _ _ _ _ _ (sL rfl) (by rfl) TX.all (by rfl') (@ab _ _ _ _ _ (@bu _ _ _ _ sc ["_law_one","_law_other","_law_tool_here"] [none,none,some 0] nd2 _ _ _ _ _ _ _ _ _ _ (by rfl') (@aR _ _ _ _ (@ae _ _ 5 _ (by rfl) (by first|exact f_ rfl|exact v_ (f_ rfl)|exact v_ (v_ rfl)) (by decide) (by decide))) (fun _ _ _=>(@cF _ _ _ _ _ _ 2 (by rfl) (@aC _ _ _ _ _ _ (@ak _ _ _ 0 _ nd2 (by rfl) (f_ rfl) (by rfl) (v_ rfl)) (@aC _ _ _ _ _ _ (@ak _ _ _ 1 _ nd2 (by rfl) (f_ rfl) (by rfl) (v_ rfl)) (@bU _ _) (by rfl)) (by rfl)) (by rfl) (by rfl))) (fun _ _ _=>(@bo _)) (fun _ _ _=>(@t9 _ _ _ _ _ _ _ _ jo (@aj _ _ _ _ _ _ _ _ az (@ay _ _ _ _ _ _ _ _ _ jx (by rfl) TX.abs (by rfl') (@ab _ _ _ _ _ (@ae _ _ 0 _ (by rfl) (by first|exact f_ rfl|exact v_ (f_ rfl)|exact v_ (v_ rfl)) (by decide) (by decide)) (@ag _) (by rfl)) (by decide) (by decide) (by rfl) (by rfl)) (@ay _ _ _ _ _ _ _ _ _ jx (by rfl) TX.abs (by rfl') (@ab _ _ _ _ _ (@ae _ _ 1 _ (by rfl) (by first|exact f_ rfl|exact v_ (f_ rfl)|exact v_ (v_ rfl)) (by decide) (by decide)) (@ag _) (by rfl)) (by decide) (by decide) (by rfl) (by rfl))) (@aj _ _ _ _ _ _ _ _ aS (@ge_int _ _ _ _) (@aj _ _ _ _ _ _ _ _ az (@aA _ _ _ _ _ _ _ hr (@ae _ _ 2 _ (by rfl) (by first|exact f_ rfl|exact v_ (f_ rfl)|exact v_ (v_ rfl)) (by decide) (by decide)) (@ge_int _ _ _ _) (by intro _ _;rfl)) (@aA _ _ _ _ _ _ _ hr (@ae _ _ 2 _ (by rfl) (by first|exact f_ rfl|exact v_ (f_ rfl)|exact v_ (v_ rfl)) (by decide) (by decide)) (@ge_int _ _ _ _) (by intro _ _;rfl)))) (aK _))) (by rfl) (by rfl) (by rfl) (by intro _;rfl)) (@ag _) (by rfl)) (by decide) (by decide) (by rfl) (by rfl))))))),fun ts kk hl hp=>?_⟩;clear hl;obtain⟨t,x,y,s,rfl,hs,q⟩:=hp;nofun;refine aZ (yX hs).1 ?_;have l2:=(yX hs).2;unfold inM ptM at q;dsimp only at q;generalize edL.getD s []=es at *;nofun;refine⟨.inl ⟨by decide,by decide⟩,.inl ⟨by decide,by decide⟩,aP (by rw[a_,sizeLine_eq];lia) (fun i acc ie=>∃z1 z2,acc=(es.take i).map (fun e=>ptP (2*(x+e.1),2*(y+e.2)))/\ie=[z1,z2,.int y,.int x]) ⟨_,_,rfl,rfl⟩ ?_ ?_⟩
 ·rintro i u _ _ ⟨z1,z2,rfl,rfl⟩ ei;obtain⟨e,ee,rfl⟩:=aM ei;nofun;exact⟨.inl ⟨by decide,by decide⟩,.inl ⟨by decide,by decide⟩,_,_,by rw[map_take ee];rfl,rfl⟩
 rintro _ _ ⟨z1,z2,rfl,rfl⟩;rw[a_,w_];nofun;have ep:T.tup [T.int (2*x+1),T.int (2*y+1)]::LO (fun e=>ptP (2*(x+e.1),2*(y+e.2))) es=((2*x+1,2*y+1)::es.map fun e=>((2*(x+e.1),2*(y+e.2)):Pt)).map ptP:=by rw[k_,z_];rfl
 have lp:((2*x+1,2*y+1)::es.map fun e=>((2*(x+e.1),2*(y+e.2)):Pt)).length=3:=by rw[h_,a_,l2]
 rw[ep];generalize ((2*x+1,2*y+1)::es.map fun e=>((2*(x+e.1),2*(y+e.2)):Pt))=ps at *;refine⟨by lia,aP (by rw[a_,sizeLine_eq];lia) (fun i acc ie=>∃z1 z2,acc=(ps.take i).map (fun p=>T.bl (decide ((p.1.natAbs:Int)+p.2.natAbs<=2*(t.1+t.2.1))))/\ie=[z1,z2,tvT t]) ⟨_,_,rfl,rfl⟩ ?_ ?_⟩
 ·rintro i u _ _ ⟨z1,z2,rfl,rfl⟩ ei;obtain⟨p,ee,rfl⟩:=aM ei;nofun;exact⟨.inl ⟨by decide,by decide⟩,_,_,by rw[map_take ee],rfl⟩
 rintro _ _ ⟨z1,z2,rfl,rfl⟩;rw[a_,w_];nofun;refine aZ (jg _ _) ?_;nofun;rw[NV];exact q
end
def CL:FP:=fun ts k=>∃(t:Tl),ts=[tvT t,ptP (0,0)]/\tlO t/\k (.dT true (dG bg (mkA t))) ts
section
variable{P:Q5}{w:Q8}{K:QT}{mg:Str->Option QR}{base:Q_}
theorem yn:FnScope ["_law_tool_here","_law_corner","_law_found","_law_x","_law_y","_law_side"] ["_law_tool_here","_law_corner"] (av xy):=⟨rfl,rfl,rfl,by rfl',rfl,by rfl',by rfl'⟩
theorem Ft(F:Fun K "_law_mark" "_law_mark" xy f fd)(TX:Txt mg)  (G_in_mark:Cal P w K mg base 1 "_law_in_mark" ["_law_tool_here","_law_x","_law_y","_law_side"] (aL K 4 rW)):FnOk P w K mg base CX0 2 f fd ["_law_tool_here","_law_corner"] (aL K 2 CL):=by
 refine bN F yn [true,true] rfl (fun cdv A outer s H E hr=>?_);have sc:=@yn;refine⟨_,(af (ax (i:=2) sc.nd (by rfl) (f_ rfl) (by rfl) (aB tN)) (af (bA Rk (by rfl) (rF (by rfl) TX.range (ab (aB (cm (aA hr (ae 0) ge_int))) (ab (aB (aA hr (ae 0) ge_int)) ag))) (ak (i:=3) sc.nd (by rfl) (f_ rfl) (by rfl)) (ai (bA Rk (by rfl) (rF (by rfl) TX.range (ab (aB (cm (aA hr (ae 0) ge_int))) (ab (aB (aA hr (ae 0) ge_int)) ag))) (ak (i:=4) sc.nd (by rfl) (f_ rfl) (by rfl)) (ai (bA Rk (by rfl) (dO (by rfl) TX.range (ab ge_int ag)) (ak (i:=5) sc.nd (by rfl) (f_ rfl) (by rfl)) (ai (bj (ck (cL (au G_in_mark hr (by rfl) (ah (ae 0) (ah (ae 3) (ah (ae 4) (ah (ae 5) aq))))))) (ai (lV cG (qN (i:=2) hr (aB (aF (ab (aj az (aA hr (ae 1) ge_int) (ae 3)) (ab (aj az (aA hr (ae 1) ge_int) (ae 4)) (ab (ae 5) ag)))))))) aH))))))) (ai (aG (qt 2))))),fun ts kk hl hp=>?_⟩;clear hl;obtain⟨t,rfl,ht,q⟩:=hp;obtain⟨t1,t2,t3,t4⟩:=ht;nofun;refine⟨rfl,by lia,aU (fun i env=>∃z3 z4 z5,env=[tvT t,ptP (0,0),.dT true (dG bg (mkN t.1 (t.1+t.2.1) i)),z3,z4,z5]) ⟨_,_,_,rfl⟩ ?_ ?_⟩
 ·rintro i u _ ⟨z3,z4,z5,rfl⟩ ei;have hi:=fR ei;have et:=pH ei;subst et;nofun;refine⟨by lia,aU (fun j env=>∃z4 z5,env=[tvT t,ptP (0,0),.dT true (dG bg (mkN t.1 (t.1+t.2.1) i++mkC t.1 (t.1+t.2.1) (-t.1+i) j)),.int (-t.1+i),z4,z5]) ⟨_,_,by rw[show mkC t.1 (t.1+t.2.1) (-t.1+i) 0=[]from rfl,I_]⟩ ?_ ?_⟩
  ·rintro j u _ ⟨z4,z5,rfl⟩ ej;have hj:=fR ej;have et:=pH ej;subst et;nofun;refine⟨by decide,aU (fun s env=>∃z5,env=[tvT t,ptP (0,0),.dT true (dG bg (mkN t.1 (t.1+t.2.1) i++mkC t.1 (t.1+t.2.1) (-t.1+i) j++((B' s).filter fun s=>decide (inM (t.1+t.2.1) (-t.1+i,-t.1+j,s)=true)).map fun s=>(-t.1+(i:Int),-t.1+(j:Int),s))),.int (-t.1+i),.int (-t.1+j),z5]) ⟨_,by rw[List.range_zero,List.filter_nil,Nf,I_]⟩ ?_ ?_⟩
   ·rintro s u _ ⟨z5,rfl⟩ es;have hs4:s<4:=fR es;have et:=pH es;subst et;rw[N0];nofun;refine⟨t,-t.1+i,-t.1+j,s,rfl,hs4,?_⟩;nofun;rw[NU,PX,q_];refine o9 (fun h=>?_) (fun h=>?_)
    ·nofun;have l1:=Hh (r:=t.1) (R:=t.1+t.2.1) (i:=i) (j:=j) (s:=s) (by lia);have ef:((P9 (fun s=>decide (inM (t.1+t.2.1) (-t.1+i,-t.1+j,s)=true)) [s]).map fun s=>((-t.1+(i:Int),-t.1+(j:Int),s):Qt))=[(-t.1+(i:Int),-t.1+(j:Int),s)]:=by rw[O1,h];rfl
     rw[N0,N0];exact⟨by rw[nq];lia,_,by rw[ef,<-l_,<-Bh (ρ:=bg) IG,<-pC];rfl⟩
    nofun;have ef:((P9 (fun s=>decide (inM (t.1+t.2.1) (-t.1+i,-t.1+j,s)=true)) [s]).map fun s=>((-t.1+(i:Int),-t.1+(j:Int),s):Qt))=[]:=by rw[O1,h];rfl
    exact⟨_,by rw[ef,I_]⟩
   rintro _ ⟨z5,rfl⟩;have e1:mkC t.1 (t.1+t.2.1) (-t.1+i) (j+1)=mkC t.1 (t.1+t.2.1) (-t.1+i) j++_:=fy;exact⟨_,_,by rw[e1,<-l_];rfl⟩
  rintro _ ⟨z4,z5,rfl⟩;rw[cO];have e1:mkN t.1 (t.1+t.2.1) (i+1)=mkN t.1 (t.1+t.2.1) i++_:=fy;exact⟨_,_,_,by rw[e1]⟩
 rintro _ ⟨z3,z4,z5,rfl⟩;rw[cO];nofun;exact q
end
def CN:FP:=fun ts k=>∃c n m,ts=[stT c n,.int m]/\n<2 ^ 39/\2<=m/\m<=6/\∀(c':Cells) (t:Tl),tlO t->k (tvT t) [stT c' (n+5),.int m]
section
variable{P:Q5}{w:Q8}{K:QT}{mg:Str->Option QR}{base:Q_}
theorem yh:FnScope ["_law_state","_law_most","_law_r","_law_k"] ["_law_state","_law_most"] (av wL):=⟨rfl,rfl,rfl,by rfl',rfl,by rfl',by rfl'⟩
theorem Ey(F:Fun K "_law_tool" "_law_tool" wL f fd)(TX:Txt mg)  (G_take:Cal P w K mg base 1 "_law_take" ["_law_state","_law_many"] (aL K 2 kU)):FnOk P w K mg base CX0 2 f fd ["_law_state","_law_most"] (aL K 2 CN):=by refine bN F yh [true,true] rfl (fun cdv A outer s H E hr=>?_);have sc:=@yh;refine⟨_,(af (ax (i:=2) sc.nd (by rfl) (f_ rfl) (by rfl) (aj az ge_int (au G_take hr (by rfl) (aV 0 (ah (aB (aj bP (ae 1) ge_int)) aq))))) (af (ax (i:=3) sc.nd (by rfl) (f_ rfl) (by rfl) (aj az ge_int (au G_take hr (by rfl) (aV 0 (ah (aB (aj bP (ae 2) ge_int)) aq))))) (ai (aG (aF (ab (bc 2) (ab (bc 3) (ab (aj az ge_int (au G_take hr (by rfl) (aV 0 (ah ge_int aq)))) (ab (aj az ge_int (au G_take hr (by rfl) (aV 0 (ah ge_int aq)))) (ab (aj az ge_int (au G_take hr (by rfl) (aV 0 (ah ge_int aq)))) ag)))))))))),fun ts kk hl hp=>?_⟩;clear hl;obtain⟨c,n,m,rfl,hn,m0,m1,q⟩:=hp;nofun;walk_at "take";intro r c1 a1 b1;nofun;walk_at "take";intro kk c2 a2 b2;nofun;walk_at "take";intro u c3 a3 b3;nofun;walk_at "take";intro v c4 a4 b4;nofun;walk_at "take";intro w' c5 a5 b5;nofun;exact q c5 (2+r,1+kk,_,_,_) ⟨by dsimp only;lia,by dsimp only;lia,by dsimp only;lia,by dsimp only;lia⟩
end
def zL:FP:=fun ts k=>∃c n m,ts=[stT c n,.int m]/\n<2 ^ 38/\2<=m/\m<=6/\∀(c':Cells) (n':Nat) (tl:List Tl),n'<=n+100->0<tl.length->tl.length<=5->(∀t∈tl,tlO t)->k (.lst true (tl.map tvT)) [stT c' n',.int m]
section
variable{P:Q5}{w:Q8}{K:QT}{mg:Str->Option QR}{base:Q_}
theorem uZ:FnScope ["_law_state","_law_most"] ["_law_state","_law_most"] (av uw):=⟨rfl,rfl,rfl,by rfl',rfl,by rfl',by rfl'⟩
theorem Ds(F:Fun K "_law_tools" "_law_tools" uw f fd)(TX:Txt mg)  (G_take:Cal P w K mg base 1 "_law_take" ["_law_state","_law_many"] (aL K 2 kU))(G_tool:Cal P w K mg base 2 "_law_tool" ["_law_state","_law_most"] (aL K 2 CN)):FnOk P w K mg base CX0 3 f fd ["_law_state","_law_most"] (aL K 2 zL):=by
 refine bN F uZ [true,true] rfl (fun cdv A outer s H E hr=>?_);have sc:=@uZ;have nd1:(["_law_turn","_law_most","_law_state"]:List Str).Nodup:=by rfl'
 refine⟨_,(ai (aG (bu sc ["_law_turn","_law_most","_law_state"] [none,some 1,some 0] nd1 (by rfl') (dO (by rfl) TX.range (ab (aA hr (aB (ba (ab ge_int (ab ge_int (ab ge_int (ab ge_int (ab ge_int (ab ge_int ag)))))))) (au G_take hr (by rfl) (aV 0 (ah ge_int aq)))) ag)) (fun _ _ _=>(ak (i:=0) nd1 (by rfl) (f_ rfl) (by rfl) (hf:=(v_ rfl)))) (fun _ _ _=>bo) (fun _ _ _=>(au G_tool hr (by rfl) (aV 2 (ah (bc 1) aq))))))),fun ts kk hl hp=>?_⟩;clear hl;obtain⟨c,n,m,rfl,hn,m0,m1,q⟩:=hp;nofun;walk_at "take";intro r c1 a1 b1;nofun;obtain⟨h,ef,f0,f1⟩:=jI (fun v=>1<=v/\v<=5) (ns:=[1,2,3,1,2,5]) (i:=r) (by omega) (by show r<6;omega) (by intro v hv;simp only[p_,Mi,or_false]at hv;lia)
 refine aZ ef ?_;nofun;refine⟨by lia,aP (by rw[cO,sizeLine_eq];lia) (fun i acc ie=>∃(c':Cells) (n':Nat) (tl:List Tl) (z:T),n'<=n+1+5*i/\tl.length=i/\(∀t∈tl,tlO t)/\acc=tl.map tvT/\ie=[z,.int m,stT c' n']) ⟨c1,n+1,[],_,b_ _,rfl,(fun _ h=>by cases h),rfl,rfl⟩ ?_ ?_⟩
 ·rintro i u _ _ ⟨c',n',tl,z,l3,l4,ht,rfl,rfl⟩ ei;have hi:=fR ei;nofun;refine⟨c',n',m,rfl,by lia,m0,m1,fun c2 t h=>?_⟩;nofun;refine⟨c2,n'+5,tl++[t],_,by lia,by rw[e_,l4];rfl,fun v mv=>?_,by rw[q_];rfl,rfl⟩;rcases x_.mp mv with mv|mv
  ·exact ht v mv
  rw[A_.mp mv];exact h
 rintro _ _ ⟨c',n',tl,z,l3,l4,ht,rfl,rfl⟩;rw[cO]at l3 l4;nofun;exact q c' n' tl (by lia) (by lia) (by lia) ht
end
def vW:FP:=fun ts k=>∃c n p m,ts=[stT c n,ptP p,.int m]/\n<2 ^ 38/\0<=m/\m<=40/\∀(c':Cells) (n':Nat) (ps:List Plc) (e:Pt),n'<=n+300->(∀p'∈ps,(p.1-m<=p'.1.1/\p'.1.1<=p.1+m)/\p.2-m<=p'.1.2/\p'.1.2<=p.2+m)->ps.length<=m.toNat+1->0<ps.length->((p.1-m<=e.1/\e.1<=p.1+m)/\p.2-m<=e.2/\e.2<=p.2+m)->k (.tup [.lst true (ps.map plT),ptP e]) [stT c' n',ptP p,.int m]
section
variable{P:Q5}{w:Q8}{K:QT}{mg:Str->Option QR}{base:Q_}
theorem sh:FnScope ["_law_state","_law_corner","_law_many","_law_x","_law_y","_law_z","_law_places_here","_law_direction","_law_turn","_law_way"] ["_law_state","_law_corner","_law_many"] (av qo):=⟨rfl,rfl,rfl,by rfl',rfl,by rfl',by rfl'⟩
theorem AX(F:Fun K "_law_places" "_law_places" qo f fd)(TX:Txt mg)  (G_take:Cal P w K mg base 1 "_law_take" ["_law_state","_law_many"] (aL K 2 kU)):FnOk P w K mg base CX0 2 f fd ["_law_state","_law_corner","_law_many"] (aL K 3 vW):=by
 refine bN F sh [true,true,true] rfl (fun cdv A outer s H E hr=>?_);have sc:=@sh;refine⟨_,(af (lV (bc 1) (cF (n:=2) (by rfl) (aC (ak (i:=3) sc.nd (by rfl) (f_ rfl) (by rfl)) (aC (ak (i:=4) sc.nd (by rfl) (f_ rfl) (by rfl)) bU)))) (af (ax (i:=5) sc.nd (by rfl) (f_ rfl) (by rfl) (au G_take hr (by rfl) (aV 0 (ah ge_int aq)))) (af (ax (i:=6) sc.nd (by rfl) (f_ rfl) (by rfl) (aB (ba (ab (aF (ab (ae 3) (ab (ae 4) (ab (ae 5) ag)))) ag)))) (af (ax (i:=7) sc.nd (by rfl) (f_ rfl) (by rfl) (au G_take hr (by rfl) (aV 0 (ah ge_int aq)))) (af (bA Rk (by rfl) (dO (by rfl) TX.range (ab (bc 2) ag)) (ak (i:=8) sc.nd (by rfl) (f_ rfl) (by rfl)) (dN (bj (aT (bF hr) (au G_take hr (by rfl) (aV 0 (ah ge_int aq))) ge_int (aK _)) (ai (ax (i:=7) sc.nd (by rfl) (f_ rfl) (by rfl) (au G_take hr (by rfl) (aV 0 (ah ge_int aq))))) aH) (af (ax (i:=9) sc.nd (by rfl) (f_ rfl) (by rfl) (au G_take hr (by rfl) (aV 0 (ah ge_int aq)))) (dN (bj (ck (vL (qE (aT (bF hr) (ae 9) ge_int (aK _)) (mS (aT Ct (ae 5) ge_int (aK _)))))) (ai (ax (i:=5) sc.nd (by rfl) (f_ rfl) (by rfl) (aB (aj az (ae 5) ge_int)))) (af (ax (i:=3) sc.nd (by rfl) (f_ rfl) (by rfl) (aB (aj az (ae 3) (aA hr (ba (ab ge_int (ab ge_int (ab ge_int (ab (cm ge_int) (ab (cm ge_int) (ab (cm ge_int) (ab ge_int (ab ge_int ag))))))))) (ae 7))))) (af (ax (i:=4) sc.nd (by rfl) (f_ rfl) (by rfl) (aB (aj az (ae 4) (aA hr (ba (ab ge_int (ab ge_int (ab ge_int (ab ge_int (ab ge_int (ab (cm ge_int) (ab (cm ge_int) (ab (cm ge_int) ag))))))))) (ae 7))))) (ai (ax (i:=5) sc.nd (by rfl) (f_ rfl) (by rfl) (aA hr (ba (ab (bc 5) (ab (bc 5) (ab (aB (ay (jG rfl) (by rfl) TX.min (by rfl') (ab ge_int (ab (aj az (ae 5) ge_int) ag)))) (ab (au G_take hr (by rfl) (aV 0 (ah (aB (aj az (ae 5) ge_int)) aq))) (ab (bc 5) (ab (bc 5) ag))))))) (bc 9))))))) (ai (bK (bO 6 Rt Ru bq (ab (aB (aF (ab (ae 3) (ab (ae 4) (ab (ae 5) ag))))) ag)))))))) (ai (aG (aF (ab (qt 6) (ab (aB (aF (ab (ae 3) (ab (ae 4) ag)))) ag)))))))))),fun ts kk hl hp=>?_⟩;clear hl;obtain⟨c,n,p,m,rfl,hn,m0,m1,q⟩:=hp;rw[ptP,pt];nofun;walk_at "take";intro z c1 a1 b1;nofun;walk_at "take";intro d c2 a2 b2;nofun;refine⟨by lia,aU (fun i env=>∃(c':Cells) (n':Nat) (ps:List Plc) (x y z d:Int) (z8 z9:T),n'<=n+2+5*i/\ps.length=i+1/\(p.1-i<=x/\x<=p.1+i/\p.2-i<=y/\y<=p.2+i/\0<=z/\z<=6/\0<=d/\d<8)/\(∀p'∈ps,(p.1-i<=p'.1.1/\p'.1.1<=p.1+i)/\p.2-i<=p'.1.2/\p'.1.2<=p.2+i)/\env=[stT c' n',ptP p,.int m,.int x,.int y,.int z,.lst true (ps.map plT),.int d,z8,z9]) ⟨c2,n+1+1,[(p,z)],p.1,p.2,z,d,_,_,b_ _,rfl,by lia,fun p' m'=>?_,rfl⟩ ?_ ?_⟩
 ·rw[A_.mp m'];dsimp only;lia
 ·rintro i t _ ⟨c',n',ps,x,y,z,d,z8,z9,l2,l3,hb,hm,rfl⟩ ei;have hi:=fR ei;nofun;refine gp (fun env=>∃(c':Cells) (n':Nat) (d:Int) (z8:T),n'<=n+4+5*i/\(0<=d/\d<8)/\env=[stT c' n',ptP p,.int m,.int x,.int y,.int z,.lst true (ps.map plT),.int d,z8,z9]) ?_ ?_
  ·nofun;walk_at "take";intro r c3 r1 r2;nofun;refine aY (fun g=>?_) (fun g=>?_)
   ·nofun;walk_at "take";intro r' c4 r3 r4;nofun;exact⟨_,_,_,_,by lia,⟨r3,r4⟩,rfl⟩
   nofun;exact⟨_,_,_,_,by lia,⟨hb.2.2.2.2.2.2.1,hb.2.2.2.2.2.2.2⟩,rfl⟩
  clear l2;rintro _ ⟨c',n',d,z8,l2,hd,rfl⟩;nofun;walk_at "take";intro w c5 w1 w2;nofun;refine gp (fun env=>∃(c':Cells) (n':Nat) (x' y' z':Int) (z8:T),n'<=n+7+5*i/\(x-1<=x'/\x'<=x+1/\y-1<=y'/\y'<=y+1/\0<=z'/\z'<=6)/\env=[stT c' n',ptP p,.int m,.int x',.int y',.int z',.lst true (ps.map plT),.int d,z8,.int w]) ?_ ?_
  ·nofun;refine aY (fun g=>?sa) (fun g=>?sb)
   case' sb=>
    nofun;clear g
   case' sa=>
    nofun;refine aY (fun g2=>?sc) (fun g2=>?sd)
   case sc=>
    nofun;exact⟨_,_,x,y,z+1,_,by lia,by lia,rfl⟩
   case' sd=>
    nofun;clear g g2;refine ?sb
   case sb=>
    obtain⟨u,eu,u0,u1⟩:=jI (fun v=>-1<=v/\v<=1) (ns:=[1,1,0,-1,-1,-1,0,1]) (i:=d) hd.1 hd.2 (by decide);refine aZ eu ?_;nofun;obtain⟨v,ev,v0,v1⟩:=jI (fun v=>-1<=v/\v<=1) (ns:=[0,1,1,1,0,-1,-1,-1]) (i:=d) hd.1 hd.2 (by decide);refine aZ ev ?_;nofun;walk_at "take";intro r c6 r1 r2;nofun;obtain⟨z',ez,z0,z1⟩:=jI (fun v=>0<=v/\v<=6) (ns:=[z,z,min 6 (z+1),r,z,z]) (i:=w) w1 w2 (by intro v hv;simp only[p_,Mi,or_false]at hv;lia)
    refine aZ ez ?_;nofun;exact⟨_,_,_,_,_,_,by lia,by lia,rfl⟩
  rintro _ ⟨c',n',x',y',z',z8,l2,hb',rfl⟩;nofun;refine⟨by lia,c',n',ps++[((x',y'),z')],x',y',z',d,_,_,by lia,by rw[e_,l3];rfl,by lia,fun p' m'=>?_,by rw[q_];rfl⟩;rcases x_.mp m' with m'|m'
  ·have:=hm p' m';lia
  rw[A_.mp m'];dsimp only;omega
 rintro _ ⟨c',n',ps,x,y,z,d,z8,z9,l2,l3,hb,hm,rfl⟩;rw[cO]at *;nofun;exact q c' n' ps (x,y) (by lia) (fun p' m'=>by have:=hm p' m';omega) (by lia) (by lia) (by dsimp only;omega)
end
def Gj:FP:=fun ts k=>∃(o o2:Bool) (P:List Od) (tl:List Tl) (l C:Int) (N:Nat),ts=[.lst o (P.map odT),.lst o2 (tl.map tvT),.int l]/\OkP tl.length C N P/\N<=400/\(tl.length<=5/\∀t∈tl,tlO t)/\∀qs:List Qt,Cuts l tl P qs->k (.dT true (dG bg qs)) [.lst false (P.map odT),.lst o2 (tl.map tvT),.int l]
section
variable{P:Q5}{w:Q8}{K:QT}{mg:Str->Option QR}{base:Q_}
theorem Bo:FnScope ["_law_program_here","_law_tools_here","_law_layer","_law_marks","_law_found","_law_spots","_law_taken","_law_order","_law_x","_law_y","_law_z","_law_number","_law_right","_law_up","_law_side"] ["_law_program_here","_law_tools_here","_law_layer"] (av CY):=⟨rfl,rfl,rfl,by rfl',rfl,by rfl',by rfl'⟩
theorem Im(F:Fun K "_law_cut" "_law_cut" CY f fd)(TX:Txt mg)  (G_mark:Cal P w K mg base 2 "_law_mark" ["_law_tool_here","_law_corner"] (aL K 2 CL)):FnOk P w K mg base CX0 3 f fd ["_law_program_here","_law_tools_here","_law_layer"] (aL K 3 Gj):=by
 refine bN F Bo [true,true,true] rfl (fun cdv A outer s H E hr=>?_);have sc:=@Bo;have nd1:(["_law_tool_here"]:List Str).Nodup:=by rfl'
 refine⟨_,(af (qa sc (i:=3) ["_law_tool_here"] [none] nd1 (by rfl') (by rfl) (f_ rfl) (by rfl) (aR (ae 1)) (fun _ _ _=>(ak (i:=0) nd1 (by rfl) (f_ rfl) (by rfl) (hf:=(v_ rfl)))) (fun _ _ _=>bo) (fun _ _ _=>(au G_mark hr (by rfl) (ah (ae 0) (ah (aF (ab ge_int (ab ge_int ag))) aq)))) (by rfl)) (af (ax (i:=4) sc.nd (by rfl) (f_ rfl) (by rfl) (aB tN)) (af (ax (i:=5) sc.nd (by rfl) (f_ rfl) (by rfl) (aB tN)) (af (ax (i:=6) sc.nd (by rfl) (f_ rfl) (by rfl) ge_int) (af (bA Rk (by rfl) (aR (bc 0)) (ak (i:=7) sc.nd (by rfl) (f_ rfl) (by rfl)) (dN (bj (ck (aT (bF hr) (aA hr (ae 7) ge_int) ge_str (aK _))) (ai (ax (i:=6) sc.nd (by rfl) (f_ rfl) (by rfl) (aB (aA hr (ae 7) ge_int)))) aH) (ai (bj (ck (aT (bF hr) (aA hr (ae 7) ge_int) ge_str (aK _))) (ai (bA Rk (by rfl) (aR (aB (aA hr (ae 7) ge_int))) (cF (n:=3) (by rfl) (aC (ak (i:=8) sc.nd (by rfl) (f_ rfl) (by rfl)) (aC (ak (i:=9) sc.nd (by rfl) (f_ rfl) (by rfl)) (aC (ak (i:=10) sc.nd (by rfl) (f_ rfl) (by rfl)) bU)))) (ai (bj (ck (aT xX (ae 10) (ae 2) (aK _))) (ai (lV cG (qN (i:=5) hr (aB (aF (ab (ae 6) (ab (ae 8) (ab (ae 9) ag)))))))) aH)))) aH)))) (af (bA Rk (by rfl) (yO (bc 5)) (cF (n:=3) (by rfl) (aC (ak (i:=11) sc.nd (by rfl) (f_ rfl) (by rfl)) (aC (ak (i:=12) sc.nd (by rfl) (f_ rfl) (by rfl)) (aC (ak (i:=13) sc.nd (by rfl) (f_ rfl) (by rfl)) bU)))) (ai (bA Rk (by rfl) (yO (aA hr (bc 3) (bc 11))) (cF (n:=3) (by rfl) (aC (ak (i:=8) sc.nd (by rfl) (f_ rfl) (by rfl)) (aC (ak (i:=9) sc.nd (by rfl) (f_ rfl) (by rfl)) (aC (ak (i:=14) sc.nd (by rfl) (f_ rfl) (by rfl)) bU)))) (ai (lV cG (qN (i:=4) hr (aB (aF (ab (aj az (ae 8) (ae 12)) (ab (aj az (ae 9) (ae 13)) (ab (ae 14) ag))))))))))) (ai (aG (qt 4))))))))),fun ts kk hl hp=>?_⟩;clear hl;obtain⟨o,o2,P,tl,l,C,N,rfl,hP,hN,⟨hl,ht⟩,q⟩:=hp;nofun;refine aP (by rw[a_,sizeLine_eq];lia) (fun i acc ie=>∃z,acc=(tl.take i).map (fun t=>T.dT true (dG bg (mkA t)))/\ie=[z]) ⟨_,rfl,rfl⟩ ?_ ?_
 ·rintro i u _ _ ⟨z,rfl,rfl⟩ ei;obtain⟨t,et,rfl⟩:=aM ei;nofun;refine⟨t,rfl,ht t (F' et),?_⟩;nofun;exact⟨_,by rw[map_take et],rfl⟩
 rintro _ _ ⟨z,rfl,rfl⟩;rw[a_,w_];nofun;refine⟨rfl,rfl,aU (fun i env=>∃(z7 z8 z9 z10:T),env=[.lst false (P.map odT),.lst o2 (tl.map tvT),.int l,.lst true (tl.map fun t=>T.dT true (dG bg (mkA t))),.dT true [],.dT true (dG dF (bJ dF [] (sps l (P.take i) 0))),.int (tlA (P.take i) 0:Int),z7,z8,z9,z10,.any,.any,.any,.any]) ⟨_,_,_,_,rfl⟩ ?_ ?_⟩
 ·rintro i t _ ⟨z7,z8,z9,z10,rfl⟩ ei;obtain⟨od,eo,rfl⟩:=aM ei;obtain⟨et,e0⟩:=um hP eo;have hw:=(gZ (l:=l) (Q:=[od]) (P:=P.take i) (t:=0)).2;rw[<-et]at hw;have hm:=F' eo;nofun;refine gp (fun env=>env=[.lst false (P.map odT),.lst o2 (tl.map tvT),.int l,.lst true (tl.map fun t=>T.dT true (dG bg (mkA t))),.dT true [],.dT true (dG dF (bJ dF [] (sps l (P.take i) 0))),.int (tlA (P.take (i+1)) 0:Int),odT od,z8,z9,z10,.any,.any,.any,.any]) ?_ ?_
  ·rw[hw.2];cases od with
   |tk j=>rw[nU];nofun;rfl
   |ov b u v=>rw[nG];nofun;rfl
   |ct ps=>rw[l9];nofun;rfl
  rintro _ rfl;rw[hw.1,hw.2];have le:(sps l (P.take i) 0).length<=400:=by have h1:=jB (l:=l) (P:=P.take i) (t:=0);have h2:=qp (P:=P) (i:=i);have h3:=hP.2.2.1;lia
  cases od with
  |tk j=>rw[nU];nofun;exact⟨_,_,_,_,by rw[show sps l [Od.tk j] (tlA (P.take i) 0)=[]from rfl,I_]⟩
  |ov b u v=>rw[nG];nofun;exact⟨_,_,_,_,by rw[show sps l [Od.ov b u v] (tlA (P.take i) 0)=[]from rfl,I_]⟩
  |ct ps=>
   have hps:=pg hm;have hnp:=hP.2.2.1;have e1:sps l [Od.ct ps] (tlA (P.take i) 0)=(ps.filter fun p=>decide (l<p.2)).map fun p=>(tlA (P.take i) 0,p.1):=I_ _;have e2:tlA [Od.ct ps] (tlA (P.take i) 0)=tlA (P.take i) 0:=rfl;rw[e1,e2,fx,l9];clear hw e1 e2;generalize sps l (P.take i) 0=S at *;generalize tlA (P.take i) 0=tn at *;have lS:=bV (ρ:=dF) (l:=[]) (r:=S);rw[L_]at lS;generalize bJ dF [] S=SS at *;nofun;refine aU (fun j env=>∃(z8 z9 z10:T),env=[.lst false (P.map odT),.lst o2 (tl.map tvT),.int l,.lst true (tl.map fun t=>T.dT true (dG bg (mkA t))),.dT true [],.dT true (dG dF (bJ dF SS (((ps.take j).filter fun p=>decide (l<p.2)).map fun p=>(tn,p.1)))),.int (tn:Int),odT (.ct ps),z8,z9,z10,.any,.any,.any,.any]) ⟨_,_,_,rfl⟩ ?_ ?_
   ·rintro j t _ ⟨z8,z9,z10,rfl⟩ ej;obtain⟨p,ep,rfl⟩:=aM ej;have hj:=(c_.mp ep).1;rw[plT];nofun;rw[nQ ep];refine aY (fun g=>?_) (fun g=>?_)
    ·nofun;have la:=bV (ρ:=dF) (l:=SS) (r:=((ps.take j).filter fun p=>decide (l<p.2)).map fun p=>(tn,p.1));rw[a_]at la;have lb:=m_ la (MZ (m_ (MC _ _) (NL _ _)) _);rw[if_pos g,fx];exact⟨by rw[nq];lia,_,_,_,by rw[bJ,bJ,<-pC];rfl⟩
    nofun;rw[if_neg g,I_];exact⟨_,_,_,rfl⟩
   rintro _ ⟨z8,z9,z10,rfl⟩;rw[a_,w_];exact⟨_,_,_,_,rfl⟩
 rintro _ ⟨z7,z8,z9,z10,rfl⟩;rw[a_,w_];have hv:∀v∈bJ dF [] (sps l P 0),v.1<tl.length:=fun v m=>((cI iQ).mp m).elim (nomatch ·) (su hP v);have hS:(bJ dF [] (sps l P 0)).length<=400:=by have h1:=bV (ρ:=dF) (l:=[]) (r:=sps l P 0);have h2:=jB (l:=l) (P:=P) (t:=0);have h3:=hP.2.2.1;rw[L_]at h1;lia
 have q:=q _ (uQ hP ht);generalize bJ dF [] (sps l P 0)=S at *;generalize (tlA P 0:Int)=tn at *;nofun;refine aU (fun i env=>∃(b:Bool) (z8 z9 z11 z12 z13 z14:T),env=[.lst false (P.map odT),.lst o2 (tl.map tvT),.int l,.lst b (tl.map fun t=>T.dT b (dG bg (mkA t))),.dT true (dG bg (bJ bg [] (fnd tl (S.take i)))),.dT false (dG dF S),.int tn,z7,z8,z9,z10,z11,z12,z13,z14]) ⟨true,_,_,_,_,_,_,rfl⟩ ?_ ?_
 ·rintro i t _ ⟨b,z8,z9,z11,z12,z13,z14,rfl⟩ ei;obtain⟨v,ev,rfl⟩:=aM ei;have hi:=(c_.mp ev).1;have mv:=F' ev;nofun;refine aZ (Jx (hv v mv)) ?_;nofun;have lf:=uj ht (S:=S.take i) fun w mw=>hv w (Mu mw);have la:=bV (ρ:=bg) (l:=[]) (r:=fnd tl (S.take i));have lk:=zE (vR ht (hv v mv));rw[L_]at la;rw[C']at lf;have es:bJ bg [] (fnd tl (S.take (i+1)))=bJ bg (bJ bg [] (fnd tl (S.take i))) ((mkA (tl.getD v.1 (0,0,0,0,0))).map (mvQ v.2)):=by
   rw[LU,ev,<-fx,<-Bc]
   rfl
  rw[es];clear es;generalize bJ bg [] (fnd tl (S.take i))=F at *;generalize mkA (tl.getD v.1 (0,0,0,0,0))=M at *;refine aU (fun j env=>∃(z8 z9 z14:T),env=[.lst false (P.map odT),.lst o2 (tl.map tvT),.int l,.lst false (tl.map fun t=>T.dT false (dG bg (mkA t))),.dT true (dG bg (bJ bg F ((M.map (mvQ v.2)).take j))),.dT false (dG dF S),.int tn,z7,z8,z9,z10,.int (v.1:Int),.int v.2.1,.int v.2.2,z14]) ⟨_,_,_,rfl⟩ ?_ ?_
  ·rintro j t _ ⟨z8,z9,z14,rfl⟩ ej;obtain⟨m,em,rfl⟩:=aM ej;nofun;have lc:=bV (ρ:=bg) (l:=F) (r:=(M.map (mvQ v.2)).take j);have ld:=m_ lc (MZ (NL _ _) _);rw[a_]at ld;rw[rn (a:=mvQ v.2 m) (by rw[B_,em];rfl)];exact⟨by rw[nq];lia,_,_,_,by rw[<-pC];rfl⟩
  rintro _ ⟨z8,z9,z14,rfl⟩;have e3:(M.map (mvQ v.2)).take (M.map fun a=>T.tup [T.int a.1,T.int a.2.1,T.int (a.2.2:Int)]).length=M.map (mvQ v.2):=by rw[a_,show M.length=(M.map (mvQ v.2)).length from(a_ ..).symm,w_]
  rw[e3];exact⟨false,_,_,_,_,_,_,rfl⟩
 rintro _ ⟨b,z8,z9,z11,z12,z13,z14,rfl⟩;rw[a_,w_];nofun;exact q
end
def sj:FP:=fun ts k=>∃c n o,∃tl:List Tl,∃far cuts most:Int,ts=[stT c n,.lst o (tl.map tvT),.int far,.int cuts,.int most]/\n<2 ^ 36/\0<tl.length/\tl.length<=5/\1<=far/\far<=5/\0<=cuts/\cuts<=4/\1<=most/\most<=8/\∀(c':Cells) (n':Nat) (P:List Od) (z2:T),n'<=n+9000->OkP tl.length 21 72 P->P.length<=26->k (.lst true (P.map odT)) [stT c' n',.lst o (tl.map tvT),z2,.int cuts,.int most]
section
variable{P:Q5}{w:Q8}{K:QT}{mg:Str->Option QR}{base:Q_}
theorem pS:FnScope ["_law_state","_law_tools_here","_law_far","_law_cuts","_law_most","_law_program_here","_law_turn","_law_corner","_law_again","_law_places_here"] ["_law_state","_law_tools_here","_law_far","_law_cuts","_law_most"] (av nH):=⟨rfl,rfl,rfl,by rfl',rfl,by rfl',by rfl'⟩
theorem xt(F:Fun K "_law_program" "_law_program" nH f fd)(TX:Txt mg)  (G_take:Cal P w K mg base 1 "_law_take" ["_law_state","_law_many"] (aL K 2 kU))(G_places:Cal P w K mg base 2 "_law_places" ["_law_state","_law_corner","_law_many"] (aL K 3 vW)):FnOk P w K mg base CX0 3 f fd ["_law_state","_law_tools_here","_law_far","_law_cuts","_law_most"] (aL K 5 sj):=by
 refine bN F pS [true,true,false,true,true] rfl (fun cdv A outer s H E hr=>?_);have sc:=@pS;refine⟨_,(af (ax (i:=5) sc.nd (by rfl) (f_ rfl) (by rfl) (ba (ab (aF (ab ge_str (ab (au G_take hr (by rfl) (aV 0 (ah (aB (ay bD (by rfl) TX.len (by rfl') (ab (ae 1) ag))) aq))) ag))) ag))) (dN (bj (ck (aT (bF hr) (ae 2) ge_int (aK _))) (af jK (ai jK)) aH) (af (bA Rk (by rfl) (dO (by rfl) TX.range (ab (bc 3) ag)) (ak (i:=6) sc.nd (by rfl) (f_ rfl) (by rfl)) (dN (bj (aT (bF hr) (au G_take hr (by rfl) (aV 0 (ah ge_int aq))) ge_int (aK _)) (ai (bK (bO 5 Rt Ru bq (ab (aF (ab ge_str (ab (au G_take hr (by rfl) (aV 0 (ah (aB (ay bD (by rfl) TX.len (by rfl') (ab (ae 1) ag))) aq))) ag))) ag)))) aH) (af (ax (i:=7) sc.nd (by rfl) (f_ rfl) (by rfl) (aF (ab (aj bP (au G_take hr (by rfl) (aV 0 (ah (aB (aj az (aj aS ge_int (ae 2)) ge_int)) aq))) (bc 2)) (ab (aj bP (au G_take hr (by rfl) (aV 0 (ah (aB (aj az (aj aS ge_int (ae 2)) ge_int)) aq))) (bc 2)) ag)))) (af (bK (bO 5 Rt Ru bq (ab (aF (ab ge_str (ab (aA hr (aB (ba (ab ge_str (ab ge_str ag)))) (au G_take hr (by rfl) (aV 0 (ah ge_int aq)))) (ab (aB (aA hr (ae 7) ge_int)) (ab (aB (aA hr (ae 7) ge_int)) ag))))) ag))) (ai (bA Rk (by rfl) (dO (by rfl) TX.range (ab (aj az ge_int (au G_take hr (by rfl) (aV 0 (ah ge_int aq)))) ag)) (ak (i:=8) sc.nd (by rfl) (f_ rfl) (by rfl)) (dN (bj (vL (qE (ck (aT xX (ae 8) ge_int (aK _))) (mS (aT (bF hr) (au G_take hr (by rfl) (aV 0 (ah ge_int aq))) ge_int (aK _))))) (ai (bK (bO 5 Rt Ru bq (ab (aF (ab ge_str (ab (au G_take hr (by rfl) (aV 0 (ah (aB (ay bD (by rfl) TX.len (by rfl') (ab (ae 1) ag))) aq))) ag))) ag)))) aH) (af (lV (au G_places hr (by rfl) (aV 0 (ah (bc 7) (ah (au G_take hr (by rfl) (aV 0 (ah (bc 4) aq))) aq)))) (cF (n:=2) (by rfl) (aC (ak (i:=9) sc.nd (by rfl) (f_ rfl) (by rfl)) (aC (ak (i:=7) sc.nd (by rfl) (f_ rfl) (by rfl)) bU)))) (ai (bK (bO 5 Rt Ru bq (ab (aB (aF (ab ge_str (ab (cB cE (by rfl) TX.tuple (by rfl') (ab (ae 9) ag)) ag)))) ag)))))))))))) (ai (aG (qt 5)))))),fun ts kk hl hp=>?_⟩;clear hl;obtain⟨c,n,o,tl,far,cuts,most,rfl,hn,l0,l1,f0,f1,k0,k1,m0,m1,q⟩:=hp;nofun;walk_at "take";intro t0 c1 t1 t2;nofun;obtain⟨t0',rfl⟩:∃j:Nat,t0=(j:Int):=⟨t0.toNat,by lia⟩;have p0:PrO tl.length [.tk t0'] 0 1:=Ld (by lia);refine gp (fun env=>env=[stT c1 (n+1),.lst o (tl.map tvT),.int far,.int cuts,.int most,.lst true [odT (.tk t0')],.any,.any,.any,.any]) ?_ ?_
 ·nofun;refine aY (fun g=>absurd g (by lia)) (fun g=>?_);nofun
  rfl
 rintro _ rfl;nofun;refine⟨by lia,aU (fun i env=>∃(c':Cells) (n':Nat) (P:List Od) (z6 z7 z8 z9:T),n'<=n+400+700*i/\PrO tl.length P (8+16*i) (2+6*i)/\env=[stT c' n',.lst o (tl.map tvT),.int far,.int cuts,.int most,.lst true (P.map odT),z6,z7,z8,z9]) ⟨c1,n+1,[.tk t0'],_,_,_,_,by lia,sQ p0 (by decide) (by decide),rfl⟩ ?_ ?_⟩
 ·clear p0 t1 t2 c1;rintro i t _ ⟨c1,n1,P,z6,z7,z8,z9,l3,pr,rfl⟩ ei;have hi:=fR ei;nofun;refine gp (fun env=>∃(c':Cells) (n':Nat) (P:List Od),n'<=n+402+700*i/\PrO tl.length P (8+16*i) (3+6*i)/\env=[stT c' n',.lst o (tl.map tvT),.int far,.int cuts,.int most,.lst true (P.map odT),t,z7,z8,z9]) ?_ ?_
  ·nofun;walk_at "take";intro w c3 w1 w2;nofun;refine aY (fun g=>?_) (fun g=>?_)
   ·nofun;walk_at "take";intro w' c4 w3 w4;nofun;obtain⟨j,rfl⟩:∃j:Nat,w'=(j:Int):=⟨w'.toNat,by lia⟩;have:=pr.2.2.1;exact⟨by lia,c4,n1+1+1,P++[.tk j],by lia,uh (.tk j) pr (show 0+_<=_ by lia) (by lia) (show j<tl.length by lia),by rw[q_];rfl⟩
   nofun;exact⟨c3,_,P,by lia,sQ pr (by lia) (by lia),rfl⟩
  clear pr P l3 c1 n1;rintro _ ⟨c1,n1,P,l3,pr,rfl⟩;nofun;refine⟨.inl ⟨by decide,by decide⟩,?_⟩;walk_at "take";intro x c2 x1 x2;nofun;refine⟨.inl ⟨by decide,by decide⟩,?_⟩;walk_at "take";intro y c3 y1 y2;nofun;walk_at "take";intro d c4 d1 d2;nofun;obtain⟨hg,eh⟩:=JK d1 d2;refine aZ eh ?_;nofun;have lP:=pr.2.2.1;refine⟨by lia,?_⟩;walk_at "take";intro k c5 e1 e2;nofun;refine⟨by lia,aU (fun j env=>∃(c':Cells) (n':Nat) (P:List Od) (cr:Pt) (z8 z9:T),n'<=n+410+700*i+310*j/\PrO tl.length P (8+16*i+8*j) (4+6*i+2*j)/\(-5-8*(j:Int)<=cr.1/\cr.1<=5+8*(j:Int)/\-5-8*(j:Int)<=cr.2/\cr.2<=5+8*(j:Int))/\env=[stT c' n',.lst o (tl.map tvT),.int far,.int cuts,.int most,.lst true (P.map odT),t,ptP cr,z8,z9]) ⟨c5,n1+1+1+1+1,P++[.ov hg (x-far) (y-far)],(x-far,y-far),_,_,by lia,uh (.ov hg (x-far) (y-far)) pr (show 0+_<=_ by lia) (by lia) trivial,by dsimp only;lia,by rw[q_];rfl⟩ ?_ ?_⟩
  ·clear pr lP P l3;rintro j t' _ ⟨c',n',P,cr,z8,z9,l3,pr,hc,rfl⟩ ej;have hj:=fR ej;have et:=pH ej;subst et;nofun;refine gp (fun env=>∃(c':Cells) (n':Nat) (P:List Od),n'<=n+412+700*i+310*j/\PrO tl.length P (8+16*i+8*j) (5+6*i+2*j)/\env=[stT c' n',.lst o (tl.map tvT),.int far,.int cuts,.int most,.lst true (P.map odT),t,ptP cr,.int (0+j),z9]) ?_ ?_
   ·nofun;refine aY (fun g=>?_) (fun g=>?_)
    ·nofun;walk_at "take";intro w c7 w1 w2;nofun;refine aY (fun g=>?_) (fun g=>?_)
     ·nofun;walk_at "take";intro w' c8 w3 w4;nofun;obtain⟨j',rfl⟩:∃j:Nat,w'=(j:Int):=⟨w'.toNat,by lia⟩;have lP:=pr.2.2.1;exact⟨by lia,c8,n'+1+1,P++[.tk j'],by lia,uh (.tk j') pr (show 0+_<=_ by lia) (by lia) (show j'<tl.length by lia),by rw[q_];rfl⟩
     nofun;exact⟨c7,_,P,by lia,sQ pr (by lia) (by lia),rfl⟩
    nofun;exact⟨c',_,P,by lia,sQ pr (by lia) (by lia),rfl⟩
   clear pr P l3;rintro _ ⟨c',n',P,l3,pr,rfl⟩;nofun;walk_at "take";intro w c7 w1 w2;nofun;refine⟨c7,n'+1,cr,w,rfl,by lia,w1,by lia,fun c8 n8 ps e l5 hps l6 l7 he=>?_⟩;nofun;have lP:=pr.2.2.1;exact⟨by lia,c8,n8,P++[.ct ps],e,_,_,by lia,uh (.ct ps) pr (show ps.length+_<=_ by lia) (by lia) (fun p' m'=>by have:=hps p' m';lia),by lia,by rw[q_];rfl⟩
  rintro _ ⟨c',n',P,cr,z8,z9,l3,pr,hc,rfl⟩;rw[cO]at l3 pr;exact⟨c',n',P,_,_,_,_,by lia,sQ pr (by lia) (by lia),rfl⟩
 rintro _ ⟨c',n',P,z6,z7,z8,z9,l3,pr,rfl⟩;rw[cO]at l3 pr;nofun;have pr:PrO tl.length P 72 26:=sQ pr (by lia) (by lia);exact q c' n' P _ (by lia) (KU pr (by decide)) pr.2.2.1
end
noncomputable def pR:Nat->FP
 |0=>fun _ _=>False
 |n+1=>fun ts k=>(∃a:Int,ts=[.int a,.int a]/\k (.bl true) ts)\/∃(o o':Bool) (ns:List Int),1<=n/\ts=[.lst o (ns.map T.int),.lst o' (ns.map T.int)]/\ns.length<=100/\∀z1 z2,k (.bl true) [z1,z2]
section
variable{P:Q5}{w:Q8}{K:QT}{mg:Str->Option QR}{base:Q_}
theorem zb:FnScope ["_law_found","_law_due"] ["_law_found","_law_due"] (av s_same):=⟨rfl,rfl,rfl,by rfl',rfl,by rfl',by rfl'⟩
theorem EH(n:Nat)(F:Fun K "_law_same" "_law_same" s_same f fd)(TX:Txt mg)(G_same:Cal P w K mg base (1+n) "_law_same" ["_law_found","_law_due"] (aL K 2 (pR n))):FnOk P w K mg base CX0 (1+(n+1)) f fd ["_law_found","_law_due"] (aL K 2 (pR (n+1))):=by
 refine bN (k:=1+n) F zb [true,true] rfl (fun cdv A outer s H E hr=>?_);have sc:=@zb;have nd1:(["_law_one","_law_other"]:List Str).Nodup:=by rfl'
 refine⟨_,(af (bj (ck (aT tD (ae 1) nZ (aK _))) (ai jK) aH) (af (bj (ck (cL (ay bH (by rfl) TX.isinstance (by rfl') (ab (ae 1) (ab (jO (n:="dict") (by rfl) TX.dict (by rfl')) ag))))) (af jK (ai jK)) aH) (af (bj (ck (vL (Dv (cL (ay bH (by rfl) TX.isinstance (by rfl') (ab (ae 1) (ab (jO (n:="list") (by rfl) TX.list (by rfl')) ag)))) (xQ (cL (ay bH (by rfl) TX.isinstance (by rfl') (ab (ae 1) (ab (jO (n:="tuple") (by rfl) TX.tuple (by rfl')) ag)))))))) (af (bj (ck (aT (mF hr) (ay bH (by rfl) TX.isinstance (by rfl') (ab (ae 0) (ab (jO (n:="list") (by rfl) TX.list (by rfl')) ag))) (ay bH (by rfl) TX.isinstance (by rfl') (ab (ae 1) (ab (jO (n:="list") (by rfl) TX.list (by rfl')) ag))) (aK _))) (ai (aG cG)) aH) (af (bj (ck (vL (Dv (aT (mF hr) (ay bH (by rfl) TX.isinstance (by rfl') (ab (ae 0) (ab (jO (n:="tuple") (by rfl) TX.tuple (by rfl')) ag))) (ay bH (by rfl) TX.isinstance (by rfl') (ab (ae 1) (ab (jO (n:="tuple") (by rfl) TX.tuple (by rfl')) ag))) (aK _)) (xQ (aT (mF hr) (ay bD (by rfl) TX.len (by rfl') (ab (ae 0) ag)) (ay bD (by rfl) TX.len (by rfl') (ab (ae 1) ag)) (aK _)))))) (ai (aG cG)) aH) (ai (aG (aB (ay (sL rfl) (by rfl) TX.all (by rfl') (ab (bu sc ["_law_one","_law_other"] [none,none] nd1 (by rfl') (xN (by rfl) TX.zip (ab (ae 0) (ab (ae 1) ag))) (fun _ _ _=>(cF (n:=2) (by rfl) (aC (ak (i:=0) nd1 (by rfl) (f_ rfl) (by rfl) (hf:=(v_ rfl))) (aC (ak (i:=1) nd1 (by rfl) (f_ rfl) (by rfl) (hf:=(v_ rfl))) bU)))) (fun _ _ _=>bo) (fun _ _ _=>(au G_same hr (by rfl) (ah (ae 0) (ah (ae 1) aq))))) ag))))))) aH) (af (bj (ck (cL (ay bH (by rfl) TX.isinstance (by rfl') (ab (ae 1) (ab (jO (n:="str") (by rfl) TX.str (by rfl')) ag))))) (ai jK) aH) (ai (aG (aB (BP (ay bH (by rfl) TX.isinstance (by rfl') (ab (ae 0) (ab (jO (n:="int") (by rfl) TX.int (by rfl')) ag))) (BP (H0 (ay bH (by rfl) TX.isinstance (by rfl') (ab (ae 0) (ab (jO (n:="bool") (by rfl) TX.bool (by rfl')) ag)))) (J7 (t9 (bF hr) (ae 0) (ae 1) (aK _)))))))))))),fun ts kk hl hp=>?_⟩;clear hl;rcases hp with⟨a,rfl,q⟩|⟨o,o',ns,hn,rfl,hl,q⟩
 ·nofun;exact q
 cases n with
 |zero=>exact absurd hn (by decide)
 |succ m=>
 nofun;refine tf rfl ?_;nofun;refine tf rfl ?_;nofun;rw[Qw,z_];refine aP (by rw[a_,sizeLine_eq];lia) (fun i acc ie=>∃z1 z2,acc=(ns.take i).map (fun _=>T.bl true)/\ie=[z1,z2]) ⟨_,_,rfl,rfl⟩ ?_ ?_
 ·rintro i u _ _ ⟨z1,z2,rfl,rfl⟩ ei;obtain⟨x,ex,rfl⟩:=aM ei;rw[Y7];nofun;refine .inl ⟨x,rfl,?_⟩;nofun;exact⟨_,_,by rw[map_take ex],rfl⟩
 rintro _ _ ⟨z1,z2,rfl,rfl⟩;rw[a_,w_];nofun;refine aZ (jg _ _) ?_;nofun;rw[NV,show ns.all (id ∘ fun _=>true)=true from Nh.mpr fun _ _=>rfl];exact q _ _
end
def yJ:FP:=fun ts k=>∃(o:Bool) (P:List Od) (x:Int),ts=[.lst o (P.map odT),.int x]/\(P.length<=100/\nPl P<=100)/\k (.lst true ((P.map (mvE x)).map odT)) [.lst false (P.map odT),.int x]
section
variable{P:Q5}{w:Q8}{K:QT}{mg:Str->Option QR}{base:Q_}
theorem vd:FnScope ["_law_program_here","_law_x","_law_found","_law_order"] ["_law_program_here","_law_x"] (av t7):=⟨rfl,rfl,rfl,by rfl',rfl,by rfl',by rfl'⟩
theorem Bt(F:Fun K "_law_apart" "_law_apart" t7 f fd)(TX:Txt mg)  :FnOk P w K mg base CX0 1 f fd ["_law_program_here","_law_x"] (aL K 2 yJ):=by
 refine bN F vd [true,true] rfl (fun cdv A outer s H E hr=>?_);have sc:=@vd;have nd1:(["_law_one","_law_other","_law_z","_law_x"]:List Str).Nodup:=by rfl'
 refine⟨_,(af (ax (i:=2) sc.nd (by rfl) (f_ rfl) (by rfl) (aB (ba ag))) (af (bA Rk (by rfl) (aR (bc 0)) (ak (i:=3) sc.nd (by rfl) (f_ rfl) (by rfl)) (dN (bj (ck (aT (bF hr) (aA hr (ae 3) ge_int) ge_str (aK _))) (ai (ax (i:=3) sc.nd (by rfl) (f_ rfl) (by rfl) (aB (aF (ab ge_str (ab (aA hr (ae 3) ge_int) (ab (aj az (aA hr (ae 3) ge_int) (ae 1)) (ab (aA hr (ae 3) ge_int) ag)))))))) aH) (dN (bj (ck (aT (bF hr) (aA hr (ae 3) ge_int) ge_str (aK _))) (ai (ax (i:=3) sc.nd (by rfl) (f_ rfl) (by rfl) (aB (aF (ab ge_str (ab (cB cE (by rfl) TX.tuple (by rfl') (ab (bu sc ["_law_one","_law_other","_law_z","_law_x"] [none,none,none,some 1] nd1 (by rfl') (aR (aA hr (ae 3) ge_int)) (fun _ _ _=>(cF (n:=3) (by rfl) (aC (ak (i:=0) nd1 (by rfl) (f_ rfl) (by rfl) (hf:=(v_ rfl))) (aC (ak (i:=1) nd1 (by rfl) (f_ rfl) (by rfl) (hf:=(v_ rfl))) (aC (ak (i:=2) nd1 (by rfl) (f_ rfl) (by rfl) (hf:=(v_ rfl))) bU))))) (fun _ _ _=>bo) (fun _ _ _=>(aF (ab (aj az (ae 0) (ae 3)) (ab (ae 1) (ab (ae 2) ag)))))) ag)) ag)))))) aH) (ai (bK (bO 2 Rt Ru bq (ab (bc 3) ag))))))) (ai (aG (qt 2))))),fun ts kk hl hp=>?_⟩;clear hl;obtain⟨o,P,x,rfl,hP,q⟩:=hp;nofun;refine aU (fun i env=>∃z,env=[.lst false (P.map odT),.int x,.lst true (((P.take i).map (mvE x)).map odT),z]) ⟨_,rfl⟩ ?_ ?_
 ·rintro i t _ ⟨z,rfl⟩ ei;obtain⟨od,eo,rfl⟩:=aM ei;have hi:=(c_.mp eo).1;have hm:=F' eo;nofun;refine gp (fun env=>env=[.lst false (P.map odT),.int x,.lst true (((P.take i).map (mvE x)).map odT),odT (ovE x od)]) ?_ ?_
  ·cases od with
   |tk j=>rw[nU];nofun;rfl
   |ov b u v=>rw[nG];nofun;rfl
   |ct ps=>rw[l9];nofun;rfl
  rintro _ rfl;refine gp (fun env=>env=[.lst false (P.map odT),.int x,.lst true (((P.take i).map (mvE x)).map odT),odT (mvE x od)]) ?_ ?_
  ·cases od with
   |tk j=>rw[show ovE x (.tk j)=.tk j from rfl,nU];nofun;rfl
   |ov b u v=>rw[show ovE x (.ov b u v)=.ov b (u+x) v from rfl,nG];nofun;rfl
   |ct ps=>
    have hl:=pg hm;rw[show ovE x (.ct ps)=.ct ps from rfl,l9];nofun;refine aP (by rw[a_,sizeLine_eq];lia) (fun j acc ie=>∃z1 z2 z3,acc=(ps.take j).map (fun p=>plT ((p.1.1+x,p.1.2),p.2))/\ie=[z1,z2,z3,.int x]) ⟨_,_,_,rfl,rfl⟩ ?_ ?_
    ·rintro j u _ _ ⟨z1,z2,z3,rfl,rfl⟩ ej;obtain⟨p,ep,rfl⟩:=aM ej;rw[plT];nofun;exact⟨_,_,_,by rw[map_take ep];rfl,rfl⟩
    rintro _ _ ⟨z1,z2,z3,rfl,rfl⟩;rw[a_,w_];nofun;rw[mvE,l9,z_ (l:=ps)]
    rfl
  rintro _ rfl;nofun;exact⟨by rw[C'];lia,_,by rw[LU,eo,q_,q_];rfl⟩
 rintro _ ⟨z,rfl⟩;rw[a_,w_];nofun;exact q
end
def vC:FP:=fun ts k=>∃(o o2:Bool) (P:List Od) (tl:List Tl) (l:Int),ts=[.lst o (P.map odT),.lst o2 (tl.map tvT),.int l]/\OkP tl.length 21 72 P/\(∀t∈tl,tlO t)/\∀z1 z2,k (.bl true) [z1,z2,.int l]
section
variable{P:Q5}{w:Q8}{K:QT}{mg:Str->Option QR}{base:Q_}
theorem sk:FnScope ["_law_program_here","_law_tools_here","_law_layer","_law_total","_law_orders","_law_order","_law_now"] ["_law_program_here","_law_tools_here","_law_layer"] (av pX):=⟨rfl,rfl,rfl,by rfl',rfl,by rfl',by rfl'⟩
theorem Ak(F:Fun K "_law_walked" "_law_walked" pX f fd)(TX:Txt mg)  (G_cut_area:Cal P w K mg base 6 "cut_area" ["program","tools","layer"] (aL K 3 kC)):FnOk P w K mg base CX0 7 f fd ["_law_program_here","_law_tools_here","_law_layer"] (aL K 3 vC):=by
 refine bN F sk [true,true,true] rfl (fun cdv A outer s H E hr=>?_);have sc:=@sk;refine⟨_,(af (ax (i:=3) sc.nd (by rfl) (f_ rfl) (by rfl) ge_int) (af (ax (i:=4) sc.nd (by rfl) (f_ rfl) (by rfl) (aB (ba ag))) (af (bA Rk (by rfl) (aR (bc 0)) (ak (i:=5) sc.nd (by rfl) (f_ rfl) (by rfl)) (af (bK (bO 4 Rt Ru bq (ab (bc 5) ag))) (af (ax (i:=6) sc.nd (by rfl) (f_ rfl) (by rfl) (aB (au G_cut_area hr (by rfl) (ah (ae 4) (ah (ae 1) (ah (ae 2) aq)))))) (af (bj (ck (vL (Dv (aT Ct (ae 6) (ae 3) (aK _)) (xQ (vL (qE (aT (mF hr) (aA hr (ae 5) ge_int) ge_str (aK _)) (mS (aT (mF hr) (ae 6) (ae 3) (aK _))))))))) (ai (aG cG)) aH) (ai (ax (i:=3) sc.nd (by rfl) (f_ rfl) (by rfl) (bc 6))))))) (ai (aG cG))))),fun ts kk hl hp=>?_⟩;clear hl;obtain⟨o,o2,P,tl,l,rfl,hP,ht,q⟩:=hp;nofun;refine aU (fun i env=>∃(o2:Bool) (qs:List Qt) (z5 z6:T),Cuts l tl (P.take i) qs/\env=[.lst false (P.map odT),.lst o2 (tl.map tvT),.int l,.int (qs.length:Int),.lst true ((P.take i).map odT),z5,z6]) ⟨o2,[],_,_,HG rfl,rfl⟩ ?_ ?_
 ·rintro i t _ ⟨o2,qs,z5,z6,hq,rfl⟩ ei;obtain⟨od,eo,rfl⟩:=aM ei;have et:=(um hP eo).1;have hT:=DF hP (i+1);have hq':=uQ (l:=l) hT ht;have sd:jj 200 (cn l tl (P.take (i+1))):=sV hT ht (m_ eA (m_ hT.2.2.1 (by decide))) (by decide) (by decide);have da:=jq hT ht sd hq';generalize bJ bg [] (fnd tl (bJ dF [] (sps l (P.take (i+1)) 0)))=rs at *;have st:=Ac hq (by rw[<-et];exact hq');have em:(P.take (i+1)).map odT=(P.take i).map odT++[odT od]:=by rw[et,q_];rfl
  have hi:=(c_.mp eo).1;have hl:=hP.2.1;nofun;refine⟨by rw[C'];lia,false,false,P.take (i+1),tl,l,21,72,200,by rw[em],hT,by decide,sd,?_⟩;rw[da,<-em];nofun;refine aY (fun g=>absurd g (by lia)) (fun g=>?_);cases od with
  |tk j=>
   have:=st.2 rfl;rw[nU];nofun;refine aY (fun g=>?_) (fun g=>absurd (by lia) g);nofun;exact⟨_,rs,_,_,hq',by rw[em];rfl⟩
  |ov b x y=>
   have:=st.2 rfl;rw[nG];nofun;refine aY (fun g=>?_) (fun g=>absurd (by lia) g);nofun;exact⟨_,rs,_,_,hq',by rw[em];rfl⟩
  |ct ps=>
   rw[l9];nofun;exact⟨_,rs,_,_,hq',by rw[em];rfl⟩
 rintro _ ⟨o2,qs,z5,z6,hq,rfl⟩;nofun;exact q _ _
theorem CV:FnScope ["_law_script","_law_state","_law_tools_here","_law_one","_law_other","_law_layer","_law_areas","_law_both"] ["_law_script"] (av jk):=⟨rfl,rfl,rfl,by rfl',rfl,by rfl',by rfl'⟩
theorem Hi(F:Fun K "law" "law" jk f fd)(TX:Txt mg)  (G_cut_octos:Cal P w K mg base 5 "cut_octos" ["program","tools","layer"] (aL K 3 jn))(G_cut_area:Cal P w K mg base 6 "cut_area" ["program","tools","layer"] (aL K 3 kC))(G_begin:Cal P w K mg base 1 "_law_begin" ["_law_script"] (aL K 1 (uH K)))(G_take:Cal P w K mg base 1 "_law_take" ["_law_state","_law_many"] (aL K 2 kU))(G_same:Cal P w K mg base 3 "_law_same" ["_law_found","_law_due"] (aL K 2 (pR 2)))(G_tools:Cal P w K mg base 3 "_law_tools" ["_law_state","_law_most"] (aL K 2 zL))(G_program:Cal P w K mg base 3 "_law_program" ["_law_state","_law_tools_here","_law_far","_law_cuts","_law_most"] (aL K 5 sj))(G_cut:Cal P w K mg base 3 "_law_cut" ["_law_program_here","_law_tools_here","_law_layer"] (aL K 3 Gj))(G_apart:Cal P w K mg base 1 "_law_apart" ["_law_program_here","_law_x"] (aL K 2 yJ))(G_walked:Cal P w K mg base 7 "_law_walked" ["_law_program_here","_law_tools_here","_law_layer"] (aL K 3 vC)):FnOk P w K mg base CX0 8 f fd ["_law_script"] (aL K 1 (De K)):=by
 refine bN F CV [true] rfl (fun cdv A outer s H E hr=>?_);have sc:=@CV;refine⟨_,(af (ax (i:=1) sc.nd (by rfl) (f_ rfl) (by rfl) (aB (au G_begin hr (by rfl) (ah (ae 0) aq)))) (af (ax (i:=2) sc.nd (by rfl) (f_ rfl) (by rfl) (au G_tools hr (by rfl) (aV 1 (ah ge_int aq)))) (af (ax (i:=3) sc.nd (by rfl) (f_ rfl) (by rfl) (au G_program hr (by rfl) (aV 1 (ah (bc 2) (ah ge_int (ah (aj az ge_int (au G_take hr (by rfl) (aV 1 (ah ge_int aq)))) (ah ge_int aq))))))) (af (ax (i:=4) sc.nd (by rfl) (f_ rfl) (by rfl) (au G_program hr (by rfl) (aV 1 (ah (bc 2) (ah ge_int (ah (aj az ge_int (au G_take hr (by rfl) (aV 1 (ah ge_int aq)))) (ah ge_int aq))))))) (af (bA Rk (by rfl) (aR (aF (ab ge_int (ab (aj az ge_int (au G_take hr (by rfl) (aV 1 (ah ge_int aq)))) ag)))) (ak (i:=5) sc.nd (by rfl) (f_ rfl) (by rfl)) (af (ax (i:=6) sc.nd (by rfl) (f_ rfl) (by rfl) (aB (ba (ab (au G_cut_area hr (by rfl) (ah (ae 3) (ah (ae 2) (ah (ae 5) aq)))) (ab (au G_cut_area hr (by rfl) (ah (ae 4) (ah (ae 2) (ah (ae 5) aq)))) ag))))) (af (ax (i:=7) sc.nd (by rfl) (f_ rfl) (by rfl) (aB (ay bD (by rfl) TX.len (by rfl') (ab (cB (x8 rfl (L7 hr)) (by rfl) TX.dict (by rfl') (ab (aj az (mh (by rfl) (by rfl) TX.list (au G_cut hr (by rfl) (ah (ae 3) (ah (ae 2) (ah (ae 5) aq))))) (mh (by rfl) (by rfl) TX.list (au G_cut hr (by rfl) (ah (ae 4) (ah (ae 2) (ah (ae 5) aq)))))) ag)) ag)))) (af (bj (ck (nS (cL (au G_same hr (by rfl) (ah (ba (ab (au G_cut_area hr (by rfl) (ah (aj az (ae 3) (ae 4)) (ah (ae 2) (ah (ae 5) aq)))) (ab (au G_cut_area hr (by rfl) (ah (aj az (ae 4) (ae 3)) (ah (ae 2) (ah (ae 5) aq)))) ag))) (ah (ba (ab (ae 7) (ab (ae 7) ag))) aq)))))) (ai (aG cG)) aH) (af (bj (ck (nS (vV jo jo (ay (dP rfl) (by rfl) TX.max (by rfl') (ab (ae 6) ag)) (ae 7) (ay (sG rfl) (by rfl) TX.sum (by rfl') (ab (ae 6) ag))))) (ai (aG cG)) aH) (af (bj (ck (nS (cL (au G_same hr (by rfl) (ah (au G_cut_area hr (by rfl) (ah (aj az (ae 3) (au G_apart hr (by rfl) (ah (ae 4) (ah ge_int aq)))) (ah (ae 2) (ah (ae 5) aq)))) (ah (ay (sG rfl) (by rfl) TX.sum (by rfl') (ab (ae 6) ag)) aq)))))) (ai (aG cG)) aH) (af (bj (ck (nS (cL (au G_walked hr (by rfl) (ah (ae 3) (ah (ae 2) (ah (ae 5) aq))))))) (ai (aG cG)) aH) (af (bK (AI PySem.F.slot_list_clear PySem.F.type_list_clear Ad (aB (au G_cut_octos hr (by rfl) (ah (ae 3) (ah (ae 2) (ah (ae 5) aq))))))) (ai (bj (ck (nS (cL (au G_same hr (by rfl) (ah (ba (ab (au G_cut_area hr (by rfl) (ah (ae 3) (ah (ae 2) (ah (ae 5) aq)))) (ab (au G_cut_area hr (by rfl) (ah (ae 4) (ah (ae 2) (ah (ae 5) aq)))) ag))) (ah (ae 6) aq)))))) (ai (aG cG)) aH)))))))))) (ai (aG cG))))))),fun ts kk hl hp=>?_⟩;clear hl;obtain⟨t,ns,rfl,hs,hn,q⟩:=hp;nofun;obtain⟨e,i⟩:=He hs;rw[e];refine⟨i,t,ns,rfl,hs,hn,fun c=>⟨BQ,?_⟩⟩;nofun;refine⟨c,0,4,rfl,by decide,by decide,by decide,fun c1 n1 tl l2 l3 l4 ht=>?_⟩;nofun;walk_at "take";intro g c2 g1 g2;nofun;refine⟨c2,n1+1,false,tl,5,1+g,6,rfl,by lia,l3,l4,by decide,by decide,by lia,by lia,by decide,by decide,fun c3 n3 P z2 l6 hP lP=>?_⟩;nofun;walk_at "take";intro g' c4 g3 g4;nofun;refine⟨c4,n3+1,false,tl,5,1+g',6,rfl,by lia,l3,l4,by decide,by decide,by lia,by lia,by decide,by decide,fun c5 n5 R z3 l8 hR lR=>?_⟩;nofun;walk_at "take";intro y c6 y1 y2;nofun;have sP:∀l,jj 200 (cn l tl P):=fun l=>sV hP ht (m_ eA (m_ hP.2.2.1 (by decide))) (by decide) (by decide)
 have sR:∀l,jj 200 (cn l tl R):=fun l=>sV hR ht (m_ eA (m_ hR.2.2.1 (by decide))) (by decide) (by decide)
 have hA:=xc hP hR (by lia);have hB:=xc hR hP (by lia);have hC:=xc (Bv (x:=60) hP (by decide)).2 (Bv (x:=60) hR (by decide)).1 (by rw[a_];lia);have sA:∀l,jj 200 (cn l tl (P++R)):=fun l=>sV hA ht (m_ eA (m_ hA.2.2.1 (by decide))) (by decide) (by decide)
 have sB:∀l,jj 200 (cn l tl (R++P)):=fun l=>sV hB ht (m_ eA (m_ hB.2.2.1 (by decide))) (by decide) (by decide)
 have sC:∀l,jj 200 (cn l tl (P++R.map (mvE 60))):=fun l=>sV hC ht (m_ eA (m_ hC.2.2.1 (by decide))) (by decide) (by decide)
 refine aU (fun i env=>∃z5 z6 z7:T,env=[t,stT c6 (n5+1),.lst false (tl.map tvT),.lst true (P.map odT),.lst true (R.map odT),z5,z6,z7]) ⟨_,_,_,rfl⟩ ?_ ?_
 ·rintro i u _ ⟨z5,z6,z7,rfl⟩ ei;obtain⟨l,rfl⟩:∃l,u=T.int l:=by have:=F' ei;simp only[p_,Mi,or_false]at this;exact this.elim (fun h=>⟨_,h⟩) fun h=>⟨_,h⟩
  clear ei;nofun;refine⟨false,false,P,tl,l,21,72,200,rfl,hP,by decide,sP l,?_⟩;nofun;refine⟨false,false,R,tl,l,21,72,200,rfl,hR,by decide,sR l,?_⟩;nofun;refine⟨false,false,P,tl,l,21,72,rfl,hP,by decide,⟨l4,ht⟩,fun qs hq=>?_⟩;nofun;refine Ga ?_;refine⟨false,false,R,tl,l,21,72,rfl,hR,by decide,⟨l4,ht⟩,fun rs hr=>?_⟩;nofun;refine Ga ?_;nofun;refine⟨by unfold qY;rw[a_,a_];have:=vT hP ht hq;have:=vT hR ht hr;lia,Cr ?_⟩;have nb:(bJ bg [] (qs++rs)).Nodup:=tG jl MG;have mb:∀q,q∈bJ bg [] (qs++rs)↔q∈qs\/q∈rs:=fun q=>by rw[cI jl,x_];exact⟨fun h=>h.elim (nomatch ·) id,.inr⟩
  have lb:=bV (ρ:=bg) (l:=[]) (r:=qs++rs);rw[e_,L_]at lb;have l1:=k9 hq.1 fun q m=>(mb q).mpr (.inl m);have l2:=k9 hr.1 fun q m=>(mb q).mpr (.inr m);have d1:=jq hA ht (sA l) (qv hR.1 hq hr nb mb);have d2:=jq hB ht (sB l) (qv hP.1 hr hq nb fun q=>(mb q).trans or_comm);have d3:=jq hC ht (sC l) (xG hP hR ht hq hr);rw[e_,a_]at d3;rw[jq hP ht (sP l) hq,jq hR ht (sR l) hr];generalize bJ bg [] (qs++rs)=ss at *;nofun;refine⟨by lia,true,false,P++R,tl,l,21,144,200,by rw[q_],hA,by decide,sA l,?_⟩;rw[d1];nofun;refine⟨by lia,true,false,R++P,tl,l,21,144,200,by rw[q_],hB,by decide,sB l,?_⟩;rw[d2];nofun;refine .inr ⟨true,true,[(ss.length:Int),(ss.length:Int)],by decide,by rw[nq];rfl,Pn rfl,fun z1 z2=>?_⟩;nofun;refine aZ (show _=some [(qs.length:Int),(rs.length:Int)]from rfl) ⟨NM _ _,fun mx hx=>?_⟩;nofun;have hm:mx<=(ss.length:Int):=by have:=hx.1;simp only[p_,Mi,or_false]at this;lia
  clear hx;rw[nq];refine aY (fun g=>?_) (fun g=>absurd hm g);clear g hm;nofun;have es:[(qs.length:Int),(rs.length:Int)].sum=((qs.length+rs.length:Nat):Int):=by rw[MW,MW,List.sum_nil,NZ,Qn]
  refine aZ (show _=some [(qs.length:Int),(rs.length:Int)]from rfl) ?_;nofun;rw[es];refine aY (fun g=>?_) (fun g=>absurd (by lia) g);clear g;nofun;refine⟨false,R,60,rfl,⟨by lia,m_ hR.2.2.1 (by decide)⟩,?_⟩;nofun;refine⟨by lia,true,false,P++R.map (mvE 60),tl,l,21+60,144,200,by rw[q_],hC,by decide,sC l,?_⟩;rw[d3];nofun;refine aZ (show _=some [(qs.length:Int),(rs.length:Int)]from rfl) ?_;nofun;refine .inl ⟨_,by rw[es],?_⟩;nofun;refine⟨false,false,P,tl,l,rfl,hP,ht,fun z1 z2=>?_⟩;nofun;refine⟨false,false,P,tl,l,21,72,rfl,hP,by decide,fun z3 z4=>?_⟩;nofun;refine⟨false,false,P,tl,l,21,72,200,rfl,hP,by decide,sP l,?_⟩;rw[jq hP ht (sP l) hq];nofun;refine⟨false,false,R,tl,l,21,72,200,rfl,hR,by decide,sR l,?_⟩;rw[jq hR ht (sR l) hr];nofun;refine .inr ⟨true,false,[(qs.length:Int),(rs.length:Int)],by decide,rfl,Pn rfl,fun z1 z2=>?_⟩;nofun;exact⟨_,_,_,rfl⟩
 rintro _ ⟨z5,z6,z7,rfl⟩;nofun;exact q _
end
variable {α:Type}
theorem ar0{P:List α->Prop}(h:P []):∀us:List α,us.length=0->P us:=fun us e=>by
 cases us with
 |nil=>exact h
 |cons a r=>cases e
theorem ar1{P:List α->Prop}(h:∀a0,P [a0]):∀us:List α,us.length=1->P us:=fun us e=>by
 cases us with
 |nil=>cases e
 |cons a0 r=>exact ar0 (P:=fun r=>P (a0::r)) (h a0) r (MN e)
theorem ar2{P:List α->Prop}(h:∀a0 a1,P [a0,a1]):∀us:List α,us.length=2->P us:=fun us e=>by
 cases us with
 |nil=>cases e
 |cons a0 r=>exact ar1 (P:=fun r=>P (a0::r)) (h a0) r (MN e)
theorem ar3{P:List α->Prop}(h:∀a0 a1 a2,P [a0,a1,a2]):∀us:List α,us.length=3->P us:=fun us e=>by
 cases us with
 |nil=>cases e
 |cons a0 r=>exact ar2 (P:=fun r=>P (a0::r)) (h a0) r (MN e)
theorem ar4{P:List α->Prop}(h:∀a0 a1 a2 a3,P [a0,a1,a2,a3]):∀us:List α,us.length=4->P us:=fun us e=>by
 cases us with
 |nil=>cases e
 |cons a0 r=>exact ar3 (P:=fun r=>P (a0::r)) (h a0) r (MN e)
theorem ar5{P:List α->Prop}(h:∀a0 a1 a2 a3 a4,P [a0,a1,a2,a3,a4]):∀us:List α,us.length=5->P us:=fun us e=>by
 cases us with
 |nil=>cases e
 |cons a0 r=>exact ar4 (P:=fun r=>P (a0::r)) (h a0) r (MN e)
theorem walk{l:Vs}{q:Q5}{loose:List Str}{XP:(Str->Option QR)->Q_->Prop}{YP:Q8->Q_->Prop}{d:DefRec}{K:Ve->QT}(hn:l.most=some 63)(hdf:d.params.defaults=[])
  (hY:∀(w:Q8) (h:Q_),YP w h->(K w.params).In h)
  (F:∀(w:Q8) (mg:Str->Option QR) (fa:QS) (h:Q_),(K w.params).In h->h.Ns RU mg->mg d.name=some (.ref fa)->
   ∃fd:Rj,(∀(s:QV) (u:QR),VG s fd ⟨[u],[]⟩ [("_law_script",u)])/\∀base:Q_,(K w.params).In base->base.Ns RU mg->FnOk l.prog w (K w.params) mg base CX0 8 fa fd ["_law_script"] (yj (K w.params))) :
  XE q loose XP YP l.row.toRowW d [] (fun f vs=>WW f vs):=
 L2.EI (n:=63) (k:=8) (x:="_law_script") (CX:=fun _=>CX0) (sp:=fun w=>yj (K w.params)) hn (by decide) hdf ⟨rfl,by decide,by decide,rfl⟩ hY F (fun _ _ a ns hl _ hS=>⟨a,ns,rfl,hS,hl,fun _=>rfl⟩) fun _ _ _ _ _ z=>z
noncomputable def kd(P:Ve) (x:Str) (t:Tok) (v:QR):RX:=⟨PyData.keyHash P x,.str x t,v⟩
def kf(n:Str) (s:RC) (m:QR) (c:QS):Obj:=⟨.type "function",none,.func (SW n n (eX s) (dw s) (av s) .none .none .none m none (.ref c) .none),#[]⟩
def KK(P:Ve):QT:=[(3,⟨.type "dict",none,.dict #[kd P "__name__" 165 (.str "law_millpath_k57_areas_put_together" 357),kd P "__doc__" 166 (.none),kd P "__package__" 167 (.none),kd P "__loader__" 168 (.builtin "__main__.__loader__#opaque"),kd P "__spec__" 169 (.none),kd P "__annotations__" 170 (.ref 6),kd P "__builtins__" 171 (.ref 4),kd P "__file__" 173 (.str "/claim/cut.py" 172),kd P "__cached__" 174 (.none),kd P "STEPS" 211 (.ref 23),kd P "stepped" 221 (.ref 30),kd P "straight" 231 (.ref 37),kd P "octo_of" 239 (.ref 42),kd P "added" 245 (.ref 47),kd P "moved" 253 (.ref 54),kd P "mark_of" 265 (.ref 61),kd P "swept" 274 (.ref 68),kd P "area_of" 282 (.ref 73),kd P "strip_sides" 288 (.ref 78),kd P "bounds_at" 294 (.ref 83),kd P "length_along" 308 (.ref 90),kd P "cut_octos" 324 (.ref 97),kd P "cut_area" 333 (.ref 104),kd P "ways_at" 346 (.ref 111),kd P "goes_on" 356 (.ref 118),kd P "_law_begin" 366 (.ref 125),kd P "_law_take" 379 (.ref 132),kd P "_law_tool" 389 (.ref 139),kd P "_law_mark" 401 (.ref 146),kd P "_law_in_mark" 407 (.ref 151),kd P "_law_same" 413 (.ref 156),kd P "_law_tools" 419 (.ref 161),kd P "_law_places" 435 (.ref 168),kd P "_law_program" 451 (.ref 175),kd P "_law_cut" 457 (.ref 180),kd P "_law_apart" 463 (.ref 185),kd P "_law_walked" 476 (.ref 192),kd P "law" 490 (.ref 199)] 38,#[]⟩),(30,kf "stepped" nu (.str "millpath.corners" 187) 29),(29,⟨.type "code",none,.fields #[.str "stepped" 212,.str "stepped" 213,.str "/claim/cut.py" 214,.int (3) 0,.int (3) 0,.int (0) 0,.int (0) 0,.int (3) 0,.ref 24,.bool true,.int (181) 0,.ref 25,.none,.ref 26,.ref 27,.ref 28,.int (219) 0,.int (3) 0,.str "/claim/cut.py" 220],#[]⟩),(37,kf "straight" jV (.str "millpath.corners" 187) 36),(36,⟨.type "code",none,.fields #[.str "straight" 222,.str "straight" 223,.str "/claim/cut.py" 224,.int (6) 0,.int (2) 0,.int (0) 0,.int (0) 0,.int (3) 0,.ref 31,.bool true,.int (181) 0,.ref 32,.none,.ref 33,.ref 34,.ref 35,.int (229) 0,.int (6) 0,.str "/claim/cut.py" 230],#[]⟩),(42,kf "octo_of" og (.str "millpath.octos" 232) 41),(41,⟨.type "code",none,.fields #[.str "octo_of" 234,.str "octo_of" 235,.str "/claim/cut.py" 236,.int (15) 0,.int (1) 0,.int (0) 0,.int (0) 0,.int (3) 0,.ref 38,.bool true,.int (181) 0,.ref 39,.none,.none,.none,.ref 40,.int (237) 0,.int (15) 0,.str "/claim/cut.py" 238],#[]⟩),(47,kf "added" tU (.str "millpath.octos" 232) 46),(46,⟨.type "code",none,.fields #[.str "added" 240,.str "added" 241,.str "/claim/cut.py" 242,.int (21) 0,.int (2) 0,.int (0) 0,.int (0) 0,.int (3) 0,.ref 43,.bool true,.int (181) 0,.ref 44,.none,.none,.none,.ref 45,.int (243) 0,.int (21) 0,.str "/claim/cut.py" 244],#[]⟩),(54,kf "moved" uL (.str "millpath.octos" 232) 53),(53,⟨.type "code",none,.fields #[.str "moved" 246,.str "moved" 247,.str "/claim/cut.py" 248,.int (23) 0,.int (2) 0,.int (0) 0,.int (0) 0,.int (3) 0,.ref 48,.bool true,.int (181) 0,.ref 49,.none,.ref 50,.ref 51,.ref 52,.int (251) 0,.int (23) 0,.str "/claim/cut.py" 252],#[]⟩),(61,kf "mark_of" nz (.str "millpath.tools" 254) 60),(60,⟨.type "code",none,.fields #[.str "mark_of" 256,.str "mark_of" 257,.str "/claim/cut.py" 258,.int (26) 0,.int (2) 0,.int (0) 0,.int (0) 0,.int (3) 0,.ref 55,.bool true,.int (181) 0,.ref 56,.none,.ref 57,.ref 58,.ref 59,.int (263) 0,.int (26) 0,.str "/claim/cut.py" 264],#[]⟩),(68,kf "swept" ui (.str "millpath.tools" 254) 67),(67,⟨.type "code",none,.fields #[.str "swept" 266,.str "swept" 267,.str "/claim/cut.py" 268,.int (30) 0,.int (3) 0,.int (0) 0,.int (0) 0,.int (3) 0,.ref 62,.bool true,.int (181) 0,.ref 63,.none,.ref 64,.ref 65,.ref 66,.int (272) 0,.int (30) 0,.str "/claim/cut.py" 273],#[]⟩),(73,kf "area_of" nF (.str "millpath.unions" 275) 72),(72,⟨.type "code",none,.fields #[.str "area_of" 277,.str "area_of" 278,.str "/claim/cut.py" 279,.int (33) 0,.int (1) 0,.int (0) 0,.int (0) 0,.int (3) 0,.ref 69,.bool true,.int (181) 0,.ref 70,.none,.none,.none,.ref 71,.int (280) 0,.int (33) 0,.str "/claim/cut.py" 281],#[]⟩),(78,kf "strip_sides" fq (.str "millpath.unions" 275) 77),(77,⟨.type "code",none,.fields #[.str "strip_sides" 283,.str "strip_sides" 284,.str "/claim/cut.py" 285,.int (44) 0,.int (1) 0,.int (0) 0,.int (0) 0,.int (3) 0,.ref 74,.bool true,.int (181) 0,.ref 75,.none,.none,.none,.ref 76,.int (286) 0,.int (44) 0,.str "/claim/cut.py" 287],#[]⟩),(83,kf "bounds_at" j8 (.str "millpath.unions" 275) 82),(82,⟨.type "code",none,.fields #[.str "bounds_at" 289,.str "bounds_at" 290,.str "/claim/cut.py" 291,.int (61) 0,.int (2) 0,.int (0) 0,.int (0) 0,.int (3) 0,.ref 79,.bool true,.int (181) 0,.ref 80,.none,.none,.none,.ref 81,.int (292) 0,.int (61) 0,.str "/claim/cut.py" 293],#[]⟩),(90,kf "length_along" eP (.str "millpath.unions" 275) 89),(89,⟨.type "code",none,.fields #[.str "length_along" 295,.str "length_along" 296,.str "/claim/cut.py" 297,.int (63) 0,.int (2) 0,.int (0) 0,.int (0) 0,.int (3) 0,.ref 84,.bool true,.int (181) 0,.ref 85,.none,.ref 86,.ref 87,.ref 88,.int (306) 0,.int (63) 0,.str "/claim/cut.py" 307],#[]⟩),(97,kf "cut_octos" j7 (.str "millpath.areas" 309) 96),(96,⟨.type "code",none,.fields #[.str "cut_octos" 311,.str "cut_octos" 312,.str "/claim/cut.py" 313,.int (78) 0,.int (3) 0,.int (0) 0,.int (0) 0,.int (3) 0,.ref 91,.bool true,.int (181) 0,.ref 92,.none,.ref 93,.ref 94,.ref 95,.int (322) 0,.int (78) 0,.str "/claim/cut.py" 323],#[]⟩),(104,kf "cut_area" kK (.str "millpath.areas" 309) 103),(103,⟨.type "code",none,.fields #[.str "cut_area" 325,.str "cut_area" 326,.str "/claim/cut.py" 327,.int (88) 0,.int (3) 0,.int (0) 0,.int (0) 0,.int (3) 0,.ref 98,.bool true,.int (181) 0,.ref 99,.none,.ref 100,.ref 101,.ref 102,.int (331) 0,.int (88) 0,.str "/claim/cut.py" 332],#[]⟩),(111,kf "ways_at" nB (.str "millpath.areas" 309) 110),(110,⟨.type "code",none,.fields #[.str "ways_at" 334,.str "ways_at" 335,.str "/claim/cut.py" 336,.int (90) 0,.int (2) 0,.int (0) 0,.int (0) 0,.int (3) 0,.ref 105,.bool true,.int (181) 0,.ref 106,.none,.ref 107,.ref 108,.ref 109,.int (344) 0,.int (90) 0,.str "/claim/cut.py" 345],#[]⟩),(118,kf "goes_on" nP (.str "millpath.areas" 309) 117),(117,⟨.type "code",none,.fields #[.str "goes_on" 347,.str "goes_on" 348,.str "/claim/cut.py" 349,.int (102) 0,.int (2) 0,.int (0) 0,.int (0) 0,.int (3) 0,.ref 112,.bool true,.int (181) 0,.ref 113,.none,.ref 114,.ref 115,.ref 116,.int (354) 0,.int (102) 0,.str "/claim/cut.py" 355],#[]⟩),(125,kf "_law_begin" oT (.str "law_millpath_k57_areas_put_together" 357) 124),(124,⟨.type "code",none,.fields #[.str "_law_begin" 359,.str "_law_begin" 360,.str "/claim/cut.py" 361,.int (111) 0,.int (1) 0,.int (0) 0,.int (0) 0,.int (3) 0,.ref 119,.bool true,.int (181) 0,.ref 120,.none,.ref 121,.ref 122,.ref 123,.int (364) 0,.int (111) 0,.str "/claim/cut.py" 365],#[]⟩),(132,kf "_law_take" uB (.str "law_millpath_k57_areas_put_together" 357) 131),(131,⟨.type "code",none,.fields #[.str "_law_take" 367,.str "_law_take" 368,.str "/claim/cut.py" 369,.int (116) 0,.int (2) 0,.int (0) 0,.int (0) 0,.int (3) 0,.ref 126,.bool true,.int (181) 0,.ref 127,.none,.ref 128,.ref 129,.ref 130,.int (377) 0,.int (116) 0,.str "/claim/cut.py" 378],#[]⟩),(139,kf "_law_tool" wL (.str "law_millpath_k57_areas_put_together" 357) 138),(138,⟨.type "code",none,.fields #[.str "_law_tool" 380,.str "_law_tool" 381,.str "/claim/cut.py" 382,.int (127) 0,.int (2) 0,.int (0) 0,.int (0) 0,.int (3) 0,.ref 133,.bool true,.int (181) 0,.ref 134,.none,.ref 135,.ref 136,.ref 137,.int (387) 0,.int (127) 0,.str "/claim/cut.py" 388],#[]⟩),(146,kf "_law_mark" xy (.str "law_millpath_k57_areas_put_together" 357) 145),(145,⟨.type "code",none,.fields #[.str "_law_mark" 390,.str "_law_mark" 391,.str "/claim/cut.py" 392,.int (131) 0,.int (2) 0,.int (0) 0,.int (0) 0,.int (3) 0,.ref 140,.bool true,.int (181) 0,.ref 141,.none,.ref 142,.ref 143,.ref 144,.int (399) 0,.int (131) 0,.str "/claim/cut.py" 400],#[]⟩),(151,kf "_law_in_mark" nW (.str "law_millpath_k57_areas_put_together" 357) 150),(150,⟨.type "code",none,.fields #[.str "_law_in_mark" 402,.str "_law_in_mark" 403,.str "/claim/cut.py" 404,.int (139) 0,.int (4) 0,.int (0) 0,.int (0) 0,.int (3) 0,.ref 147,.bool true,.int (181) 0,.ref 148,.none,.none,.none,.ref 149,.int (405) 0,.int (139) 0,.str "/claim/cut.py" 406],#[]⟩),(156,kf "_law_same" s_same (.str "law_millpath_k57_areas_put_together" 357) 155),(155,⟨.type "code",none,.fields #[.str "_law_same" 408,.str "_law_same" 409,.str "/claim/cut.py" 410,.int (143) 0,.int (2) 0,.int (0) 0,.int (0) 0,.int (3) 0,.ref 152,.bool true,.int (181) 0,.ref 153,.none,.none,.none,.ref 154,.int (411) 0,.int (143) 0,.str "/claim/cut.py" 412],#[]⟩),(161,kf "_law_tools" uw (.str "law_millpath_k57_areas_put_together" 357) 160),(160,⟨.type "code",none,.fields #[.str "_law_tools" 414,.str "_law_tools" 415,.str "/claim/cut.py" 416,.int (159) 0,.int (2) 0,.int (0) 0,.int (0) 0,.int (3) 0,.ref 157,.bool true,.int (181) 0,.ref 158,.none,.none,.none,.ref 159,.int (417) 0,.int (159) 0,.str "/claim/cut.py" 418],#[]⟩),(168,kf "_law_places" qo (.str "law_millpath_k57_areas_put_together" 357) 167),(167,⟨.type "code",none,.fields #[.str "_law_places" 420,.str "_law_places" 421,.str "/claim/cut.py" 422,.int (161) 0,.int (3) 0,.int (0) 0,.int (0) 0,.int (3) 0,.ref 162,.bool true,.int (181) 0,.ref 163,.none,.ref 164,.ref 165,.ref 166,.int (433) 0,.int (161) 0,.str "/claim/cut.py" 434],#[]⟩),(175,kf "_law_program" nH (.str "law_millpath_k57_areas_put_together" 357) 174),(174,⟨.type "code",none,.fields #[.str "_law_program" 436,.str "_law_program" 437,.str "/claim/cut.py" 438,.int (178) 0,.int (5) 0,.int (0) 0,.int (0) 0,.int (3) 0,.ref 169,.bool true,.int (181) 0,.ref 170,.none,.ref 171,.ref 172,.ref 173,.int (449) 0,.int (178) 0,.str "/claim/cut.py" 450],#[]⟩),(180,kf "_law_cut" CY (.str "law_millpath_k57_areas_put_together" 357) 179),(179,⟨.type "code",none,.fields #[.str "_law_cut" 452,.str "_law_cut" 453,.str "/claim/cut.py" 454,.int (194) 0,.int (3) 0,.int (0) 0,.int (0) 0,.int (3) 0,.ref 176,.bool true,.int (181) 0,.ref 177,.none,.none,.none,.ref 178,.int (455) 0,.int (194) 0,.str "/claim/cut.py" 456],#[]⟩),(185,kf "_law_apart" t7 (.str "law_millpath_k57_areas_put_together" 357) 184),(184,⟨.type "code",none,.fields #[.str "_law_apart" 458,.str "_law_apart" 459,.str "/claim/cut.py" 460,.int (210) 0,.int (2) 0,.int (0) 0,.int (0) 0,.int (3) 0,.ref 181,.bool true,.int (181) 0,.ref 182,.none,.none,.none,.ref 183,.int (461) 0,.int (210) 0,.str "/claim/cut.py" 462],#[]⟩),(192,kf "_law_walked" pX (.str "law_millpath_k57_areas_put_together" 357) 191),(191,⟨.type "code",none,.fields #[.str "_law_walked" 464,.str "_law_walked" 465,.str "/claim/cut.py" 466,.int (219) 0,.int (3) 0,.int (0) 0,.int (0) 0,.int (3) 0,.ref 186,.bool true,.int (181) 0,.ref 187,.none,.ref 188,.ref 189,.ref 190,.int (474) 0,.int (219) 0,.str "/claim/cut.py" 475],#[]⟩),(199,kf "law" jk (.str "law_millpath_k57_areas_put_together" 357) 198),(198,⟨.type "code",none,.fields #[.str "law" 477,.str "law" 478,.str "/claim/cut.py" 479,.int (229) 0,.int (1) 0,.int (0) 0,.int (0) 0,.int (3) 0,.ref 193,.bool true,.int (181) 0,.ref 194,.none,.ref 195,.ref 196,.ref 197,.int (488) 0,.int (229) 0,.str "/claim/cut.py" 489],#[]⟩),(23,⟨.type "tuple",none,.seq #[.ref 15,.ref 16,.ref 17,.ref 18,.ref 19,.ref 20,.ref 21,.ref 22] 0,#[]⟩),(15,⟨.type "tuple",none,.seq #[.int (1) 189,.int (0) 190] 0,#[]⟩),(16,⟨.type "tuple",none,.seq #[.int (1) 191,.int (1) 192] 0,#[]⟩),(17,⟨.type "tuple",none,.seq #[.int (0) 193,.int (1) 194] 0,#[]⟩),(18,⟨.type "tuple",none,.seq #[.int (-1) 196,.int (1) 197] 0,#[]⟩),(19,⟨.type "tuple",none,.seq #[.int (-1) 199,.int (0) 200] 0,#[]⟩),(20,⟨.type "tuple",none,.seq #[.int (-1) 202,.int (-1) 204] 0,#[]⟩),(21,⟨.type "tuple",none,.seq #[.int (0) 205,.int (-1) 207] 0,#[]⟩),(22,⟨.type "tuple",none,.seq #[.int (1) 208,.int (-1) 210] 0,#[]⟩)]
noncomputable def kas:List QS:=[3,30,29,37,36,42,41,47,46,54,53,61,60,68,67,73,72,78,77,83,82,90,89,97,96,104,103,111,110,118,117,125,124,132,131,139,138,146,145,151,150,156,155,161,160,168,167,175,174,180,179,185,184,192,191,199,198,23,15,16,17,18,19,20,21,22]
theorem y8(P:Ve):kas=(KK P).map (·.1):=by kernel_rfl
noncomputable def VW:Q5:=PySem.W.view PySem.Challenge.pw_millpath_k57_areas_put_together [1,2,3,5,6,7,9,10,12,13,14,15,17,18,19,20,22,23,24,25,26,27,28,29,30,31,32,33,34]
noncomputable def Ij(s:RC):Pos:=match s with
 | .FunctionDef _ _ _ _ _ _ _ _ _ p=>p
 | _=>⟨0,0,0,0⟩
variable {mg:Str->Option QR}
theorem dfn{h:Q_}{P:Ve}{x:Str}{st:RC}{ps:List Str}(X:(KK P).In h)(G:h.Ns RU mg)(f c:QS)(m:QR)(l:(KK P).lookup f=some (kf x st m c):=by kernel_rfl)(a:Vj (KK P) RU x=some (some (.ref f)):=by kernel_rfl)(cd:UN (KK P) (.ref c) x=true:=by kernel_rfl)(kp:T6 (KK P) (.ref f)=true:=by kernel_rfl)
  (hb:∀(kV doc pm:QR) (an:Option QS) (cdv ct:QR) (us:List QR),us.length=ps.length->XU (SW x x (eX st) (dw st) (av st) .none kV doc pm an cdv ct) ⟨us,[]⟩=pure (ps.zip us):=by intro _ _ _ _ _ _ us;revert us;first|(apply ar1;intros;rfl)|(apply ar2;intros;rfl)|(apply ar3;intros;rfl)|(apply ar4;intros;rfl)|(apply ar5;intros;rfl)):Dfn (KK P) mg x st ps:=⟨f,_,xr (st:=st) l cd kp,V4 X G a,(xr (st:=st) l cd kp).binds hb⟩
noncomputable def mo0:QR:=.str "millpath.corners" 187
noncomputable def mo1:QR:=.str "millpath.octos" 232
noncomputable def mo2:QR:=.str "millpath.tools" 254
noncomputable def mo3:QR:=.str "millpath.unions" 275
noncomputable def mo4:QR:=.str "millpath.areas" 309
noncomputable def mo5:QR:=.str "law_millpath_k57_areas_put_together" 357
set_option maxHeartbeats 0 in
theorem all_mk{l:Vs}{w:Q8}{h:Q_}{fa:QS}(X:(KK w.params).In h)(G:h.Ns RU mg)(hfa:mg "law"=some (.ref fa)):∃fd:Rj,(∀(s:QV) (v:QR),VG s fd ⟨[v],[]⟩ [("_law_script",v)])/\∀base:Q_,(KK w.params).In base->base.Ns RU mg->FnOk l.prog w (KK w.params) mg base CX0 8 fa fd ["_law_script"] (yj (KK w.params)):=by
 have e:=hfa.symm.trans (V4 X G (show Vj (KK w.params) RU "law"=some (some (.ref 199)) by kernel_rfl));cases e;have z:∀{x:Str},Vj (KK w.params) RU x=some none->mg x=none:=fun h=>PySem.W.mg_none_of X G h;have T:Txt mg:=⟨z (by kernel_rfl),z (by kernel_rfl),z (by kernel_rfl),z (by kernel_rfl),z (by kernel_rfl),z (by kernel_rfl),z (by kernel_rfl),z (by kernel_rfl),z (by kernel_rfl),z (by kernel_rfl),z (by kernel_rfl),z (by kernel_rfl),z (by kernel_rfl),z (by kernel_rfl),z (by kernel_rfl),z (by kernel_rfl),z (by kernel_rfl),z (by kernel_rfl),z (by kernel_rfl),z (by kernel_rfl),z (by kernel_rfl)⟩;have F:=xr (st:=jk) (K:=KK w.params) (x:="law") (qual:="law") (f:=199) (oc:=.type "function") (od:=none) (an:=none) (osl:=#[]) (kV:=.none) (doc:=.none) (pm:=mo5) (cdv:=.ref 198) (ct:=.none) (by kernel_rfl) (by kernel_rfl) (by kernel_rfl);refine⟨SW "law" "law" (eX jk) (dw jk) (av jk) .none .none .none mo5 none (.ref 198) .none,fun s v=>.of_eq rfl,fun base _ _=>?_⟩;have cl1:(KK w.params).lookup 23=some ⟨.type "tuple",none,.seq #[.ref 15,.ref 16,.ref 17,.ref 18,.ref 19,.ref 20,.ref 21,.ref 22] 0,#[]⟩:=by kernel_rfl
 have cl2:(KK w.params).lookup 15=some ⟨.type "tuple",none,.seq #[.int (1) 189,.int (0) 190] 0,#[]⟩:=by kernel_rfl
 have cl3:(KK w.params).lookup 16=some ⟨.type "tuple",none,.seq #[.int (1) 191,.int (1) 192] 0,#[]⟩:=by kernel_rfl
 have cl4:(KK w.params).lookup 17=some ⟨.type "tuple",none,.seq #[.int (0) 193,.int (1) 194] 0,#[]⟩:=by kernel_rfl
 have cl5:(KK w.params).lookup 18=some ⟨.type "tuple",none,.seq #[.int (-1) 196,.int (1) 197] 0,#[]⟩:=by kernel_rfl
 have cl6:(KK w.params).lookup 19=some ⟨.type "tuple",none,.seq #[.int (-1) 199,.int (0) 200] 0,#[]⟩:=by kernel_rfl
 have cl7:(KK w.params).lookup 20=some ⟨.type "tuple",none,.seq #[.int (-1) 202,.int (-1) 204] 0,#[]⟩:=by kernel_rfl
 have cl8:(KK w.params).lookup 21=some ⟨.type "tuple",none,.seq #[.int (0) 205,.int (-1) 207] 0,#[]⟩:=by kernel_rfl
 have cl9:(KK w.params).lookup 22=some ⟨.type "tuple",none,.seq #[.int (1) 208,.int (-1) 210] 0,#[]⟩:=by kernel_rfl
 have gt_STEPS:Vj (KK w.params) RU "STEPS"=some (some (.ref 23)):=by kernel_rfl
 have C_STEPS:Glb (KK w.params) mg "STEPS" tY:=⟨.ref 23,_,V4 X G gt_STEPS,rfl,fun _ _=>(.cst (.inr ⟨_,_,0,cl1,rfl,rfl,(by show 8<=sizeLine;decide),(.cons (show RelV (.ref 15) (.ref 15)from rfl) (.cons (show RelV (.ref 16) (.ref 16)from rfl) (.cons (show RelV (.ref 17) (.ref 17)from rfl) (.cons (show RelV (.ref 18) (.ref 18)from rfl) (.cons (show RelV (.ref 19) (.ref 19)from rfl) (.cons (show RelV (.ref 20) (.ref 20)from rfl) (.cons (show RelV (.ref 21) (.ref 21)from rfl) (.cons (show RelV (.ref 22) (.ref 22)from rfl) .nil))))))))⟩) (.cons rfl (.cst (.inr ⟨_,_,0,cl2,rfl,rfl,(by show 2<=sizeLine;decide),(.cons (show RelV (.int (1)) (.int (1) 189)from⟨_,rfl⟩) (.cons (show RelV (.int (0)) (.int (0) 190)from⟨_,rfl⟩) .nil))⟩) (.cons rfl .int (.cons rfl .int .nil))) (.cons rfl (.cst (.inr ⟨_,_,0,cl3,rfl,rfl,(by show 2<=sizeLine;decide),(.cons (show RelV (.int (1)) (.int (1) 191)from⟨_,rfl⟩) (.cons (show RelV (.int (1)) (.int (1) 192)from⟨_,rfl⟩) .nil))⟩) (.cons rfl .int (.cons rfl .int .nil))) (.cons rfl (.cst (.inr ⟨_,_,0,cl4,rfl,rfl,(by show 2<=sizeLine;decide),(.cons (show RelV (.int (0)) (.int (0) 193)from⟨_,rfl⟩) (.cons (show RelV (.int (1)) (.int (1) 194)from⟨_,rfl⟩) .nil))⟩) (.cons rfl .int (.cons rfl .int .nil))) (.cons rfl (.cst (.inr ⟨_,_,0,cl5,rfl,rfl,(by show 2<=sizeLine;decide),(.cons (show RelV (.int (-1)) (.int (-1) 196)from⟨_,rfl⟩) (.cons (show RelV (.int (1)) (.int (1) 197)from⟨_,rfl⟩) .nil))⟩) (.cons rfl .int (.cons rfl .int .nil))) (.cons rfl (.cst (.inr ⟨_,_,0,cl6,rfl,rfl,(by show 2<=sizeLine;decide),(.cons (show RelV (.int (-1)) (.int (-1) 199)from⟨_,rfl⟩) (.cons (show RelV (.int (0)) (.int (0) 200)from⟨_,rfl⟩) .nil))⟩) (.cons rfl .int (.cons rfl .int .nil))) (.cons rfl (.cst (.inr ⟨_,_,0,cl7,rfl,rfl,(by show 2<=sizeLine;decide),(.cons (show RelV (.int (-1)) (.int (-1) 202)from⟨_,rfl⟩) (.cons (show RelV (.int (-1)) (.int (-1) 204)from⟨_,rfl⟩) .nil))⟩) (.cons rfl .int (.cons rfl .int .nil))) (.cons rfl (.cst (.inr ⟨_,_,0,cl8,rfl,rfl,(by show 2<=sizeLine;decide),(.cons (show RelV (.int (0)) (.int (0) 205)from⟨_,rfl⟩) (.cons (show RelV (.int (-1)) (.int (-1) 207)from⟨_,rfl⟩) .nil))⟩) (.cons rfl .int (.cons rfl .int .nil))) (.cons rfl (.cst (.inr ⟨_,_,0,cl9,rfl,rfl,(by show 2<=sizeLine;decide),(.cons (show RelV (.int (1)) (.int (1) 208)from⟨_,rfl⟩) (.cons (show RelV (.int (-1)) (.int (-1) 210)from⟨_,rfl⟩) .nil))⟩) (.cons rfl .int (.cons rfl .int .nil))) .nil)))))))))⟩;have G_take:Cal l.prog w (KK w.params) mg base 1 "_law_take" ["_law_state","_law_many"] (aL (KK w.params) 2 kU):=BU (dfn X G 132 131 mo5) T;have G_begin:Cal l.prog w (KK w.params) mg base 1 "_law_begin" ["_law_script"] (aL (KK w.params) 1 (uH (KK w.params))):=AO (dfn X G 125 124 mo5) T;have G_bounds_at:=(dfn X G 83 82 mo3).cal (base:=base) (P:=l.prog) (w:=w) fun _ _ F=>uA F T;have G_strip_sides:=(dfn X G 78 77 mo3).cal (base:=base) (P:=l.prog) (w:=w) fun _ _ F=>qf F T G_bounds_at;have G_length_along:=(dfn X G 90 89 mo3).cal (base:=base) (P:=l.prog) (w:=w) fun _ _ F=>oR F T;have G_area_of:=(dfn X G 73 72 mo3).cal (base:=base) (P:=l.prog) (w:=w) fun _ _ F=>wD F T G_strip_sides G_length_along;have G_stepped:=(dfn X G 30 29 mo0).cal (base:=base) (P:=l.prog) (w:=w) fun _ _ F=>xP F T C_STEPS;have G_straight:=(dfn X G 37 36 mo0).cal (base:=base) (P:=l.prog) (w:=w) fun _ _ F=>wz F T C_STEPS G_stepped;have G_octo_of:=(dfn X G 42 41 mo1).cal (base:=base) (P:=l.prog) (w:=w) fun _ _ F=>wK F T;have G_added:=(dfn X G 47 46 mo1).cal (base:=base) (P:=l.prog) (w:=w) fun _ _ F=>CC F T;have G_moved:=(dfn X G 54 53 mo1).cal (base:=base) (P:=l.prog) (w:=w) fun _ _ F=>B9 F T G_octo_of G_added;have G_mark_of:=(dfn X G 61 60 mo2).cal (base:=base) (P:=l.prog) (w:=w) fun _ _ F=>wC F T G_moved;have G_swept:=(dfn X G 68 67 mo2).cal (base:=base) (P:=l.prog) (w:=w) fun _ _ F=>BB F T G_octo_of G_added G_mark_of;have G_goes_on:=(dfn X G 118 117 mo4).cal (base:=base) (P:=l.prog) (w:=w) fun _ _ F=>xq F T G_straight;have G_ways_at:=(dfn X G 111 110 mo4).cal (base:=base) (P:=l.prog) (w:=w) fun _ _ F=>xm F T G_goes_on;have G_cut_octos:=(dfn X G 97 96 mo4).cal (base:=base) (P:=l.prog) (w:=w) fun _ _ F=>uv F T G_swept G_ways_at;have G_cut_area:=(dfn X G 104 103 mo4).cal (base:=base) (P:=l.prog) (w:=w) fun _ _ F=>vB F T G_area_of G_cut_octos;have G_in_mark:=(dfn X G 151 150 mo5).cal (base:=base) (P:=l.prog) (w:=w) fun _ _ F=>xj F T;have G_mark:=(dfn X G 146 145 mo5).cal (base:=base) (P:=l.prog) (w:=w) fun _ _ F=>Ft F T G_in_mark;have G_tool:=(dfn X G 139 138 mo5).cal (base:=base) (P:=l.prog) (w:=w) fun _ _ F=>Ey F T G_take;have G_tools:=(dfn X G 161 160 mo5).cal (base:=base) (P:=l.prog) (w:=w) fun _ _ F=>Ds F T G_take G_tool;have G_places:=(dfn X G 168 167 mo5).cal (base:=base) (P:=l.prog) (w:=w) fun _ _ F=>AX F T G_take;have G_cut:=(dfn X G 180 179 mo5).cal (base:=base) (P:=l.prog) (w:=w) fun _ _ F=>Im F T G_mark;have G_program:=(dfn X G 175 174 mo5).cal (base:=base) (P:=l.prog) (w:=w) fun _ _ F=>xt F T G_take G_places;have G_same:Cal l.prog w (KK w.params) mg base 3 "_law_same" ["_law_found","_law_due"] (aL (KK w.params) 2 (pR 2)):=Nat.rec (motive:=fun n=>Cal l.prog w (KK w.params) mg base (1+n) "_law_same" ["_law_found","_law_due"] (aL (KK w.params) 2 (pR n))) ((dfn X G 156 155 mo5).cal fun f fd (_:Fun (KK w.params) "_law_same" "_law_same" s_same f fd)=>Bx rfl) (fun n ih=>(dfn X G 156 155 mo5).cal fun _ _ F=>EH n F T ih) 2;have G_apart:=(dfn X G 185 184 mo5).cal (base:=base) (P:=l.prog) (w:=w) fun _ _ F=>Bt F T;have G_walked:=(dfn X G 192 191 mo5).cal (base:=base) (P:=l.prog) (w:=w) fun _ _ F=>Ak F T G_cut_area;exact Ig (Hi F T G_cut_octos G_cut_area G_begin G_take G_same G_tools G_program G_cut G_apart G_walked)
end Mp
open PySem PySem.W PyProof.Rows
set_option maxRecDepth 100000 in
set_option maxHeartbeats 0 in
theorem Mp.GP:PySem.Challenge.rw_millpath_k57_areas_put_together.wellSaid=true:=by kernel_rfl
set_option maxRecDepth 100000 in
theorem Mp.left:PySem.W.LeftO PySem.Challenge.rw_millpath_k57_areas_put_together.row.prog Mp.VW [] (fun s=>PySem.W.xlAt Mp.VW [] s&&PySem.W.recOk (PySem.Challenge.rw_millpath_k57_areas_put_together.row.toRowW.records) s) (YV (V5 Mp.KK Mp.kas Mp.y8)) (YW (V5 Mp.KK Mp.kas Mp.y8)) 6000:=fun w=>by kernel_rfl
set_option maxRecDepth 100000 in
set_option maxHeartbeats 0 in
theorem PySem.Challenge.cw_millpath_k57_areas_put_together_holds : PySem.Challenge.rw_millpath_k57_areas_put_together.Holds := by
 refine PySem.W.holds_law Mp.GP fun GP=>?_;refine PySem.W.holds_open (r:=PySem.Challenge.rw_millpath_k57_areas_put_together.row) (XP:=PySem.W.XL Mp.VW []) (YP:=YQ (V5 Mp.KK Mp.kas Mp.y8)) (d:=⟨"law",L2.eX Mp.jk,L2.dw Mp.jk,L2.av Mp.jk,Mp.Ij Mp.jk⟩) (kwd:=[]) Mp.left (Y2 _) (YJ _) (fun s e=>PySem.W.xl_of s (Pw.mp e).1) YX (by kernel_rfl) (by kernel_rfl) (by kernel_rfl) (fun s e=>PySem.W.recFacts_of (Pw.mp e).2) (by kernel_rfl) GP (by kernel_rfl) ⟨rfl,rfl,rfl,rfl,rfl,by rfl'⟩ ?hw ?hc
 case hw=>w_witness2
 case hc=>
  refine Mp.walk (l:=PySem.Challenge.rw_millpath_k57_areas_put_together) rfl (by kernel_rfl) (fun w h Y=>PySem.W.kIn_of Y) ?F
  case F=>
  intro w mg fa h KX G hmg;exact Mp.all_mk KX G hmg
