import PyProof.Rows.All
import Wide.All
import OpenK.AllK
import Wide.FinOn
import Lean
import PyProof.EqAt
import PyProof.EqKinds
import PyProof.TupleCall
import PyProof.ZipIter
import PyProof.NeKinds
import PyProof.SeqI3
import PyProof.MaxThree
import PyProof.CompUse
import PyProof.EnumMake
import PyProof.Draws
import PyProof.EnumFor
import PyProof.Rows.EnumRows
import PyProof.DictFindH
import PyProof.DictRoadsH
import PyProof.TupleKey
import PyProof.DictWalks
import PyProof.AttrMissHeap
import KE.KDictOf
import KE.KDictList
import PyProof.Rows.SortRuns
import KE.KSortTup
import PyProof.ListRange
import PyProof.Rows.SetFrom
import PySem.Challenge.RW_millpath_k59_many_jobs
set_option Elab.async false
set_option linter.all false
set_option maxRecDepth 100000
set_option genSizeOf false
noncomputable section
open List renaming getElem?_eq_getElem->a_,length_map->b_,getElem?_eq_some_iff->c_,map_cons->f_,perm_middle->h_,length_cons->i_,append_assoc->j_,length_append->j',mem_cons->m_,mem_cons_of_mem->n_,range->o_,mem_cons_self->p_,size_toArray->q_,mem_append_right->s_,replicate->t_,length_range->u_,mem_singleton->w_,mem_of_getElem?->y_,map_append->z_,perm_append_comm_assoc->A_,getElem?_map->A',mem_map->B',getD_eq_getElem?_getD->C',nodup_cons->D',pairwise_append->F_,mem_append->F',append_nil->H_,Perm.trans->I_,take_append_drop->Ja,length_take->Jc,eq_nil_of_length_eq_zero->Je,mem_append_left->Jf,length_set->Jg,mem_range->Jh,map_map->Jj,length_drop->Jl,take_length->Jm,find?_cons->Jn,mem_iff_getElem->Jp,Pairwise.sublist->Jr,Perm.append_left->Js,mem_iff_getElem?->Jt,getElem?_append_right->Ju,mem_filter->Jv,pairwise_cons->Jw,take_of_length_le->Jx,cons_append->Jy,replicate_succ->Jz,pairwise_map->JA,all_eq_true->JB,cons.inj->JC,nodup_append->JE,map_congr_left->JF,getElem?_append_left->JG,Pairwise.imp_of_mem->JI,mem_of_mem_take->JJ,mem_map_of_mem->JK,drop_of_length_le->JL,getElem_mem->JN,length_singleton->JO,perm_append_comm->JR,getElem?_take_of_lt->JU,cons.injEq->JW,take_add_one->JY,any_cons->J0,pairwise_singleton->J2,any_eq_true->J3,zip_cons_cons->J5,extract_eq_drop_take->J_,nodup_nil->Kd,getElem?_range->Ke,getElem?_cons_succ->Kf,range_succ->Kh,filter_append->Ki,getElem?_drop->Kj,getElem?_take->Kk,getElem?_set_self->Kl,map->Kq,pairwise_lt_range->Kr,take_sublist->Ks,flatten_cons->Kt,drop_sublist->Ku,length_replicate->Kw,map_nil->Kx,length_filter_le->Ky,drop_zero->Kz,getElem?_eq_none->KA,getElem?_set_ne->KC,lookup_cons->KD,mem_of_mem_drop->KG,filter_cons->KL,reverse_append->KQ,nil_append->KU,drop_eq_getElem_cons->KY,pairwise_iff_getElem->K0,all_map->K5,set_eq_of_length_le->K8,drop_drop->K_,getElem?_cons_zero->La,Pairwise.nil->Lb,countP_cons->Lg,getElem?_toArray->Li,length_nil->Lj,foldl_cons->Lk,drop_append_of_le_length->Lq,filterMap_cons->Lr,map_eq_nil_iff->Lu,Perm.swap->Lw,Perm.cons->Lx,length->Ly,set_cons_succ->Lz,map_replicate->LA,ne_nil_of_mem->LB,getElem_range->LD,idxOf_lt_length_of_mem->LF,all_cons->LJ,take_add->LK,exists_cons_of_ne_nil->LM,length_eraseIdx_of_lt->LN,exists_mem_of_ne_nil->LU,zipIdx_cons->LV,set_set->L4,not_mem_nil->L5,nodup_range->L7,eraseIdx_cons_succ->L9,of_mem_zip->L_,forIn_cons->L',filter_nil->Mc,range_succ_eq_map->Me,Perm.append_right->Mf,map_id->Mg,forIn_nil->Mh,singleton_append->Mj,getElem?_zipWith->Mk,reverse_reverse->Mm,length_eraseIdx->Mo,length_pos_iff->Mt,length_zipWith->Mu,mem_filterMap->Mw,map_inj_right->My,set_cons_zero->Mz,any_map->MB,map_set->MC,getElem_idxOf->MD,ext_getElem?->MI,mapM_toArray->MJ,mem_reverse->ML,foldl->MN,zipIdx_nil->MO,zip_append->MR,Perm->MV,map_take->MX,zipWith->M6,find?->Nb,Nodup->Nc
open Nat renaming le_refl->d_,ne_of_lt->r_,le_trans->v_,lt_of_lt_of_le->x_,zero_le->G_,le_of_lt->Jd,le_of_not_lt->Jo,lt_of_le_of_lt->Jq,two_pow_pos->JH,pos_of_ne_zero->JQ,lt_of_le_of_ne->JS,sub_le->JV,lt_irrefl->JZ,ne_of_gt->J4,succ.inj->J6,eq_of_testBit_eq->Kc,le_succ->Km,one_pos->Kn,lt_succ_of_lt->Kv,lt_succ_self->KJ,pow_le_pow_right->KN,add_le_add_left->KP,add_sub_cancel'->KR,sub_lt_left_of_lt_add->KZ,le_of_eq->K4,sub_self->K6,zero_add->K7,add_sub_cancel_left->K',le_of_lt_succ->Lc,add_assoc->Le,succ_le_succ->Lf,zero_testBit->Lh,lt_trans->Ll,not_lt_zero->Lm,le_sub_one_of_lt->Ln,testBit_and->Lp,add_lt_add_left->Ls,sub_lt->LQ,not_lt->LR,le_add_right->LW,min_eq_right->LX,lt_of_not_le->LY,max_eq_right->LZ,add_zero->L0,not_lt_of_le->L6,min_eq_left->Ma,testBit_or->Ml,sub_le_sub_right->Mn,testBit_two_pow->Mv,le_succ_of_le->ME,add_sub_assoc->MF,le_add_left->MP,le_antisymm->MQ,left_le_or->MU,min_self->M1,lt_or_ge->M3,sub_zero->M4,or_assoc->M8,mod_lt->Na
open Int renaming toNat_natCast->C_,toNat_of_nonneg->KS,emod_lt_of_pos->K9,emod_nonneg->Lo,natCast_nonneg->LC,fdiv_eq_ediv_of_nonneg->LG,fmod_eq_emod_of_nonneg->LH,ne_of_lt->L8,ediv_one->M0,sub_zero->M5,zero_add->M7,mul_one->M9,le_refl->M_
open Option renaming some.inj->D_,map->Kb,map_eq_some_iff->Ld,isSome_map->LO,some->Md,isSome_some->Mx,some.injEq->MG,getD_none->MK,any->M'
open Bool renaming false_ne_true->B_,and_eq_true->E_,false_eq_true->Ji,eq_false_iff->JD,eq_iff_iff->JT,beq_eq_decide_eq->J8,true_and->Kg,or_eq_true->KW,not_eq_true'->LP,not_false->Mi,and_eq_true_iff->Mq,not_true->Mr,and_self->Ms,and_false->MT,or_false->MW,and_true->MY
open Array renaming getElem?_toList->e_,length_toList->f',getElem?_eq_getElem->gV,toList_append->Jk,getElem?_eq_none->JM,toList_push->JX,getD_eq_getD_getElem?->J7,perm_iff_toList_perm->J9,getElem?_extract->Ko,toList_extract->KH,toList_reverse->KI,getElem?_eq_some_iff->KO,toList_setIfInBounds->LL,size_setIfInBounds->L3,Perm.refl->Mb,size_extract->MA,toList_map->MM,toList->MZ
open And renaming intro->g_
open Or renaming inl->k_,inr->l_
open Classical renaming byContradiction->PZ
open False renaming elim->NC
open ForInStep renaming done->Nw,yield->NG
open Ne renaming symm->Oq
open PyProof renaming noPylong_small->Rx
open PyProof.Rows renaming Keyed->Nm,arrOf->Nn,wpS_bind->Nr,SortSt->Nu,wpS_pure->Ny,pendingOf->ND,seqObj->N3,wpS_forRange->N4,elem'->N5,failedOf->N6,wpS_mono->Ov,SortKind->OC,callWith_type1->OQ,slot_tuple_getitem->Pb,reverseSlice'->PK,wpS_get->PV,subscriptTail->Ql,AllBare->Qn,envOfC->Qq,wpS_modify->Qu,assignInOrder_cons->QG,gallopOf->Q8,wpS_lift->Q9,keyKind'->Q_,entry_list_sort->Rr,subscriptTail_builtinR->RA,slot_list_sort->RJ,args_list_sort->RK,mergeAt'->R3,oneType'->R4,getElem?_mirror_all->Se,plain_sorted->Su,entry_sorted->Sv,args_sorted1->Sw,minRun'->SE,assignInOrder_nil->SK,kind_sorted->S5,boot_range->Tp,callWith_builtin1->Tr,Subscript_->Ts,bubble->TB,getElem?_bubble->TC,ltAt'->TF,get?_update_seq->TH,slicePart_none->T3,tuples'->T9,countRun'->Ug,Constant_none->Ui,listUpdate_at->Uu,IsTup->Uz,isTrue_plain->UR,binarySort'->Vq,seqEpoch_at->Vr,bitAnd_nn->Vu,bitAnd_pp->Vv,Call_->Vy
open PyProof.Rows.F renaming plain_set_update_loop->Qd,entry_set_update_loop->Rg
open PyProof.Rows.IsTup renaming new->Sh
open PyProof.Rows.SortSt renaming mk'->O2
open PySem renaming wpAny_bind->Nd,Value->Nf,Addr->Nh,Shared->Ni,wpAny_pure->Nj,wpAny->Nl,model->Nq,Program->Nv,Expr->Nz,World->NA,Heap->NB,starEach->NF,Around->NH,wpAny_newObj_type->NI,wpAny_holding->NJ,FuncData->NK,wpAny_mono->NN,compareOp->NO,sizeLine_eq->NQ,eval->NS,wpAny_call_entry->NX,Stmt->NZ,wpAny_callSpecial?_slot->N0,binaryOp->N9,SetTable->N_,wpAny_pyIter_tuple->Ob,codeAny_builtin->Oc,foldedSetIterable->Of,wpAny_seqItems->Og,mainGlobals->Oh,wpAny_field->Oi,rawInt->Oj,sysModules->Om,Scope->Oo,argBest->Ot,wpAny_Call_Name_kw->Ou,wpAny_setField->Ow,Builtin->Ox,wpAny_truthy_bool->OA,wpAny_pyIter_list->OB,mem_of_lookup->OD,IsPair->OE,behindInMarks->OF,wpAny_attempt->OG,plainId_quiet->OI,pyNext->OJ,codeAny->OL,wpAny_typeNameOfWhole_keyiter->ON,firstArgMember->OO,assignEach->OP,codeAny_mono->OR,wpAny_setField_rec->OV,wpAny_passesOwn->OW,wpAny_setState_of->OY,wpAny_rule->OZ,bootBuiltins->O5,NameKind->O6,intItems->O8,intKind->Pe,DictEntry->Ph,wpAny_ite_split->Pj,wpAny_of_eq->Pl,wpAny_letGo->Pm,Model->Po,fits_of_scanBound->Pq,backTo->Pt,IsZip->Pu,wpAny_isInstance->Pw,wpAny_standAt->PD,wpAny_newList->PH,holding->PN,sliceBounds->PQ,wpAny_updateSeq->PY,swapsWith->P0,tupleKind_room_in1->P6,seqItems?->P7,wpAny_tryCatch->P',wpAny_dictEntries->Qe,Paired->Qh,assign->Qi,pyIter->Qj,comprehension->Qm,wpAny_execs_nil->Qo,letOwnedTupleGo->Qp,wpAny_updateSeq_pair->Qr,wpAny_setEntries_of->Qx,getItem->QA,isSubtype_stop->QC,wpAny_fieldsOf->QD,subscripted->QF,swapsWithSole->QN,swappedStores->QO,wpAny_handled->QQ,wpAny_onRaise->QR,Comprehension->QS,wpAny_pyIter_slot->QU,wpAny_setEpoch_of->QV,typeIs_int->QW,valueAt->QZ,callerA->Q0,ItemsOf->Q1,Operator->Q2,noFill_tuple_add->Q3,IsPart->Q4,Params->Q5,newExc->Q6,relayAll->Ra,argsOk->Rb,wpAny_askSetting->Rc,tupleKind->Rh,CmpOp->Ri,atKey->Rj,wpAny_specialOf->Rk,numAt->Rn,wpAny_dictEpoch->Ro,IsRangeIter->Rt,wpAny_pyNext_range_end->Rv,wpAny_pyIter_rangeiter->Rw,wpAny_throw->RB,codeAny_compStart_list->RC,isTrue->RD,wpAny_isTrue_Compare1->RE,BindsTo->RF,getitemInPython_of_ne->RG,wpAny_isOneOf_keyiter->RI,wpAny_runValue->RM,builtinLookup_eq_fast->RP,isSubtype_type->RQ,builtinsNs->RS,wpAny_loadName_local->RT,wpAny_load->RU,bindL->RV,bindC->RW,call_meets->RX,wpAny_letTemporaryGo->RY,field->RZ,wpAny_newFunctionEnv->R0,intKind_is->R5,codeAny_call_builtin->R6,assignInOrder->R7,seq_tuple_add->R8,Builtin->R9,wpAny_loadName_cell->R',wpAny_Constant_int->Sg,PassesOwn->Si,wpAny_pyIter_range->Sj,wpAny_List_spliced->Sl,Result->Sm,concat_meets->Sn,wpAny_typeOf->So,seqIndex_neg->Sr,updateSeq->Sy,standAt->SD,Walks->SF,collect->SH,wpAny_assign_Name->SJ,wpAny_pyIter_enum->SQ,wpAny_storeSet_of->SV,seqIndex_of->SY,intItems_at->S4,wpAny_eqBool_int->S6,GenState->S7,wpAny_execs_cons->S8,bindName->S9,newTuple->S_,raiseNew->Ta,wpAny_comp_letGo->Td,wpAny_pyIter_zip->Te,entryFor->Tg,checkBuiltinCall->Ti,wpAny_Name->To,wpAny_call->Tq,call_tuple_same->Tt,wpAny_operating->Tv,call->Tw,checkCount->TJ,typeLookup_type->TM,codeAny_of_tree->TQ,wpAny_Compare1->TV,setItem->TY,wpAny_bindName->TZ,Keyword->T4,fitsIndex_both->T5,letTemporaryGo->T6,wpAny_newTuple->T7,entryFor_alias->T_,setNext->T',storeName->Ub,cellsFrom->Uc,seqIndex?->Ud,intBits_le_64->Uj,evalPart_none->Ul,call_list_seq->Um,attributeBase->Uo,wpAny_standIf->Us,signature?_of->Uw,Drawn->UA,truthy->UQ,call_range_1->US,bindArgs->U6,callType_new->U8,IsEnum->U',setAddHashed->Vc,wpAny_mkInt->Vj,interactive->Vl,keywordEach->Vn,richCompare->Vt,operate->Vw,newList->Vx,table->VB
open PySem.Around renaming under_plainId->N2
open PySem.AutoListH renaming list___mul___list_int_3->S0
open PySem.AutoSeq1 renaming wpAny_loadPart'->O9
open PySem.Builtin renaming bitOr->OM,bitAnd->P9,bitNot->Qa
open PySem.Builtin.Builtins renaming bindParams->QL
open PySem.Builtin.Dict renaming showsAll->RH,dictSlotNone->UN,pendingCount->UO
open PySem.Builtin.Dict_items renaming ownsTuple->QE
open PySem.Builtin.Frozenset renaming updateFrom->Ua,newClass->Ux,sizeOf->Ve,slot0->Vh
open PySem.Builtin.List renaming listTooLong->P5,listLengthHint->QJ,listExtendWith->QK,listSameRef->Rf,listFitsIndex->Uq,listUpdate->Vg
open PySem.Builtin.Range renaming rangeSize->Pc,small->Sd,rangeFitsLong->Ue
open PySem.Builtin.Slice renaming slicePlaces->O0,sliceAdjust->PX,sliceApplied->QP,slicePartIndex->T1,sliceFields->UM
open PySem.Builtin.SmallTypes renaming nextOf->NW,ownedTupleIsFree->Oy,ownedTupleHandOut->P8
open PySem.Builtin.Str renaming occurrences->Qb
open PySem.Builtin.Tuple renaming tupleExact->O7,tupleItemsOf->Uk
open PySem.Calls renaming call_function_entry->O3,spliced_cons->Pg,Name_function_global->QM,spliced_nil->SM
open PySem.CmpOp renaming NotIn->Vk,In->V2
open PySem.Data renaming cell->QH,fields->Ru,seq->U7
open PySem.Env renaming kindOf->Tx
open PySem.EqMixed renaming eq_bool_str->UE,eq_str_bool->UG,ne_bool_str->UK,ne_str_bool->UL,eq_int_str->UX,eq_str_int->UZ,ne_int_str->U3,ne_str_int->U5
open PySem.EqNone renaming eq_none_none->UB,eq_none_bool->UC,eq_bool_none->UD,ne_none_none->UH,ne_none_bool->UI,ne_bool_none->UJ,eq_none_int->UT,eq_none_str->UU,eq_int_none->UW,eq_str_none->UY,ne_none_int->U0,ne_none_str->U1,ne_int_none->U2,ne_str_none->U4
open PySem.F renaming plain_min_loop->Oe,slot_dict_keyiterator_next->Oz,slot_tuple_iterator_next->OX,called_set->O_,slot_list_append->O',type_list_append->Pa,entry_min_loop->Pn,args_tuple_add_2->P4,entry_tuple_add->Qc,plain_list_iadd->Qf,slot_tuple_add->Qk,slot_zip_next->Qs,args_dict_keyiterator_next_1->Qt,entry_dict_keyiterator_next->Qv,args_tuple_iterator_next_1->QB,entry_tuple_iterator_next->QI,slot_dict_getitem->QX,plain_extend_loop->QY,slot_dict_len->RL,entry_proto_collect->RN,plain_proto_collect->RO,args_zip_next_1->SN,entry_list_iadd->SS,entry_zip_next->Tb,slot_dict_iter->Tf,slot_int_rmul->Tu,slot_set_iter->TN,plain_set_new->TR
open PySem.Flow renaming next->VN
open PySem.Heap renaming get?_push_of_some->Nk,get?_push_size->Np,lt_size->Nt,get?_update_other->NM,get?_update_self->NU,size_push->NY,SameBut->Oa,ExtBut->PR,get?_update_ne->Qw,IsTuple->Q7,push->Ss,get?_push_ne->SR,IsList->S3
open PySem.Heap.DictOf renaming new->V9
open PySem.Heap.IsList renaming push->Tc,extBut->VP
open PySem.Heap.IsListIter renaming extBut->Vp
open PySem.Heap.IsSliceOf renaming new->VO
open PySem.Heap.IsTuple renaming push->SO,extBut->VG
open PySem.Heap.IsTupleIter renaming extBut->Vf
open PySem.Heap.SameBut renaming update->N1,refl->V0
open PySem.IsL renaming update->V3
open PySem.IsRange renaming new->SX
open PySem.Manifest renaming sig_set_iterator->UP,signature?->VJ,owners->V'
open PySem.MeetsSeq renaming list_pop_at->Vz
open PySem.NameKind renaming free->OH,cell->Wc
open PySem.Obj renaming data_mapFields->NV,mapSeq->N8,isFreed_of_fields->OK,cls_mapFields->Pp,mapFields->PJ,putSet->TL
open PySem.Paired renaming length->Pz,snoc->Vo,cons->Vs
open PySem.PassesOwn renaming never->Od
open PySem.SeqAt renaming EqAt->Py,RcAt->Tz,RcNeAt->U9
open PySem.SeqAt.EqAt renaming same->Tj,int_none->VC,str_none->VD,none_int->VE,none_str->VF,int_str->VL,str_int->VM,of_refs->VQ
open PySem.SeqAt.RcAt renaming lists_lengths->U_,tuples->VU,lists->V4
open PySem.SeqAt.RcNeAt renaming lists_lengths->Ut,tuples->VH,lists->VR
open PySem.SetTable renaming below->NP,grown->O4,sizeAbove->Sx,slot->Uv,toList_insertAt->Va,has->Vb,orStandIn->VS,insertAt->VX,freeSlot->VY,layClean->VZ,advance->V5,relaid->V_,Probe->Wb,laid->Wd,fits->We
open PySem.SetTable.below renaming go->Qg
open PySem.SetTable.probe renaming go->SU
open PySem.Shared renaming heap->PU
open PySem.Str renaming ofString->N7
open PySem.StrLaws renaming seqIndex_nonneg->TU
open PySem.Value renaming none->NR,ref->NT,type->Ol,int->Pf,str->Sf,bool->Tn,isStrOf->Uh,isInt->Vi
open PySem.W renaming Frag->Ng,fnOf->OU,keepIn->P_,codeIn->Qz,methodObj->QT,OpenLaw->Rm,kat_nil->Rq,cellsFrom_some->Ry,kHook->R_,nsIn->Sz,kitAny->T8,WalkO->Ur,mg_of->Uy
open PySem.W.Hook renaming keeps->VT,says->V1,obs->V6,val->V7,of->Wa
open PySem.W.KatTups renaming cons->VA,nil->VI
open PySem.W.XL renaming keeps->V8
open PySem.Walks renaming list->R1,range->Vm
open PySem.pickOrder renaming go->Vd
open Sum renaming inr->NL,inl->Qy
open Sum.inl renaming inj->SW
open True renaming intro->O1
namespace L2
open PySem PySem.Spec PyProof.Rows
abbrev Key:=Sum Int (Option Str)
def nP:Key->Nf->Bool
 | .inl k,v=>Vi k v
 | .inr (some x),v=>Uh x v
 | .inr none,.none=>true
 | .inr none,_=>false
def IH(w:NA):Key->Int
 | .inl k=>hashInt k
 | .inr (some x)=>hashStr w x
 | .inr none=>4238894112
theorem bx:∀ {k:Key} {v:Nf},nP k v=true->(∃ i t,k=Qy i/\v=Pf i t)\/(∃ x t,k=NL (some x)/\v=Sf x t)\/(k=NL none/\v=NR)
 | .inl i,v,h=>by
  obtain⟨t,e⟩:=Value.isInt_shape (k:=i) (v:=v) h
  exact .inl ⟨i,t,rfl,e⟩
 | .inr (some x),v,h=>by
  obtain⟨t,e⟩:=Value.isStrOf_shape (x:=x) (v:=v) h
  exact .inr (.inl ⟨x,t,rfl,e⟩)
 | .inr none,v,h=>by
  cases v <;> first | exact .inr (.inr ⟨rfl,rfl⟩) | cases h
theorem x4(i:Int)(t:Tok):nP (.inl i) (.int i t)=true:=by simp[nP,Vi]
theorem w9(x:Str)(t:Tok):nP (.inr x) (.str x t)=true:=by simp[nP,Uh]
theorem G0(a b:Int):decide ((Qy a:Key)=Qy b)=(a == b):=by
 by_cases e:a=b
 ·subst e;simp
 have h:¬(Qy a:Key)=Qy b:=fun q=>e (SW q)
 rw[decide_eq_false h]
 exact(beq_eq_false_iff_ne.mpr e).symm
theorem E6(a b:Str):decide ((NL (some a):Key)=NL (some b))=decide (a=b):=by
 by_cases e:a=b
 ·subst e;simp
 have h:¬(NL (some a):Key)=NL (some b):=fun q=>e (D_ (Sum.inr.inj q))
 rw[decide_eq_false h,decide_eq_false e]
theorem ym{prog:Nv}{w:NA}{A:NH}{E:Nf->Ni->Prop}{s:Ni}{Q:Int->Ni->Prop}(h:Q 4238894112 { s with toks:=s.toks + 1 }):Nl (Nq prog w) A (PySem.pyHash .none) Q E s:=
 PySem.W.pyHash_slot (T:="NoneType") rfl F.slot_NoneType_hash F.entry_NoneType_hash (F.args_NoneType_hash_1 _) (beq_builtin_none _) (.inl rfl) (Nd (Nj (Nd (Vj (Nj ⟨_,_,rfl,h⟩)))))
noncomputable def ba(prog:Nv)(w:NA):PySem.KeyKind prog w Key where
 is:=nP
 hash:=IH w
 inj:=fun v a b ha hb=>by
  rcases bx ha with⟨i,t,rfl,rfl⟩ | ⟨x,t,rfl,rfl⟩ | ⟨rfl,rfl⟩ <;> rcases bx hb with⟨j,u,rfl,e⟩ | ⟨y,u,rfl,e⟩ | ⟨rfl,e⟩ <;> cases e <;> rfl
 byValue:=fun k v h=>by
  rcases bx h with⟨i,t,rfl,rfl⟩ | ⟨x,t,rfl,rfl⟩ | ⟨rfl,rfl⟩ <;> rfl
 pyHash:=fun hv h=>by
  rcases bx hv with⟨i,t,rfl,rfl⟩ | ⟨x,t,rfl,rfl⟩ | ⟨rfl,rfl⟩
  ·exact wpAny_pyHash_int h
  ·exact wpAny_pyHash_str h
  exact ym h
 eqBool:=fun hu hv h=>by
  rcases bx hu with⟨i,t,rfl,rfl⟩ | ⟨x,t,rfl,rfl⟩ | ⟨rfl,rfl⟩ <;> rcases bx hv with⟨j,u,rfl,rfl⟩ | ⟨y,u,rfl,rfl⟩ | ⟨rfl,rfl⟩
  ·rw[G0]at h;exact S6 h
  ·exact VL i t y u _ _ _ _ h
  ·exact VC i t _ _ _ _ h
  ·exact VM x t j u _ _ _ _ h
  ·rw[E6]at h;exact wpAny_eqBool_str h
  ·exact VD x t _ _ _ _ h
  ·exact VE j u _ _ _ _ h
  ·exact VF y u _ _ _ _ h
  exact Tj _ _ _ _ _ h
 «strs»:=fun k x t v h=>by
  rcases bx h with⟨i,u,rfl,e⟩ | ⟨y,u,rfl,e⟩ | ⟨rfl,e⟩
  ·exact nomatch e
  ·injection e with e1 _
   subst e1
   cases v <;> rfl
  exact nomatch e
theorem sf(prog:Nv)(w:NA)(i:Int)(t:Tok):(ba prog w).is (.inl i) (.int i t)=true:=x4 i t
theorem rB(prog:Nv)(w:NA)(x:Str)(t:Tok):(ba prog w).is (.inr x) (.str x t)=true:=w9 x t
inductive V where
 | non | bl (b:Bool) | int (i:Int) | str (x:Str) | byt (b:Array UInt8) | flt (b:UInt64) | ref (a:Nh) | ty (n:String)
 deriving DecidableEq
set_option genInjectivity false
noncomputable def RelV:V->Nf->Prop
 | .non,u=>u=NR
 | .bl b,u=>u=Tn b
 | .int i,u=>∃ t,u=Pf i t
 | .str x,u=>∃ t,u=Sf x t
 | .byt b,u=>∃ t,u=Value.bytes b t
 | .flt b,u=>∃ t,u=Value.float b t
 | .ref a,u=>u=NT a
 | .ty n,u=>u=Ol n
abbrev Vals:List V->List Nf->Prop:=Qh RelV
theorem Vals.length {xs:List V}{us:List Nf}(r:Vals xs us):xs.length=us.length:=Pz r
theorem Vals.get:∀ {xs:List V} {us:List Nf} {i:Nat} {x:V},Vals xs us->xs[i]?=some x->∃ u,us[i]?=some u/\RelV x u
 | _,_,_,_,.nil,e=>by simp at e
 | _,_,0,_,.cons r _,e=>by simp at e;subst e;exact⟨_,rfl,r⟩
 | _,_,i + 1,x,.cons _ t,e=>by
  obtain⟨u,h1,h2⟩:=Vals.get (i:=i) (x:=x) t (by simpa using e)
  exact⟨u,by simpa using h1,h2⟩
theorem Vals.set {x:V}{u:Nf}(r:RelV x u):∀ {xs:List V} {us:List Nf} (i:Nat),Vals xs us->Vals (xs.set i x) (us.set i u)
 | _,_,_,.nil=>.nil
 | _,_,0,.cons _ t=>.cons r t
 | _,_,i + 1,.cons q t=>.cons q (Vals.set r i t)
theorem Vals.append:∀ {xs ys:List V} {us ws:List Nf},Vals xs us->Vals ys ws->Vals (xs++ys) (us++ws)
 | _,_,_,_,.nil,s=>s
 | _,_,_,_,.cons r t,s=>.cons r (Vals.append t s)
theorem Vals.take:∀ {xs:List V} {us:List Nf} (n:Nat),Vals xs us->Vals (xs.take n) (us.take n)
 | _,_,0,_=>.nil
 | _,_,_ + 1,.nil=>.nil
 | _,_,n + 1,.cons r t=>.cons r (Vals.take n t)
theorem Vals.drop:∀ {xs:List V} {us:List Nf} (n:Nat),Vals xs us->Vals (xs.drop n) (us.drop n)
 | _,_,0,r=>r
 | _,_,_ + 1,.nil=>.nil
 | _,_,n + 1,.cons _ t=>Vals.drop n t
def mT:Option V->Option Nf->Prop
 | some v,some u=>RelV v u
 | none,none=>True
 | _,_=>False
def KV{κ:Type}:List (κ × V)->List (κ × Nf)->Prop:=Qh fun(p:κ × V) (q:κ × Nf)=>p.1=q.1/\RelV p.2 q.2
def kV:Key->V
 | .inl i=>.int i
 | .inr (some x)=>.str x
 | .inr none=>.non
inductive HO where
 | lst (xs:List V)
 | tup (xs:List V)
 | dK (kvs:List (Key × V)) | dT (kvs:List (List Key × V))
 | set (S:Int->Bool) (n:Nat)
 | ins (C dx:Nh) (fs:List (Str × V))
 | own (x:Nh)
 | xd (fs:List (Str × V))
 | met (f x:Nh)
 | rng (lo hi:Int)
 | frz (o:Obj) (u:HO)
 | tbl (ps:Array Nf)
 | ext (φ:NB->Prop)
abbrev Hp:=Nh->Option HO
def upd(H:Hp)(a:Nh)(o:HO):Hp:=fun b=>if b=a then some o else H b
theorem ay{H:Hp}{a:Nh}{o:HO}:upd H a o a=some o:=by unfold upd;rw[if_pos rfl]
theorem au{H:Hp}{a b:Nh}{o:HO}(h:b≠a):upd H a o b=H b:=by unfold upd;rw[if_neg h]
theorem C6{H:Hp}{a:Nh}{o u:HO}:upd (upd H a o) a u=upd H a u:=by
 funext b;unfold upd;split <;> rfl
theorem CQ{H:Hp}{a b:Nh}{o u:HO}(h:H a=some o)(h':H b=some u)(d:o≠u):a≠b:=by
 intro e;subst e;rw[h]at h';exact d (D_ h')
theorem aY{H:Hp}{a b:Nh}{o:HO}(h:H a=some o)(h':H b=none):a≠b:=by
 intro e;subst e;rw[h]at h';cases h'
section
variable(P:Nv)(w:NA)
noncomputable def aZ(H:Hp)(h:NB)(a:Nh):HO->Prop
 | .lst xs=>xs.length<=sizeLine/\∃(its:List Nf) (n:Nat),Vals xs its/\h.get? a=some { cls:=.type "list",data:=.seq its.toArray n }
 | .tup xs=>xs.length<=sizeLine/\∃ its:List Nf,Vals xs its/\Uz h a its.toArray
 | .dK kvs=>kvs.length<=sizeLine/\(a == Om)=false/\∃ vs,KV kvs vs/\h.DictOf (ba P w) a vs
 | .dT kvs=>kvs.length<=sizeLine/\(a == Om)=false/\∃ xs:List (List Key × Nh × Nf),
   Qh (fun(p:List Key × V) (q:List Key × Nh × Nf)=>p.1=q.1/\H q.2.1=some (.tup (p.1.map kV))/\RelV p.2 q.2.2) kvs xs/\
   ∃ o es ep,h.get? a=some o/\o.ExactDict/\o.data=.dict es ep/\es.toList=xs.map (entryOfKey (Rh (ba P w)))/\(xs.map (·.1)).Nodup
 | .set S n=>h.SetOf (Pe P w) a S n
 | .ins C dx fs=>H dx=some (.own a)/\fs.length<=1000/\dx≠a/\h.get? a=some (PySem.W.instObj C dx)/\
   ∃ mA,h.Ns1 dx mA/\(∀ f,mT (fs.lookup f) (mA f))/\PySem.Within mA (fs.map (·.1))
 | .own _=>∃ o,h.get? a=some o
 | .xd fs=>∃ mA,h.Ns1 a mA/\∀ f,mT (fs.lookup f) (mA f)
 | .rng lo hi=>∃ t u v,h.get? a=some { cls:=.type "range",data:=.fields #[.int lo t,.int hi u,.int 1 v] }
 | .frz o u=>h.get? a=some o/\aZ H h a u
 | .tbl ps=>h.get? a=some { cls:=.none,data:=.fields ps }
 | .met f x=>h.get? a=some (QT (.ref f) (.ref x))
 | .ext φ=>φ h/\(∃ o,h.get? a=some o)/\∀ h1 h2:NB,φ h1->(∀ o,h1.get? a=some o->h2.get? a=some o)->φ h2
def HOk(H:Hp)(h:NB):Prop:=∀ a o,H a=some o->aZ P w H h a o
end
section
variable{P:Nv}{w:NA}{H H':Hp}{h h':NB}{a:Nh}{o:HO}
theorem aZ.lt (x:aZ P w H h a o):a < h.objs.size:=by
 cases o with
 | lst xs=>obtain⟨_,_,_,_,e⟩:=x;exact Nt e
 | tup xs=>obtain⟨_,_,_,p⟩:=x;exact p.lt
 | dK kvs=>obtain⟨_,_,_,_,o,_,_,e,_⟩:=x;exact Nt e
 | dT kvs=>obtain⟨_,_,_,_,o,_,_,e,_⟩:=x;exact Nt e
 | set S n=>obtain⟨o,_,_,_,e,_⟩:=x;exact Nt e
 | ins C dx fs=>obtain⟨_,_,_,e,_⟩:=x;exact Nt e
 | own y=>obtain⟨_,e⟩:=x;exact Nt e
 | xd fs=>obtain⟨_,⟨_,_,_,e,_⟩,_⟩:=x;exact Nt e
 | rng lo hi=>obtain⟨_,_,_,e⟩:=x;exact Nt e
 | frz ob u=>obtain⟨e,_⟩:=x;exact Nt e
 | tbl ps=>exact Nt (show h.get? a=some _ from x)
 | met f y=>exact Nt (show h.get? a=some _ from x)
 | ext φ=>obtain⟨_,⟨_,e⟩,_⟩:=x;exact Nt e
theorem Paired.FH {α β:Type}{F G:α->β->Prop}:∀ {l₁:List α} {l₂:List β},Qh F l₁ l₂->(∀ a b,F a b->G a b)->Qh G l₁ l₂
 | _,_,.nil,_=>.nil
 | _,_,.cons r t,f=>.cons (f _ _ r) (Paired.FH t f)
theorem aZ.dI (x:aZ P w H h a o)(k:∀ b u,(b=a\/H b=some (.own a))->h.get? b=some u->h'.get? b=some u)
  (ho:∀ b,H b=some (.own a)->H' b=some (.own a)) (ht:∀ b xs,H b=some (.tup xs)->H' b=some (.tup xs)):aZ P w H' h' a o:=by
 induction o with
 | lst xs=>obtain⟨z,its,n,r,e⟩:=x;exact⟨z,its,n,r,k _ _ (.inl rfl) e⟩
 | tup xs=>obtain⟨z,its,r,ob,e,c⟩:=x;exact⟨z,its,r,ob,k _ _ (.inl rfl) e,c⟩
 | dK kvs=>obtain⟨z,y,vs,r,ob,es,ep,e,c⟩:=x;exact⟨z,y,vs,r,ob,es,ep,k _ _ (.inl rfl) e,c⟩
 | dT kvs=>
  obtain⟨z,y,xs,r,ob,es,ep,e,c⟩:=x
  exact⟨z,y,xs,Paired.FH r fun p q z=>⟨z.1,ht _ _ z.2.1,z.2.2⟩,ob,es,ep,k _ _ (.inl rfl) e,c⟩
 | set S n=>obtain⟨ob,es,ep,t,e,c⟩:=x;exact⟨ob,es,ep,t,k _ _ (.inl rfl) e,c⟩
 | ins C dx fs=>
  obtain⟨d,z,ne,e,mA,⟨od,es,ep,e2,c⟩,r⟩:=x
  exact⟨ho _ d,z,ne,k _ _ (.inl rfl) e,mA,⟨od,es,ep,k _ _ (.inr d) e2,c⟩,r⟩
 | own y=>obtain⟨ob,e⟩:=x;exact⟨ob,k _ _ (.inl rfl) e⟩
 | xd fs=>obtain⟨mA,⟨od,es,ep,e,c⟩,r⟩:=x;exact⟨mA,⟨od,es,ep,k _ _ (.inl rfl) e,c⟩,r⟩
 | rng lo hi=>obtain⟨t,u,v,e⟩:=x;exact⟨t,u,v,k _ _ (.inl rfl) e⟩
 | frz ob u ih=>obtain⟨e,q⟩:=x;exact⟨k _ _ (.inl rfl) e,ih q⟩
 | tbl ps=>
  have e:h.get? a=some { cls:=.none,data:=.fields ps }:=x
  show h'.get? a=some { cls:=.none,data:=.fields ps }
  exact k a _ (.inl rfl) e
 | met f y=>
  have e:h.get? a=some (QT (.ref f) (.ref y)):=x
  show h'.get? a=some (QT (.ref f) (.ref y))
  exact k a _ (.inl rfl) e
 | ext φ=>obtain⟨p,⟨o,e⟩,st⟩:=x;exact⟨st _ _ p fun o q=>k _ _ (.inl rfl) q,⟨o,k _ _ (.inl rfl) e⟩,st⟩
theorem HOk.lt (x:HOk P w H h)(e:H a=some o):a < h.objs.size:=(x a o e).lt
theorem HOk.fresh (x:HOk P w H h)(e:h.objs.size<=a):H a=none:=by
 cases q:H a with
 | none=>rfl
 | some u=>exact absurd (x_ (x.lt q) e) (JZ _)
theorem HOk.kept (x:HOk P w H h)(k:∀ b u,h.get? b=some u->h'.get? b=some u):HOk P w H h':=fun a o e=>
 (x a o e).dI (fun b u _ q=>k b u q) (fun _ q=>q) fun _ _ q=>q
theorem HOk.laid (x:HOk P w H h)(k:∀ b u,h.get? b=some u->h'.get? b=some u)(hp:h.objs.size<=a)(new:aZ P w (upd H a o) h' a o):HOk P w (upd H a o) h':=fun b u e=>by
 have hn:=x.fresh hp
 by_cases hb:b=a
 ·subst hb;rw[ay]at e;cases e;exact new
 rw[au hb]at e
 exact(x b u e).dI (fun c v _ q=>k c v q) (fun c q=>by rw[au (aY q hn)];exact q) fun c xs q=>by rw[au (aY q hn)];exact q
end
def Rd(H:Hp)(a:Nh)(u:HO):Prop:=H a=some u\/∃ o,H a=some (.frz o u)
theorem Rd.ok {P:Nv}{w:NA}{H:Hp}{h:NB}{a:Nh}{u:HO}(r:Rd H a u)(x:HOk P w H h):aZ P w H h a u:=by
 rcases r with r | ⟨o,r⟩
 ·exact x a u r
 obtain⟨_,q⟩:=x a _ r
 exact q
noncomputable def Mut:Option HO->Prop
 | some (.lst _)=>True
 | some (.dK _)=>True
 | some (.dT _)=>True
 | some (.set _ _)=>True
 | some (.ins _ _ _)=>True
 | some (.ext _)=>True
 | _=>False
section
variable{P:Nv}{w:NA}{H:Hp}{h h':NB}{x e:Nh}{o':HO}
theorem HOk.write (ok:HOk P w H h)(mu:Mut (H x))(he:e=x\/H e=some (.own x))(k:∀ b u,b≠e->h.get? b=some u->h'.get? b=some u)(heo:∃ u,h'.get? e=some u)
  (new:aZ P w (upd H x o') h' x o'):HOk P w (upd H x o') h':=fun b u q=>by
 have nown:∀ c y,H c=some (.own y)->c≠x:=fun c y r z=>by subst z;rw[r]at mu;exact mu
 have ntup:∀ c xs,H c=some (.tup xs)->c≠x:=fun c xs r z=>by subst z;rw[r]at mu;exact mu
 by_cases hb:b=x
 ·subst hb;rw[ay]at q;cases q;exact new
 rw[au hb]at q
 by_cases hbe:b=e
 ·have q':H b=some (.own x):=by
   rcases he with z | z
   ·exact absurd (hbe.trans z) hb
   rw[hbe];exact z
  rw[q]at q';cases q'
  obtain⟨v,hv⟩:=heo
  exact⟨v,by rw[hbe];exact hv⟩
 refine(ok b u q).dI (fun c v hc r=>k c v ?_ r) (fun c r=>by rw[au (nown c b r)];exact r) fun c xs r=>by rw[au (ntup c xs r)];exact r
 rcases hc with rfl | hc
 ·exact hbe
 rintro rfl
 rcases he with z | z
 ·exact nown c b hc z
 rw[hc]at z;cases z;exact hb rfl
end
structure Un (fs ex:List Nh) (H H':Hp) (h h':NB):Prop where
 keep:∀ b o,h.get? b=some o->H b=none->b ∉ fs->b ∉ ex->h'.get? b=some o
 slot:∀ b o,h.get? b=some o->H b=none->b∈fs->b ∉ ex->∃ sl,h'.get? b=some { o with slots:=sl }
 free:∀ b o,h.get? b=some o->H b=none->b ∉ ex->H' b=none
 there:∀ b o,h.get? b=some o->b ∉ ex->∃ o',h'.get? b=some o'
 tups:∀ b xs,H b=some (.tup xs)->H' b=some (.tup xs)
 frzs:∀ b o u,H b=some (.frz o u)->H' b=some (.frz o u)
 tbls:∀ b ps,H b=some (.tbl ps)->∃ more,H' b=some (.tbl (ps++more))
section
variable{fs fs' ex ex':List Nh}{H H1 H2:Hp}{h h1 h2 h':NB}{a x e:Nh}{o:HO}
theorem Un.any (u:Un fs ex H H1 h h1){b:Nh}{ob:Obj}(q:h.get? b=some ob)(n:H b=none)(hx:b ∉ ex):∃ sl,h1.get? b=some { ob with slots:=sl }:=by
 by_cases hb:b∈fs
 ·exact u.slot b ob q n hb hx
 exact⟨ob.slots,u.keep b ob q n hb hx⟩
theorem Un.kept (k:∀ b u,h.get? b=some u->h'.get? b=some u):Un fs ex H H h h':=
 ⟨fun b ob q _ _ _=>k b ob q,fun b ob q _ _ _=>⟨ob.slots,k b ob q⟩,fun _ _ _ n _=>n,fun b ob q _=>⟨ob,k b ob q⟩,fun _ _ q=>q,fun _ _ _ q=>q,fun _ ps q=>⟨#[],by rw[q];simp⟩⟩
theorem Un.refl:Un fs ex H H h h:=Un.kept fun _ _ q=>q
theorem Un.laid (k:∀ b u,h.get? b=some u->h'.get? b=some u)(hp:h.objs.size<=a)(hn:H a=none):Un fs ex H (upd H a o) h h' where
 keep:=fun b u q _ _ _=>k b u q
 slot:=fun b u q _ _ _=>⟨u.slots,k b u q⟩
 free:=fun b u q n _=>by rw[au (r_ (x_ (Nt q) hp))];exact n
 there:=fun b u q _=>⟨u,k b u q⟩
 tups:=fun b xs q=>by rw[au (aY q hn)];exact q
 frzs:=fun b u xs q=>by rw[au (aY q hn)];exact q
 tbls:=fun b ps q=>⟨#[],by rw[au (aY q hn),q];simp⟩
theorem Un.write (mu:Mut (H x))(he:e=x\/H e=some (.own x))(k:∀ b u,b≠e->h.get? b=some u->h'.get? b=some u)(heo:∃ u,h'.get? e=some u):Un fs ex H (upd H x o) h h':=by
 have hx:∀ b,H b=none->b≠x:=fun b n z=>by subst z;rw[n]at mu;exact mu
 have hb:∀ b,H b=none->b≠e:=fun b n z=>by
  subst z
  rcases he with r | r
  ·exact hx b n r
  rw[n]at r;cases r
 have hm:∀ b u,H b=some u->¬ Mut (some u)->b≠x:=fun b u q nm z=>by subst z;rw[q]at mu;exact nm mu
 refine⟨fun b u q n _ _=>k b u (hb b n) q,fun b u q n _ _=>⟨u.slots,k b u (hb b n) q⟩,fun b u q n _=>by rw[au (hx b n)];exact n,fun b u q _=>?_,
  fun b xs q=>by rw[au (hm b _ q fun z=>z)];exact q,fun b u xs q=>by rw[au (hm b _ q fun z=>z)];exact q,fun b ps q=>⟨#[],by rw[au (hm b _ q fun z=>z),q];simp⟩⟩
 by_cases hbe:b=e
 ·subst hbe;exact heo
 exact⟨u,k b u hbe q⟩
end
def trk(h:NB)(H:Hp):List Nh:=(o_ h.objs.size).filter fun a=>(H a).isSome
def oU(h:NB)(H:Hp):NB:=PySem.W.hideAll h (trk h H)
theorem x5(h:NB)(H:Hp):(oU h H).objs.size=h.objs.size:=PySem.W.hideAll_size _ _
theorem A4{h:NB}{H:Hp}{b:Nh}{o:Obj}(e:h.get? b=some o)(n:H b=none):(oU h H).get? b=some o:=
 PySem.W.hideAll_get _ e fun hm=>by
  have q:(H b).isSome=true:=(Jv.mp hm).2
  rw[n]at q;simp at q
theorem C2{h:NB}{H:Hp}{b:Nh}{o:Obj}(e:(oU h H).get? b=some o):h.get? b=some o/\H b=none:=by
 have e':h.get? b=some o:=PySem.W.of_hideAll (trk h H) e
 refine⟨e',?_⟩
 cases q:H b with
 | none=>rfl
 | some x=>
  have hm:b∈trk h H:=Jv.mpr ⟨Jh.mpr (Nt e'),by simp[q]⟩
  have z:(oU h H).get? b=none:=PySem.W.hideAll_none (trk h H) hm
  rw[z]at e;cases e
noncomputable def BQ(g h:NB)(L:Nh):List (Nh × Obj):=(o_ h.objs.size).filterMap fun a=>if a=L\/(g.get? a).isSome=true then none else(h.get? a).map fun o=>(a,o)
def rest(g h:NB)(L d:Nh):List (Nh × Obj):=(BQ g h L).filter fun p=>decide (p.1≠d)
structure Mod (K:Ng) (mg:Str->Option Nf) (base:NB):Prop where
 kin:K.In base
 glob:base.Ns Oh mg
 blt:∃ mb,base.Ns RS mb/\∀ x:Str,x≠"__name__"->mb x=O5 x
 nolimit:base.NoLimit
structure Cx where
 prog:Nv
 w:NA
 K:Ng
 mg:Str->Option Nf
 base:NB
 A:NH
 N:List Str
 s₀:Ni
 H₀:Hp
 env:Env
 outer:List Env
 stack:List Env
 ex:List Nh
 fn:Str->Bool
 calm:Bool
 pn:List (Nh × Obj)
 xe:Nf->Ni->Prop
def frs(l:List Env):List Nh:=l.filterMap (·.frame)
abbrev Cx.fs (X:Cx):List Nh:=frs X.outer
def Vis(sc:Oo)(x:Str):Prop:=sc.names.lookup x=some .local\/sc.names.lookup x=some .cell\/sc.names.lookup x=some .free
def Loc(sc:Oo)(x:Str):Prop:=sc.names.lookup x=some .local\/sc.names.lookup x=some .cell
noncomputable def Look(env:Env)(h:NB)(m:Str->Option Nf)(x:Str)(u:Nf):Prop:=
 (env.kindOf x=some .local/\m x=some u)\/((env.kindOf x=some .cell\/env.kindOf x=some .free)/\∃ c,env.cells.lookup x=some c/\h.IsCell c (some u))
structure Cx.Ok (X:Cx):Prop where
 mod:Mod X.K X.mg X.base
 kind:X.env.scope.kind=.function
 glob:X.env.globals=Oh
 blt:X.env.builtins=RS
 above:X.s₀.heap.objs.size<=X.env.locals
 inj:∀ x y c,X.env.cells.lookup x=some c->X.env.cells.lookup y=some c->x=y
 has:∀ x,(X.env.kindOf x=some .cell\/X.env.kindOf x=some .free)->∃ c,X.env.cells.lookup x=some c
 cab:∀ x c,X.fn x=true->X.env.cells.lookup x=some c->X.s₀.heap.objs.size<=c
 hd:X.calm=true->X.A.handled=none
 frames:X.A.frames=some X.stack
 stk:X.stack=X.outer\/(X.stack=X.env::X.outer/\X.env.frame=some X.env.locals)
 exf:∀ b∈X.ex,b≠X.env.locals/\∀ x c,X.env.cells.lookup x=some c->c≠b
 bs:∀ b o,X.base.get? b=some o->X.s₀.heap.get? b=some o/\X.H₀ b=none
 bsz:X.base.objs.size<=X.s₀.heap.objs.size
 noex:∀ b o,X.base.get? b=some o->b ∉ X.ex
 exfs:∀ b∈X.ex,b ∉ X.fs
 lM:X.s₀.heap.FunFrames X.base X.outer
 frf:∀ b∈X.fs,X.H₀ b=none
structure Inv (X:Cx) (pins:List (Nh × Obj)) (σ:List (Option V)) (H:Hp) (s:Ni):Prop where
 ok:X.Ok
 os:s.os=X.s₀.os
 bare:Qn s.gens
 base:Un X.fs X.ex X.H₀ H X.s₀.heap s.heap
 loc:∃ m,s.heap.Ns X.env.locals m/\∀(i:Nat) (x:Str) (v:V),X.N[i]?=some x->σ[i]?=some (some v)->Vis X.env.scope x->∃ u,RelV v u/\Look X.env s.heap m x u
 cell:∀ x c,X.env.cells.lookup x=some c->∃ v,s.heap.IsCell c v
 free:H X.env.locals=none
 freeC:∀ x c,X.env.cells.lookup x=some c->H c=none
 pin:∀ p∈X.pn++pins,s.heap.get? p.1=some p.2/\H p.1=none/\p.1≠X.env.locals/\p.1 ∉ X.fs/\∀ v,p.2.data≠.cell v
 hok:HOk X.prog X.w H s.heap
 len:σ.length=X.N.length
section
variable{X:Cx}{pins:List (Nh × Obj)}{σ:List (Option V)}{H H':Hp}{s:Ni}{h':NB}
theorem Cx.Ok.Iu (ok:X.Ok){b:Nh}{o:Obj}(e:X.base.get? b=some o):b ∉ X.fs:=fun hb=>by
 have:=(ok.lM.mem hb).1
 rw[e]at this;cases this
theorem Inv.bs (I:Inv X pins σ H s):∀ b o,X.base.get? b=some o->s.heap.get? b=some o/\H b=none:=fun b o e=>
 ⟨I.base.keep b o (I.ok.bs b o e).1 (I.ok.bs b o e).2 (I.ok.Iu e) (I.ok.noex b o e),I.base.free b o (I.ok.bs b o e).1 (I.ok.bs b o e).2 (I.ok.noex b o e)⟩
theorem Inv.bk (I:Inv X pins σ H s):∀ b o,X.base.get? b=some o->s.heap.get? b=some o:=fun b o e=>(I.bs b o e).1
theorem Inv.mod (I:Inv X pins σ H s):Mod X.K X.mg X.base:=I.ok.mod
theorem Inv.kIn (I:Inv X pins σ H s):X.K.In s.heap:=I.ok.mod.kin.keeps I.bk
theorem Inv.lt (I:Inv X pins σ H s):X.env.locals < s.heap.objs.size:=let ⟨_,hn,_⟩:=I.loc;hn.lt
theorem Inv.sz (I:Inv X pins σ H s):X.s₀.heap.objs.size<=s.heap.objs.size:=v_ I.ok.above (Jd I.lt)
theorem Inv.IF (I:Inv X pins σ H s){a:Nh}(h:s.heap.objs.size<=a):a ∉ X.fs:=fun hb=>by
 obtain⟨_,o,ho,_⟩:=I.ok.lM.mem hb
 exact absurd (x_ (Nt ho) (v_ I.sz h)) (JZ _)
theorem Inv.cne (I:Inv X pins σ H s):∀ x c,X.env.cells.lookup x=some c->c≠X.env.locals:=fun x c e z=>by
 obtain⟨v,o,ho,hd⟩:=I.cell x c e
 obtain⟨m,⟨o',es,ep,ho',hd',_⟩,_⟩:=I.loc
 rw[z,ho']at ho;cases ho;rw[hd']at hd;cases hd
theorem Inv.lM (I:Inv X pins σ H s):s.heap.FunFrames X.base X.outer:=by
 have all:∀(l:List Env),(∀ b∈frs l,b∈X.fs)->X.s₀.heap.FunFrames X.base l->s.heap.FunFrames X.base l:=by
  intro l
  induction l with
  | nil=>intro _ _;trivial
  | cons env r ih=>
   intro hs hl
   obtain⟨hk,⟨L,o,hf,hn,ho,hd⟩,hr⟩:=hl
   have hL:L∈X.fs:=hs L (by unfold frs;rw[Lr,hf];exact p_)
   obtain⟨sl,e⟩:=I.base.slot L o ho (I.ok.frf L hL) hL fun z=>I.ok.exfs L z hL
   exact⟨hk,⟨L,_,hf,hn,e,hd⟩,ih (fun b hb=>hs b (by unfold frs;rw[Lr,hf];exact n_ _ hb)) hr⟩
 exact all X.outer (fun _ hb=>hb) I.ok.lM
theorem Inv.stack (I:Inv X pins σ H s):s.heap.FunFrames X.base X.stack:=by
 rcases I.ok.stk with e | ⟨e,hf⟩
 ·rw[e];exact I.lM
 rw[e]
 obtain⟨m,hn,_⟩:=I.loc
 refine .cons (by rw[I.ok.kind];decide) hf hn ?_ I.lM
 exact Heap.get?_none_of_le (v_ I.ok.bsz I.ok.above)
theorem Inv.sV (I:Inv X pins σ H s):∀ b∈frs X.stack,b∈X.env.locals::X.fs:=fun b hb=>by
 rcases I.ok.stk with e | ⟨e,hf⟩
 ·rw[e]at hb;exact n_ _ hb
 rw[e]at hb
 unfold frs at hb
 rw[Lr,hf]at hb
 exact hb
theorem Inv.uY (I:Inv X pins σ H s):∀ b∈frs X.stack,H b=none:=fun b hb=>by
 rcases m_.mp (I.sV b hb)with e | hb
 ·rw[e];exact I.free
 obtain⟨_,o,ho,_⟩:=I.ok.lM.mem hb
 exact I.base.free b o ho (I.ok.frf b hb) fun z=>I.ok.exfs b z hb
theorem Inv.step {g':Array S7}{t':Nat}{d':UA}{ch:List Nh}(I:Inv X pins σ H s)
  (hch:∀ b∈ch,(b∈X.ex\/X.s₀.heap.objs.size<=b)/\b≠X.env.locals/\(∀ x c,X.env.cells.lookup x=some c->c≠b)/\∀ p∈X.pn++pins,p.1≠b)
  (keep:∀ b o,b≠X.env.locals->b ∉ X.fs->b ∉ ch->s.heap.get? b=some o->H b=none->h'.get? b=some o)
  (slot:∀ b o,b≠X.env.locals->b∈X.fs->b ∉ ch->s.heap.get? b=some o->H b=none->∃ sl,h'.get? b=some { o with slots:=sl }) (free:∀ b o,b ∉ ch->s.heap.get? b=some o->H b=none->H' b=none)
  (there:∀ b o,b ∉ ch->s.heap.get? b=some o->∃ o',h'.get? b=some o')
  (tups:∀ b xs,H b=some (.tup xs)->H' b=some (.tup xs)) (frzs:∀ b o u,H b=some (.frz o u)->H' b=some (.frz o u)) (tbls:∀ b ps,H b=some (.tbl ps)->∃ more,H' b=some (.tbl (ps++more)))
  (ns:∀ m,s.heap.Ns X.env.locals m->h'.Ns X.env.locals m) (hok:HOk X.prog X.w H' h') (hg:Qn g') :
  Inv X pins σ H' { s with heap:=h',gens:=g',drawn:=d',toks:=t' }:=by
 have neL:∀ b o,X.s₀.heap.get? b=some o->b≠X.env.locals:=fun b o e=>r_ (x_ (Nt e) I.ok.above)
 have neC:∀ b o,X.s₀.heap.get? b=some o->b ∉ X.ex->b ∉ ch:=fun b o e hx hb=>by
  rcases(hch b hb).1 with z | z
  ·exact hx z
  exact absurd (x_ (Nt e) z) (JZ _)
 have cellK:∀ x c,X.env.cells.lookup x=some c->∀ v,s.heap.IsCell c v->h'.IsCell c v:=fun x c e v ⟨o,ho,hd⟩=>by
  have nch:c ∉ ch:=fun z=>(hch c z).2.2.1 x c e rfl
  by_cases hc:c∈X.fs
  ·obtain⟨sl,q⟩:=slot c o (I.cne x c e) hc nch ho (I.freeC x c e)
   exact⟨_,q,hd⟩
  exact⟨o,keep c o (I.cne x c e) hc nch ho (I.freeC x c e),hd⟩
 refine⟨I.ok,I.os,hg,⟨fun b o e n hb hx=>?_,fun b o e n hb hx=>?_,fun b o e n hx=>?_,fun b o e hx=>?_,fun b xs e=>tups b xs (I.base.tups b xs e),fun b o xs e=>frzs b o xs (I.base.frzs b o xs e),fun b ps e=>?_⟩,?_,fun x c e=>?_,?_,fun x c e=>?_,fun p hp=>?_,hok,I.len⟩
 ·exact keep b o (neL b o e) hb (neC b o e hx) (I.base.keep b o e n hb hx) (I.base.free b o e n hx)
 ·obtain⟨sl,e1⟩:=I.base.slot b o e n hb hx
  obtain⟨sl',e2⟩:=slot b _ (neL b o e) hb (neC b o e hx) e1 (I.base.free b o e n hx)
  exact⟨sl',e2⟩
 ·obtain⟨o',e1⟩:=I.base.there b o e hx
  exact free b o' (neC b o e hx) e1 (I.base.free b o e n hx)
 ·obtain⟨o',e1⟩:=I.base.there b o e hx
  exact there b o' (neC b o e hx) e1
 ·obtain⟨m1,e1⟩:=I.base.tbls b ps e
  obtain⟨m2,e2⟩:=tbls b _ e1
  exact⟨m1++m2,by rw[e2,Array.append_assoc]⟩
 ·obtain⟨m,hn,hl⟩:=I.loc
  refine⟨m,ns m hn,fun i x v e1 e2 e3=>?_⟩
  obtain⟨u,r,l⟩:=hl i x v e1 e2 e3
  refine⟨u,r,?_⟩
  rcases l with l | ⟨k,c,e,z⟩
  ·exact .inl l
  exact .inr ⟨k,c,e,cellK x c e _ z⟩
 ·obtain⟨v,z⟩:=I.cell x c e
  exact⟨v,cellK x c e v z⟩
 ·obtain⟨m,⟨o,_,_,ho,_⟩,_⟩:=I.loc
  exact free _ o (fun z=>(hch _ z).2.1 rfl) ho I.free
 ·obtain⟨v,o,ho,hd⟩:=I.cell x c e
  exact free c o (fun z=>(hch c z).2.2.1 x c e rfl) ho (I.freeC x c e)
 obtain⟨e,n,ne,nf,d⟩:=I.pin p hp
 have nch:p.1 ∉ ch:=fun z=>(hch p.1 z).2.2.2 p hp rfl
 exact⟨keep p.1 p.2 ne nf nch e n,free p.1 p.2 nch e n,ne,nf,d⟩
theorem Inv.un {t':Nat}(I:Inv X pins σ H s)(u:Un X.fs [] H H' s.heap h')(hok:HOk X.prog X.w H' h'):Inv X pins σ H' { s with heap:=h',toks:=t' }:=by
 obtain⟨m,⟨o,es,ep,ho,r⟩,_⟩:=id I.loc
 obtain⟨sl,hL⟩:=u.any ho I.free (by simp)
 exact I.step (g':=s.gens) (d':=s.drawn) (ch:=[]) (fun _ z=>nomatch z) (fun b o _ hb _ e n=>u.keep b o e n hb (by simp)) (fun b o _ hb _ e n=>u.slot b o e n hb (by simp)) (fun b o _ e n=>u.free b o e n (by simp)) (fun b o _ e=>u.there b o e (by simp)) u.tups u.frzs u.tbls (fun m' hm=>by
  obtain⟨o',es',ep',ho',r'⟩:=hm
  rw[ho]at ho';cases ho'
  exact⟨_,es',ep',hL,r'⟩) hok I.bare
theorem Inv.call {g':Array S7}{t':Nat}{d':UA}{ch:List Nh}(I:Inv X pins σ H s)(u:Un (frs X.stack) ch H H' s.heap h')(hok:HOk X.prog X.w H' h')(hg:Qn g')
  (hch:∀ b∈ch,(b∈X.ex\/X.s₀.heap.objs.size<=b)/\b≠X.env.locals/\(∀ x c,X.env.cells.lookup x=some c->c≠b)/\∀ p∈X.pn++pins,p.1≠b) :
  Inv X pins σ H' { s with heap:=h',gens:=g',drawn:=d',toks:=t' }:=by
 obtain⟨m,⟨o,es,ep,ho,r⟩,_⟩:=id I.loc
 obtain⟨sl,hL⟩:=u.any ho I.free fun z=>(hch _ z).2.1 rfl
 exact I.step (ch:=ch) hch (fun b o hL hb hc e n=>u.keep b o e n (fun z=>(m_.mp (I.sV b z)).elim hL hb) hc) (fun b o _ _ hc e n=>u.any e n hc) (fun b o hc e n=>u.free b o e n hc) (fun b o hc e=>u.there b o e hc) u.tups u.frzs u.tbls (fun m' hm=>by
  obtain⟨o',es',ep',ho',r'⟩:=hm
  rw[ho]at ho';cases ho'
  exact⟨_,es',ep',hL,r'⟩) hok hg
theorem Inv.turned {t':Nat}{it:Nh}(I:Inv X pins σ H s)(k:∀ b o,b≠it->s.heap.get? b=some o->h'.get? b=some o)(hn:H it=none)(hL:it≠X.env.locals)
  (h1:it∈X.ex\/X.s₀.heap.objs.size<=it) (h2:∀ x c,X.env.cells.lookup x=some c->c≠it) (h3:∀ p∈X.pn++pins,p.1≠it):Inv X pins σ H { s with heap:=h',toks:=t' }:=by
 have nit:∀ b u,H b=some u->b≠it:=fun b u e z=>by rw[z,hn]at e;cases e
 refine I.step (g':=s.gens) (d':=s.drawn) (ch:=[it]) (fun b hb=>?_) (fun b o _ _ hc e _=>k b o (fun z=>hc (by simp[z])) e) (fun b o _ _ hc e _=>⟨o.slots,k b o (fun z=>hc (by simp[z])) e⟩) (fun _ _ _ _ n=>n)
  (fun b o hc e=>⟨o,k b o (fun z=>hc (by simp[z])) e⟩) (fun _ _ e=>e) (fun _ _ _ e=>e) (fun b ps e=>⟨#[],by rw[e];simp⟩) (fun m hm=>?_) (fun b u e=>?_) I.bare
 ·have e:b=it:=by simpa using hb
  subst e
  exact⟨h1,hL,h2,h3⟩
 ·obtain⟨o,es,ep,ho,r⟩:=hm
  exact⟨o,es,ep,k _ o (Oq hL) ho,r⟩
 refine(I.hok b u e).dI (fun c v hc q=>k c v ?_ q) (fun _ q=>q) fun _ _ q=>q
 rcases hc with z | z
 ·rw[z];exact nit b u e
 exact nit c _ z
theorem Inv.tok (I:Inv X pins σ H s)(t:Nat):Inv X pins σ H { s with toks:=t }:=I.un (h':=s.heap) (t':=t) Un.refl I.hok
theorem Inv.kept {t':Nat}(I:Inv X pins σ H s)(k:∀ b u,s.heap.get? b=some u->h'.get? b=some u):Inv X pins σ H { s with heap:=h',toks:=t' }:=I.un (Un.kept k) (I.hok.kept k)
theorem Inv.laid {a:Nh}{o:HO}{t':Nat}(I:Inv X pins σ H s)(k:∀ b u,s.heap.get? b=some u->h'.get? b=some u)(hp:s.heap.objs.size<=a)(new:aZ X.prog X.w (upd H a o) h' a o) :
  Inv X pins σ (upd H a o) { s with heap:=h',toks:=t' }:=I.un (Un.laid k hp (I.hok.fresh hp)) (I.hok.laid k hp new)
theorem Inv.write {x e:Nh}{o:HO}{t':Nat}(I:Inv X pins σ H s)(mu:Mut (H x))(he:e=x\/H e=some (.own x))(k:∀ b u,b≠e->s.heap.get? b=some u->h'.get? b=some u)(heo:∃ u,h'.get? e=some u)
  (new:aZ X.prog X.w (upd H x o) h' x o):Inv X pins σ (upd H x o) { s with heap:=h',toks:=t' }:=I.un (Un.write mu he k heo) (I.hok.write mu he k heo new)
theorem Inv.va {pins':List (Nh × Obj)}(I:Inv X pins σ H s)(h:∀ p∈pins',s.heap.get? p.1=some p.2/\H p.1=none/\p.1≠X.env.locals/\p.1 ∉ X.fs/\∀ v,p.2.data≠.cell v):Inv X pins' σ H s:=
 ⟨I.ok,I.os,I.bare,I.base,I.loc,I.cell,I.free,I.freeC,fun p hp=>(F'.mp hp).elim (fun z=>I.pin p (Jf _ z)) (h p),I.hok,I.len⟩
theorem qW{N:List Str}(hN:N.Nodup){i j:Nat}{x:Str}(a:N[i]?=some x)(b:N[j]?=some x):i=j:=by
 obtain⟨h1,e1⟩:=c_.mp a
 obtain⟨h2,e2⟩:=c_.mp b
 exact(List.getElem_inj hN).mp (e1.trans e2.symm)
theorem nY{M:Po}{A:NH}{E:Nf->Ni->Prop}{i:Nat}{x:Str}{v:V}{u:Nf}{Q:Unit->Ni->Prop}(I:Inv X pins σ H s)(hN:X.N.Nodup)(hi:X.N[i]?=some x)(hx:Loc X.env.scope x)(r:RelV v u)
  (h:∀ s',Inv X pins (σ.set i (some v)) H s'->(∃ a,Oa a s.heap s'.heap/\(a=X.env.locals\/X.env.cells.lookup x=some a))->Q () s') (hf:X.fn x=true\/X.env.scope.names.lookup x=some .local:=by first | exact .inl rfl | exact .inr rfl | assumption):Nl M A (Ub X.env x u) Q E s:=by
 obtain⟨m,hn,hl⟩:=id I.loc
 have hcls:(X.env.scope.kind == .class || (X.env.scope.kind == .module && X.env.locals != X.env.globals))=false:=by rw[I.ok.kind];rfl
 have hiσ:i < σ.length:=by rw[I.len];exact(c_.mp hi).1
 have cne:=I.cne
 have tracked:∀ {a:Nh} {h':NB},(∃ o,s.heap.get? a=some o/\H a=none)->Oa a s.heap h'->HOk X.prog X.w H h':=fun{a h'} ha hs b ob e=>by
  obtain⟨_,_,hfree⟩:=ha
  refine(I.hok b ob e).dI (fun c w' hc q=>(hs.2 c ?_).trans q) (fun _ q=>q) fun _ _ q=>q
  rintro rfl
  rcases hc with rfl | hc
  ·rw[hfree]at e;cases e
  rw[hfree]at hc;cases hc
 rcases hx with hk | hk
 ·refine wpAny_storeName_local hk hn (fun h' hn' hs=>?_) hcls
  obtain⟨oL,_,_,hoL,_⟩:=id hn
  refine h _ ⟨I.ok,I.os,I.bare,⟨fun b o e n hb hx=>?_,fun b o e n hb hx=>?_,I.base.free,fun b o e hx=>?_,I.base.tups,I.base.frzs,I.base.tbls⟩,⟨_,hn',fun j y v' e1 e2 e3=>?_⟩,fun y c e=>?_,I.free,I.freeC,fun p hp=>?_,tracked ⟨oL,hoL,I.free⟩ hs,by simpa using I.len⟩ ⟨_,hs,.inl rfl⟩
  ·exact(hs.2 b (r_ (x_ (Nt e) I.ok.above))).trans (I.base.keep b o e n hb hx)
  ·obtain⟨sl,e1⟩:=I.base.slot b o e n hb hx
   exact⟨sl,(hs.2 b (r_ (x_ (Nt e) I.ok.above))).trans e1⟩
  ·obtain⟨o',e1⟩:=I.base.there b o e hx
   exact⟨o',(hs.2 b (r_ (x_ (Nt e) I.ok.above))).trans e1⟩
  ·by_cases hj:j=i
   ·subst hj
    rw[hi]at e1;cases e1
    rw[Kl hiσ]at e2
    cases e2
    exact⟨u,r,.inl ⟨hk,by simp⟩⟩
   rw[KC (Oq hj)]at e2
   obtain⟨u',r',q⟩:=hl j y v' e1 e2 e3
   refine⟨u',r',?_⟩
   rcases q with⟨k,e⟩ | ⟨k,c,e,z⟩
   ·refine .inl ⟨k,?_⟩
    have:y≠x:=fun e=>hj (qW hN e1 (e ▸ hi))
    simp[this,e]
   exact .inr ⟨k,c,e,z.sameBut hs (cne y c e)⟩
  ·obtain⟨w',z⟩:=I.cell y c e
   exact⟨w',z.sameBut hs (cne y c e)⟩
  obtain⟨e,n,ne,nf,d⟩:=I.pin p hp
  exact⟨(hs.2 p.1 ne).trans e,n,ne,nf,d⟩
 have hfn:X.fn x=true:=by
  rcases hf with z | z
  ·exact z
  rw[z]at hk;cases hk
 obtain⟨c,hc⟩:=I.ok.has x (.inl hk)
 obtain⟨w',z⟩:=I.cell x c hc
 refine wpAny_storeName_cell I.ok.kind hk hc z (fun h' hc' hs=>?_)
 obtain⟨oc,hoc,hocd⟩:=id z
 refine h { s with heap:=h' } ⟨I.ok,I.os,I.bare,⟨fun b o e n hb hx=>?_,fun b o e n hb hx=>?_,I.base.free,fun b o e hx=>?_,I.base.tups,I.base.frzs,I.base.tbls⟩,⟨m,hn.sameBut hs (Oq (cne x c hc)),fun j y v' e1 e2 e3=>?_⟩,fun y c' e=>?_,I.free,I.freeC,fun p hp=>?_,tracked ⟨oc,hoc,I.freeC x c hc⟩ hs,by simpa using I.len⟩ ⟨c,hs,.inr hc⟩
 ·exact(hs.2 b (r_ (x_ (Nt e) (I.ok.cab x c hfn hc)))).trans (I.base.keep b o e n hb hx)
 ·obtain⟨sl,e1⟩:=I.base.slot b o e n hb hx
  exact⟨sl,(hs.2 b (r_ (x_ (Nt e) (I.ok.cab x c hfn hc)))).trans e1⟩
 ·obtain⟨o',e1⟩:=I.base.there b o e hx
  exact⟨o',(hs.2 b (r_ (x_ (Nt e) (I.ok.cab x c hfn hc)))).trans e1⟩
 ·by_cases hj:j=i
  ·subst hj
   rw[hi]at e1;cases e1
   rw[Kl hiσ]at e2
   cases e2
   exact⟨u,r,.inr ⟨.inl hk,c,hc,hc'⟩⟩
  rw[KC (Oq hj)]at e2
  obtain⟨u',r',q⟩:=hl j y v' e1 e2 e3
  refine⟨u',r',?_⟩
  rcases q with q | ⟨k,c',e,z'⟩
  ·exact .inl q
  refine .inr ⟨k,c',e,z'.sameBut hs ?_⟩
  rintro rfl
  exact hj (qW hN e1 (I.ok.inj _ _ _ e hc ▸ hi))
 ·by_cases hcc:c'=c
  ·subst hcc;exact⟨_,hc'⟩
  obtain⟨w2,z2⟩:=I.cell y c' e
  exact⟨w2,z2.sameBut hs hcc⟩
 obtain⟨e,n,ne,nf,d⟩:=I.pin p hp
 refine⟨(hs.2 p.1 ?_).trans e,n,ne,nf,d⟩
 intro q
 rw[q,hoc]at e
 have q':oc=p.2:=D_ e
 exact d w' (by rw[<-q'];exact hocd)
theorem eM{M:Po}{A:NH}{E:Nf->Ni->Prop}{i:Nat}{x:Str}{v:V}{u:Nf}{Q:Unit->Ni->Prop}(I:Inv X pins σ H s)(hN:X.N.Nodup)(hi:X.N[i]?=some x)(hx:Loc X.env.scope x)(r:RelV v u)
  (h:∀ s',Inv X pins (σ.set i (some v)) H s'->Q () s') (hf:X.fn x=true\/X.env.scope.names.lookup x=some .local:=by first | exact .inl rfl | exact .inr rfl | assumption):Nl M A (Ub X.env x u) Q E s:=
 nY I hN hi hx r (fun s' I' _=>h s' I') hf
theorem Inv.Cw {s':Ni}{ch:List Nh}(I:Inv X pins σ H s)(ho:s'.os=s.os)(u:Un (frs X.stack) ch H H' s.heap s'.heap)(hok:HOk X.prog X.w H' s'.heap)(hg:Qn s'.gens)
  (hch:∀ b∈ch,(b∈X.ex\/X.s₀.heap.objs.size<=b)/\b≠X.env.locals/\(∀ x c,X.env.cells.lookup x=some c->c≠b)/\∀ p∈X.pn++pins,p.1≠b):Inv X pins σ H' s':=by
 obtain⟨h',g',d',t',o'⟩:=s'
 have e:o'=s.os:=ho
 subst e
 exact I.call (g':=g') (t':=t') (d':=d') u hok hg hch
end
abbrev XK:=Nf->Option Nh->Hp->Prop
abbrev St:=List (Option V)
abbrev VK:=V->Hp->Prop
abbrev TE:=St->Hp->VK->Prop
abbrev TT:=St->Hp->(Bool->Hp->Prop)->Prop
abbrev TA:=St->Hp->(List V->Hp->Prop)->Prop
structure Ends where
 nx:St->Hp->Prop
 rt:VK
 bk:St->Hp->Prop:=fun _ _=>False
 ct:St->Hp->Prop:=fun _ _=>False
abbrev TS:=Ends->St->Hp->Prop
def EP(X:Cx)(pins:List (Nh × Obj))(σ:St)(Q:VK)(u:Nf)(s':Ni):Prop:=∃ v H',Inv X pins σ H' s'/\RelV v u/\Q v H'
def TP(X:Cx)(pins:List (Nh × Obj))(σ:St)(Q:Bool->Hp->Prop)(b:Bool)(s':Ni):Prop:=∃ H',Inv X pins σ H' s'/\Q b H'
noncomputable def AP(X:Cx)(pins:List (Nh × Obj))(σ:St)(Q:List V->Hp->Prop)(us:List Nf)(s':Ni):Prop:=∃ vs H',Inv X pins σ H' s'/\Vals vs us/\Q vs H'
noncomputable def SP(X:Cx)(pins:List (Nh × Obj))(D:Ends)(f:Flow)(s':Ni):Prop:=
 match f with
 | .next=>∃ σ' H',Inv X pins σ' H' s'/\D.nx σ' H'
 | .brk=>∃ σ' H',Inv X pins σ' H' s'/\D.bk σ' H'
 | .cont=>∃ σ' H',Inv X pins σ' H' s'/\D.ct σ' H'
 | .ret u=>∃ v σ' H',Inv X pins σ' H' s'/\RelV v u/\D.rt v H'
noncomputable def PE(X:Cx)(e:Nz)(t:TE):Prop:=
 ∀(pins:List (Nh × Obj)) (s:Ni) (σ:St) (H:Hp) (Q:VK),Inv X pins σ H s->t σ H Q->Nl (Nq X.prog X.w) X.A (NS e X.env) (EP X pins σ Q) X.xe s
noncomputable def PT(X:Cx)(e:Nz)(t:TT):Prop:=
 ∀(pins:List (Nh × Obj)) (s:Ni) (σ:St) (H:Hp) (Q:Bool->Hp->Prop),Inv X pins σ H s->t σ H Q->Nl (Nq X.prog X.w) X.A (RD e X.env (NS e X.env)) (TP X pins σ Q) X.xe s
noncomputable def PW(X:Cx)(e:Nz)(t:TT):Prop:=
 ∀(whole:Sem Nf) (pins:List (Nh × Obj)) (s:Ni) (σ:St) (H:Hp) (Q:Bool->Hp->Prop),Inv X pins σ H s->t σ H Q->Nl (Nq X.prog X.w) X.A (RD e X.env whole) (TP X pins σ Q) X.xe s
theorem PW.pt {X:Cx}{e:Nz}{t:TT}(h:PW X e t):PT X e t:=h _
noncomputable def PA(X:Cx)(es:List Nz)(t:TA):Prop:=
 ∀(pos:Pos) (pins:List (Nh × Obj)) (s:Ni) (σ:St) (H:Hp) (Q:List V->Hp->Prop),Inv X pins σ H s->t σ H Q->Nl (Nq X.prog X.w) X.A (spliced (Pt pos (NF es X.env))) (AP X pins σ Q) X.xe s
noncomputable def PS(X:Cx)(st:NZ)(t:TS):Prop:=
 ∀(pins:List (Nh × Obj)) (s:Ni) (σ:St) (H:Hp) (D:Ends),Inv X pins σ H s->t D σ H->Nl (Nq X.prog X.w) X.A (exec st X.env) (SP X pins D) X.xe s
noncomputable def PSs(X:Cx)(st:List NZ)(t:TS):Prop:=
 ∀(pins:List (Nh × Obj)) (s:Ni) (σ:St) (H:Hp) (D:Ends),Inv X pins σ H s->t D σ H->Nl (Nq X.prog X.w) X.A (execs st X.env) (SP X pins D) X.xe s
theorem thn{α:Type}{t:Sem α}{Q Q':α->Ni->Prop}{M:Po}{A:NH}{E:Nf->Ni->Prop}{s:Ni}(h:Nl M A t Q E s)(hQ:∀ a s,Q a s->Q' a s):Nl M A t Q' E s:=NN h hQ fun _ _ x=>x
section
variable{X:Cx}
def EJ(i:Nat):TE:=fun σ H Q=>∃ v,σ[i]?=some (some v)/\Q v H
def tC(v:V):TE:=fun _ H Q=>Q v H
theorem gf{i:Nat}{x:Str}{pos:Pos}(hN:X.N[i]?=some x)(hv:Vis X.env.scope x)(hd:(x ==("__debug__":Str))=false:=by decide)(hcd:(x ==("__classdict__":Str))=false:=by decide):PE X (.Name x pos) (EJ i):=by
 intro pins s σ H Q I h
 obtain⟨v,e,h⟩:=h
 obtain⟨m,hn,hl⟩:=I.loc
 obtain⟨u,r,l⟩:=hl i x v hN e hv
 have fin:EP X pins σ Q u s:=⟨v,H,I,r,h⟩
 rcases l with⟨hk,hm⟩ | ⟨hk,c,hc,hcell⟩
 ·exact To (RT I.ok.kind hk hn hm fin) hd
 rcases hk with hk | hk
 ·exact To (R' I.ok.kind hk hc hcell fin) hd
 exact To (wpAny_loadName_free I.ok.kind hk hc hcell fin hcd) hd
theorem bu{i j pos}:PE X (.Constant (.int i) j pos) (tC (.int i)):=fun _ _ _ H _ I h=>Sg ⟨.int i,H,I.tok _,⟨_,rfl⟩,h⟩
theorem yq{b j pos}:PE X (.Constant (.bool b) j pos) (tC (.bl b)):=fun _ _ _ H _ I h=>Constant_bool ⟨.bl b,H,I,rfl,h⟩
theorem F4{j pos}:PE X (.Constant .none j pos) (tC .non):=fun _ _ _ H _ I h=>Ui ⟨.non,H,I,rfl,h⟩
theorem gx{x j pos}:PE X (.Constant (.str x) j pos) (tC (.str x)):=fun _ _ _ H _ I h=>Calls.Constant_str ⟨.str x,H,I.tok _,⟨_,rfl⟩,h⟩
def Gl(X:Cx)(x:Str):Prop:=X.env.kindOf x=some .globalImplicit
theorem AS{E:Nf->Ni->Prop}{pins:List (Nh × Obj)}{s:Ni}{σ:St}{H:Hp}{x:Str}{u:Nf}{pos:Pos}{Q:Nf->Ni->Prop}(I:Inv X pins σ H s)(hg:Gl X x)(hm:X.mg x=some u)(h:Q u s)
  (hd:(x ==("__debug__":Str))=false:=by decide):Nl (Nq X.prog X.w) X.A (NS (.Name x pos) X.env) Q E s:=
 QM I.ok.kind hg (Calls.loadGlobal_global (by rw[I.ok.glob];exact I.mod.glob.keeps I.bk) hm h) hd
theorem cp{E:Nf->Ni->Prop}{pins:List (Nh × Obj)}{s:Ni}{σ:St}{H:Hp}{x:Str}{u:Nf}{pos:Pos}{Q:Nf->Ni->Prop}(I:Inv X pins σ H s)(hg:Gl X x)(hm:X.mg x=none)(hv:O5 x=some u)(h:Q u s)
  (hn:x≠"__name__":=by decide) (hd:(x ==("__debug__":Str))=false:=by decide):Nl (Nq X.prog X.w) X.A (NS (.Name x pos) X.env) Q E s:=by
 obtain⟨mb,h1,h2⟩:=I.mod.blt
 exact QM I.ok.kind hg (Calls.loadGlobal_builtin (by rw[I.ok.glob];exact I.mod.glob.keeps I.bk) hm (by rw[I.ok.blt];exact h1.keeps I.bk) ((h2 x hn).trans hv) h) hd
theorem bR{x:Str}{v:V}{u:Nf}{pos:Pos}(hg:Gl X x)(hm:X.mg x=none)(hv:O5 x=some u)(r:RelV v u)(hn:x≠"__name__":=by decide)(hd:(x ==("__debug__":Str))=false:=by decide):PE X (.Name x pos) (tC v):=
 fun _ _ _ H _ I h=>cp I hg hm hv ⟨v,H,I,r,h⟩ hn hd
variable{a b:Nz}{ta tb:TE}{pos:Pos}
noncomputable def PC(X:Cx)(op:Ri)(a b:Nz)(t:TE):Prop:=
 ∀(pins:List (Nh × Obj)) (s:Ni) (σ:St) (H:Hp) (Q:VK),Inv X pins σ H s->t σ H Q->
  Nl (Nq X.prog X.w) X.A (NS a X.env) (fun v s₁=>Nl (Nq X.prog X.w) X.A (NS b X.env) (fun u s₂=>Nl (Nq X.prog X.w) X.A (NO op v u) (EP X pins σ Q) X.xe s₂) X.xe s₁) X.xe s
theorem qG(b:Nz){op:Ri}(h:op≠.In)(h2:op≠.NotIn):OF op b=false:=by
 have e1:(op == V2)=false:=by cases op <;> first | rfl | exact absurd rfl h
 have e2:(op == Vk)=false:=by cases op <;> first | rfl | exact absurd rfl h2
 cases b <;> simp[OF,e1,e2]
def Iw(ta:TE):TE:=fun σ H Q=>ta σ H fun x H1=>Q (.bl (decide (x=.non))) H1
theorem RelV.xY {x:V}{v:Nf}(r:RelV x v):(v == NR)=decide (x=.non):=by
 cases x with
 | non=>cases r;rfl
 | bl _=>cases r;rfl
 | int _=>obtain⟨t,rfl⟩:=r;rfl
 | str _=>obtain⟨t,rfl⟩:=r;rfl
 | byt _=>obtain⟨t,rfl⟩:=r;rfl
 | flt _=>obtain⟨t,rfl⟩:=r;rfl
 | ref _=>cases r;rfl
 | ty _=>cases r;rfl
theorem yS{j pos'}(ha:PE X a ta):PC X .Is a (.Constant .none j pos') (Iw ta):=by
 intro pins s σ H Q I h
 refine thn (ha pins s σ H _ I h) ?_
 rintro v s1 ⟨x,H1,I1,r1,q1⟩
 exact Ui (is_none_gen ⟨.bl _,H1,I1,by rw[r1.xY];rfl,q1⟩)
def tB(t:TE):TT:=fun σ H Q=>t σ H fun x H1=>∃ c,x=.bl c/\Q c H1
theorem Fx{op:Ri}{t:TE}(h:PC X op a b t)(h1:OF op b=false:=by first | exact qG _ (by decide) (by decide) | rfl):PE X (.Compare a [op] [b] pos) t:=fun pins s σ H Q I hw=>TV (h pins s σ H Q I hw) h1
theorem ET{op:Ri}{t:TE}(h:PC X op a b t)(h1:OF op b=false:=by first | exact qG _ (by decide) (by decide) | rfl):PT X (.Compare a [op] [b] pos) (tB t):=by
 intro pins s σ H Q I hw
 refine RE (thn (h pins s σ H _ I hw) fun v s1 h1=>thn h1 fun u s2 h2=>thn h2 fun c s3 ⟨x,H1,I1,r1,q1⟩=>?_) h1
 obtain⟨d,rfl,q⟩:=q1
 cases r1
 exact OA ⟨H1,I1,q⟩
theorem oH{e:Nz}{t:TE}(h:PE X e t)(he:∀ whole,RD e X.env whole=(do let v <-whole;SD e.pos;PN [v] (UQ v)):=by intro _;rfl):PT X e (tB t):=by
 intro pins s σ H Q I hw
 refine UR (thn (h pins s σ H _ I hw) fun v s1 ⟨x,H1,I1,r1,q1⟩=>?_) (he _)
 obtain⟨d,rfl,q⟩:=q1
 cases r1
 exact OA ⟨H1,I1,q⟩
variable{tA tB':TT}{rest:List Nz}
def Im(t u:TT):TT:=fun σ H Q=>t σ H fun c H1=>if c=true then u σ H1 Q else Q false H1
def tOr(t u:TT):TT:=fun σ H Q=>t σ H fun c H1=>if c=true then Q true H1 else u σ H1 Q
def IE(t:TT):TT:=fun σ H Q=>t σ H fun c H1=>Q (!c) H1
theorem Bu(ha:PT X a tA):PW X (.BoolOp .And [a] pos) tA:=by
 intro wh pins s σ H Q I h
 refine isTrue_and (thn (ha pins s σ H Q I h) fun c s1 e=>?_)
 cases c with
 | true=>exact isTrue_and_nil e
 | false=>exact e
theorem xA(ha:PT X a tA):PW X (.BoolOp .Or [a] pos) tA:=by
 intro wh pins s σ H Q I h
 refine isTrue_or (thn (ha pins s σ H Q I h) fun c s1 e=>?_)
 cases c with
 | false=>exact isTrue_or_nil e
 | true=>exact e
theorem F1(ha:PT X a tA)(hb:PW X (.BoolOp .And (b::rest) pos) tB'):PW X (.BoolOp .And (a::b::rest) pos) (Im tA tB'):=by
 intro wh pins s σ H Q I h
 refine isTrue_and (thn (ha pins s σ H _ I h) ?_)
 rintro c s1 ⟨H1,I1,q1⟩
 cases c with
 | true=>exact hb wh pins s1 σ H1 Q I1 q1
 | false=>exact⟨H1,I1,q1⟩
theorem CT(ha:PT X a tA)(hb:PW X (.BoolOp .Or (b::rest) pos) tB'):PW X (.BoolOp .Or (a::b::rest) pos) (tOr tA tB'):=by
 intro wh pins s σ H Q I h
 refine isTrue_or (thn (ha pins s σ H _ I h) ?_)
 rintro c s1 ⟨H1,I1,q1⟩
 cases c with
 | true=>exact⟨H1,I1,q1⟩
 | false=>exact hb wh pins s1 σ H1 Q I1 q1
theorem FI(ha:PT X a tA):PT X (.UnaryOp .Not a pos) (IE tA):=by
 intro pins s σ H Q I h
 exact isTrue_not (ha pins s σ H (fun c H1=>Q (!c) H1) I h)
def Hd(ta tb:TE):TE:=fun σ H Q=>ta σ H fun x H1=>∃ c,x=.bl c/\if c=true then tb σ H1 Q else Q (.bl false) H1
def GD(ta:TE):TE:=fun σ H Q=>ta σ H fun x H1=>∃ c,x=.bl c/\Q (.bl (!c)) H1
theorem tu{op}{t:TE}(h:PE X a t):PE X (.BoolOp op [a] pos) t:=fun pins s σ H Q I hw=>BoolOp_one (h pins s σ H Q I hw)
theorem oq(ha:PE X a ta)(hb:PE X (.BoolOp .And (b::rest) pos) tb):PE X (.BoolOp .And (a::b::rest) pos) (Hd ta tb):=by
 intro pins s σ H Q I h
 refine BoolOp_and (thn (ha pins s σ H _ I h) ?_)
 rintro v s1 ⟨x,H1,I1,r1,q1⟩
 obtain⟨c,rfl,q1⟩:=q1
 cases r1
 refine OA ?_
 cases c with
 | true=>exact hb pins s1 σ H1 Q I1 q1
 | false=>exact⟨.bl false,H1,I1,rfl,q1⟩
theorem E4(ha:PE X a ta):PE X (.UnaryOp .Not a pos) (GD ta):=by
 intro pins s σ H Q I h
 refine UnaryOp_ (thn (ha pins s σ H _ I h) ?_)
 rintro v s1 ⟨x,H1,I1,r1,q1⟩
 obtain⟨c,rfl,q1⟩:=q1
 cases r1
 exact not_of (OA ⟨.bl (!c),H1,I1,rfl,q1⟩)
def tIf(t:TT)(ta tb:TE):TE:=fun σ H Q=>t σ H fun c H1=>if c=true then ta σ H1 Q else tb σ H1 Q
theorem xZ{c:Nz}(hc:PT X c tA)(ha:PE X a ta)(hb:PE X b tb):PE X (.IfExp c a b pos) (tIf tA ta tb):=by
 intro pins s σ H Q I h
 refine wpAny_IfExp (thn (hc pins s σ H _ I h) ?_)
 rintro d s1 ⟨H1,I1,q1⟩
 cases d with
 | true=>exact ha pins s1 σ H1 Q I1 q1
 | false=>exact hb pins s1 σ H1 Q I1 q1
end
noncomputable def SqL(K:Ng)(H:Hp)(a:Nh)(xs:List V):Prop:=
 Rd H a (.lst xs)\/
  ∃(o:Obj) (its:Array Nf) (n:Nat),K.lookup a=some o/\o.cls=.type "list"/\o.dict=none/\o.data=.seq its n/\its.size<=sizeLine/\Vals xs its.toList
noncomputable def SqT(K:Ng)(H:Hp)(a:Nh)(xs:List V):Prop:=
 Rd H a (.tup xs)\/
  ∃(o:Obj) (its:Array Nf) (n:Nat),K.lookup a=some o/\o.cls=.type "tuple"/\o.data=.seq its n/\its.size<=sizeLine/\Vals xs its.toList
noncomputable def IL:Nf->Option V
 | .none=>some .non
 | .bool b=>some (.bl b)
 | .int i _=>some (.int i)
 | .str x _=>some (.str x)
 | .bytes b _=>some (.byt b)
 | .float b _=>some (.flt b)
 | .ref a=>some (.ref a)
 | .type n=>some (.ty n)
 | _=>none
theorem RelV.abs {x:V}{u:Nf}(r:RelV x u):IL u=some x:=by
 cases x with
 | non=>cases r;rfl
 | bl _=>cases r;rfl
 | int _=>obtain⟨t,rfl⟩:=r;rfl
 | str _=>obtain⟨t,rfl⟩:=r;rfl
 | byt _=>obtain⟨t,rfl⟩:=r;rfl
 | flt _=>obtain⟨t,rfl⟩:=r;rfl
 | ref _=>cases r;rfl
 | ty _=>cases r;rfl
theorem RelV.inj {x y:V}{u:Nf}(r:RelV x u)(q:RelV y u):x=y:=D_ (r.abs.symm.trans q.abs)
theorem Vals.inj:∀ {xs ys:List V} {us:List Nf},Vals xs us->Vals ys us->xs=ys
 | _,_,_,.nil,.nil=>rfl
 | _,_,_,.cons r t,.cons r' t'=>by rw[r.inj r',Vals.inj t t']
section
variable{X:Cx}{pins:List (Nh × Obj)}{σ:St}{H:Hp}{s:Ni}{a:Nh}{xs ys:List V}
theorem SqL.of {K:Ng}(h:H a=some (.lst xs)):SqL K H a xs:=.inl (.inl h)
theorem SqT.of {K:Ng}(h:H a=some (.tup xs)):SqT K H a xs:=.inl (.inl h)
theorem Inv.list (I:Inv X pins σ H s)(h:SqL X.K H a xs):∃ its:List Nf,Vals xs its/\PlainL s.heap a its.toArray/\xs.length<=sizeLine:=by
 rcases h with h | ⟨o,its,n,hk,hc,hd,hs,hz,r⟩
 ·obtain⟨z,its,n,r,e⟩:=h.ok I.hok
  exact⟨its,r,⟨_,n,e,rfl,rfl,rfl⟩,z⟩
 refine⟨its.toList,r,⟨o,n,I.kIn a o hk,hc,hd,by simpa using hs⟩,?_⟩
 have e:=r.length
 simp only[f']at e
 lia
theorem Inv.tuple (I:Inv X pins σ H s)(h:SqT X.K H a xs):∃ its:List Nf,Vals xs its/\Uz s.heap a its.toArray/\xs.length<=sizeLine:=by
 rcases h with h | ⟨o,its,n,hk,hc,hs,hz,r⟩
 ·obtain⟨z,its,r,p⟩:=h.ok I.hok
  exact⟨its,r,p,z⟩
 refine⟨its.toList,r,⟨o,I.kIn a o hk,hc,n,by simpa using hs⟩,?_⟩
 have e:=r.length
 simp only[f']at e
 lia
theorem Inv.ml (I:Inv X pins σ H s)(h:SqL X.K H a xs)(h':SqL X.K H a ys):xs=ys:=by
 obtain⟨its,r,⟨o,n,e,_,_,d⟩,_⟩:=I.list h
 obtain⟨its',r',⟨o',n',e',_,_,d'⟩,_⟩:=I.list h'
 rw[e]at e';cases e'
 rw[d]at d'
 injection d' with d1 _
 have:its=its':=by simpa using congrArg MZ d1
 subst this
 exact r.inj r'
theorem Inv.ff (I:Inv X pins σ H s)(h:SqT X.K H a xs)(h':SqT X.K H a ys):xs=ys:=by
 obtain⟨its,r,⟨o,e,_,n,d⟩,_⟩:=I.tuple h
 obtain⟨its',r',⟨o',e',_,n',d'⟩,_⟩:=I.tuple h'
 rw[e]at e';cases e'
 rw[d]at d'
 injection d' with d1 _
 have:its=its':=by simpa using congrArg MZ d1
 subst this
 exact r.inj r'
end
abbrev Cx.mR (X:Cx)(E:Nf->Ni->Prop):Cx:={ X with xe:=E }
abbrev Cx.nox (X:Cx):Cx:=X.mR fun _ _=>False
theorem Cx.Ok.mR {X:Cx}(ok:X.Ok)(E:Nf->Ni->Prop):(X.mR E).Ok:=
 ⟨ok.mod,ok.kind,ok.glob,ok.blt,ok.above,ok.inj,ok.has,ok.cab,ok.hd,ok.frames,ok.stk,ok.exf,ok.bs,ok.bsz,ok.noex,ok.exfs,ok.lM,ok.frf⟩
theorem Cx.Ok.dN {X:Cx}{E:Nf->Ni->Prop}(ok:(X.mR E).Ok):X.Ok:=
 ⟨ok.mod,ok.kind,ok.glob,ok.blt,ok.above,ok.inj,ok.has,ok.cab,ok.hd,ok.frames,ok.stk,ok.exf,ok.bs,ok.bsz,ok.noex,ok.exfs,ok.lM,ok.frf⟩
section
variable{X:Cx}{pins:List (Nh × Obj)}{σ:St}{H:Hp}{s:Ni}{E:Nf->Ni->Prop}
theorem Inv.mR (I:Inv X pins σ H s)(E:Nf->Ni->Prop):Inv (X.mR E) pins σ H s:=⟨I.ok.mR E,I.os,I.bare,I.base,I.loc,I.cell,I.free,I.freeC,I.pin,I.hok,I.len⟩
theorem Inv.dN (I:Inv (X.mR E) pins σ H s):Inv X pins σ H s:=⟨I.ok.dN,I.os,I.bare,I.base,I.loc,I.cell,I.free,I.freeC,I.pin,I.hok,I.len⟩
theorem SP.dN {D:Ends}{f:Flow}{s':Ni}(h:SP (X.mR E) pins D f s'):SP X pins D f s':=by
 cases f with
 | next=>obtain⟨σ',H',I,q⟩:=h;exact⟨σ',H',I.dN,q⟩
 | brk=>obtain⟨σ',H',I,q⟩:=h;exact⟨σ',H',I.dN,q⟩
 | cont=>obtain⟨σ',H',I,q⟩:=h;exact⟨σ',H',I.dN,q⟩
 | ret u=>obtain⟨v,σ',H',I,r,q⟩:=h;exact⟨v,σ',H',I.dN,r,q⟩
theorem PSs.nox {st:List NZ}{t:TS}(h:PSs X.nox st t):PSs X st t:=fun pins s σ H D I hw=>
 NN (h pins s σ H D (I.mR _) hw) (fun _ _ q=>q.dN) fun _ _ z=>NC z
end
section
variable{X:Cx}{st:NZ}{rest:List NZ}{t u:TS}{e:Nz}{te:TE}{pos:Pos}
def Hl:TS:=fun D σ H=>D.nx σ H
def IC(t u:TS):TS:=fun D σ H=>t { D with nx:=u D } σ H
theorem cy:PSs X [] Hl:=fun _ _ σ H _ I h=>Qo ⟨σ,H,I,h⟩
theorem aM(h1:PS X st t)(h2:PSs X rest u):PSs X (st::rest) (IC t u):=by
 intro pins s σ H D I h
 refine S8 (thn (h1 pins s σ H { D with nx:=u D } I h) fun f s1 q=>?_)
 cases f with
 | next=>
  obtain⟨σ',H',I',q⟩:=q
  exact h2 pins s1 σ' H' D I' q
 | ret v=>exact q
 | brk=>exact q
 | cont=>exact q
theorem bS(h1:PS X st t):PSs X [st] t:=by
 intro pins s σ H D I h
 refine S8 (thn (h1 pins s σ H D I h) fun f s1 q=>?_)
 cases f with
 | next=>exact Qo q
 | ret v=>exact q
 | brk=>exact q
 | cont=>exact q
theorem Inv.quiet {pins:List (Nh × Obj)}{σ:St}{H:Hp}{s:Ni}(I:Inv X pins σ H s):Vl X.env=false:=by simp[Vl,I.ok.kind]
def Gb(te:TE):TS:=fun D σ H=>te σ H fun _ H1=>D.nx σ H1
theorem B8(he:PE X e te)(hs:P0 e none pos.line X.env=pure false:=by rfl):PS X (.Expr e pos) (Gb te):=by
 intro pins s σ H D I h
 exact wpAny_Expr_any (thn (he pins s σ H _ I h) fun v s1 ⟨x,H1,I1,r1,q1⟩=>⟨σ,H1,I1,q1⟩) I.quiet hs
def Iz(te:TE):TS:=fun D σ H=>te σ H D.rt
theorem cQ(he:PE X e te):PS X (.Return (some e) pos) (Iz te):=by
 intro pins s σ H D I h
 exact wpAny_Return_some (thn (he pins s σ H _ I h) fun v s1 ⟨x,H1,I1,r1,q1⟩=>⟨x,σ,H1,I1,r1,q1⟩)
def IU(c:TT)(t u:TS):TS:=fun D σ H=>c σ H fun b H1=>if b=true then t D σ H1 else u D σ H1
theorem iA{c:Nz}{a b:List NZ}{tc:TT}(hc:PT X c tc)(ha:PSs X a t)(hb:PSs X b u):PS X (.If c a b pos) (IU tc t u):=by
 intro pins s σ H D I h
 refine wpAny_If (thn (hc pins s σ H _ I h) ?_)
 rintro d s1 ⟨H1,I1,q1⟩
 cases d with
 | true=>exact ha pins s1 σ H1 D I1 q1
 | false=>exact hb pins s1 σ H1 D I1 q1
def ED:TS:=fun _ _ _=>False
theorem wx{sts:List NZ}:PSs X sts ED:=fun _ _ _ _ _ _ h=>h.elim
end
abbrev TG:=V->St->Hp->(St->Hp->Prop)->Prop
abbrev TGs:=List V->St->Hp->(St->Hp->Prop)->Prop
noncomputable def PG(X:Cx)(target:Nz)(t:TG):Prop:=
 ∀(pins:List (Nh × Obj)) (s:Ni) (σ:St) (H:Hp) (v:V) (u:Nf) (Q:St->Hp->Prop),Inv X pins σ H s->RelV v u->t v σ H Q->
  Nl (Nq X.prog X.w) X.A (Qi target X.env u) (fun _ s'=>∃ σ' H',Inv X pins σ' H' s'/\Q σ' H') X.xe s
noncomputable def PGs(X:Cx)(ts:List Nz)(t:TGs):Prop:=
 ∀(pins:List (Nh × Obj)) (s:Ni) (σ:St) (H:Hp) (vs:List V) (us:List Nf) (Q:St->Hp->Prop),Inv X pins σ H s->Vals vs us->t vs σ H Q->
  Nl (Nq X.prog X.w) X.A (R7 ((OP ts X.env).map (·.2)) us) (fun _ s'=>∃ σ' H',Inv X pins σ' H' s'/\Q σ' H') X.xe s
abbrev Bh:=V->V->V->Hp->(Hp->Prop)->Prop
noncomputable def sZ(X:Cx)(t:Bh):Prop:=
 ∀(pins:List (Nh × Obj)) (s:Ni) (σ:St) (H:Hp) (o i v:V) (ov iv u:Nf) (Q:Hp->Prop),Inv X pins σ H s->RelV o ov->RelV i iv->RelV v u->t o i v H Q->
  Nl (Nq X.prog X.w) X.A (TY ov iv u) (fun _ s'=>∃ H',Inv X pins σ H' s'/\Q H') X.xe s
abbrev TIp:=V->V->Hp->VK->Prop
noncomputable def PIp(X:Cx)(op:Q2)(t:TIp):Prop:=
 ∀(pins:List (Nh × Obj)) (s:Ni) (σ:St) (H:Hp) (x y:V) (v u:Nf) (Q:VK),Inv X pins σ H s->RelV x v->RelV y u->t x y H Q->
  Nl (Nq X.prog X.w) X.A (inplaceOp op v u) (EP X pins σ Q) X.xe s
section
variable{X:Cx}{pos:Pos}
def uW(i:Nat):TG:=fun v σ H Q=>Q (σ.set i (some v)) H
theorem kN{i:Nat}{x:Str}(hN:X.N.Nodup)(hi:X.N[i]?=some x)(hx:Loc X.env.scope x)(hf:X.fn x=true\/X.env.scope.names.lookup x=some .local:=by first | exact .inl rfl | exact .inr rfl | assumption):PG X (.Name x pos) (uW i):=by
 intro pins s σ H v u Q I r h
 exact SJ (eM I hN hi hx r (fun s' I'=>⟨_,H,I',h⟩) hf)
def IY:TGs:=fun vs σ H Q=>vs=[]/\Q σ H
def Ij(t:TG)(u:TGs):TGs:=fun vs σ H Q=>∃ v r,vs=v::r/\t v σ H fun σ' H'=>u r σ' H' Q
theorem pK:PGs X [] IY:=by
 intro pins s σ H vs us Q I r h
 obtain⟨e,h⟩:=h
 subst e
 cases r
 exact SK ⟨σ,H,I,h⟩
theorem dZ{e:Nz}{es:List Nz}{t:TG}{u:TGs}(h1:PG X e t)(h2:PGs X es u)
  (hs:(OP (e::es) X.env).map (·.2)=Qi e X.env::(OP es X.env).map (·.2):=by rfl):PGs X (e::es) (Ij t u):=by
 intro pins s σ H vs us Q I r h
 obtain⟨v,vr,e1,h⟩:=h
 subst e1
 cases r with
 | cons r rr=>
  rw[hs]
  refine QG (thn (h1 pins s σ H _ _ _ I r h) ?_)
  rintro _ s1 ⟨σ1,H1,I1,q1⟩
  exact h2 pins s1 σ1 H1 _ _ Q I1 rr q1
def IT(K:Ng)(n:Nat)(t:TGs):TG:=fun v σ H Q=>∃ a xs,v=.ref a/\SqT K H a xs/\xs.length=n/\t xs σ H Q
theorem ux{es:List Nz}{k:Nat}{t:TGs}{n:Nat}(hc:X.calm=true)(h:PGs X es t)
  (hn:(OP es X.env).length=n:=by rfl) (hst:(OP es X.env).findIdx? (·.1)=none:=by rfl):PG X (.Tuple es k pos) (IT X.K n t):=by
 intro pins s σ H v u Q I r hw
 obtain⟨a,xs,e1,hq,hl,hw⟩:=hw
 subst e1
 cases r
 obtain⟨its,rv,ht,hz⟩:=I.tuple hq
 refine assign_Tuple_tuple (I.ok.hd hc) ht (by simp[hn,<-hl,rv.length]) hst fun h' hx=>?_
 have I1:Inv X pins σ H { s with heap:=h' }:=I.kept (t':=s.toks) fun b o e=>hx b o (r_ (Nt e)) e
 exact h pins _ σ H xs _ Q I1 (by simpa using rv) hw
def ID(to ti:TE)(t:Bh):TG:=fun v σ H Q=>to σ H fun o H1=>ti σ H1 fun i H2=>t o i v H2 fun H3=>Q σ H3
theorem yR{o i:Nz}{to ti:TE}{t:Bh}(ho:PE X o to)(hi:PE X i ti)(hs:sZ X t)
  (ha:∀ v,Qi (.Subscript o i pos) X.env v=(do
   let ov <-PN [v] (NS o X.env)
   let iv <-PN [v,ov] (NS i X.env)
   SD pos
   PN [v,ov,iv] (TY ov iv v)
   release [v,ov,iv] []):=by intro _;rfl):PG X (.Subscript o i pos) (ID to ti t):=by
 intro pins s σ H v u Q I r h
 rw[ha]
 refine Nd (NJ (thn (ho pins s σ H _ I h) ?_))
 rintro ov s1 ⟨x,H1,I1,r1,q1⟩
 refine Nd (NJ (thn (hi pins s1 σ H1 _ I1 q1) ?_))
 rintro iv s2 ⟨y,H2,I2,r2,q2⟩
 refine Nd (PD (Nd (NJ (thn (hs pins s2 σ H2 x y v ov iv u _ I2 r1 r2 r q2) ?_))))
 rintro _ s3 ⟨H3,I3,q3⟩
 exact wpAny_release ⟨σ,H3,I3,q3⟩
def C4(te:TE)(g:TG):TS:=fun D σ H=>te σ H fun x H1=>g x σ H1 D.nx
theorem xQ{tg e:Nz}{te:TE}{g:TG}(he:PE X e te)(hg:PG X tg g)(hs:QN [tg] e pos.line X.env=pure false:=by rfl)(hw:QO [tg] e X.env=pure none:=by rfl)
  (h1:(OP [tg] X.env).map (·.2)=[Qi tg X.env]:=by rfl):PS X (.Assign [tg] e pos) (C4 te g):=by
 intro pins s σ H D I h
 refine wpAny_Assign_stores (thn (he pins s σ H _ I h) fun v s1 ⟨x,H1,I1,r1,q1⟩=>?_) hs hw
 rw[h1]
 exact thn (hg pins s1 σ H1 x v _ I1 r1 q1) fun _ s2 q=>q
theorem dR{i:Nat}{x:Str}{e:Nz}{te:TE}{pos':Pos}(hN:X.N.Nodup)(hi:X.N[i]?=some x)(hx:Loc X.env.scope x)(he:PE X e te)(hs:P0 e (some (.Name x pos')) pos.line X.env=pure false:=by rfl)(hf:X.fn x=true\/X.env.scope.names.lookup x=some .local:=by first | exact .inl rfl | exact .inr rfl | assumption) :
  PS X (.Assign [.Name x pos'] e pos) (C4 te (uW i)):=by
 intro pins s σ H D I h
 refine wpAny_Assign_Name (thn (he pins s σ H _ I h) fun v s1 ⟨y,H1,I1,r1,q1⟩=>?_) hs
 exact eM I1 hN hi hx r1 (fun s2 I2=>⟨_,H1,I2,q1⟩) hf
def IV(i j:Nat)(ta:TA):TS:=fun D σ H=>ta σ H fun vs H1=>∃ v w,vs=[v,w]/\D.nx ((σ.set i (some v)).set j (some w)) H1
theorem Ex{i j:Nat}{x y:Str}{a b:Nz}{ta:TA}{px py pt:Pos}{kt k2 pt2}(hc:X.calm=true)(hN:X.N.Nodup)(hi:X.N[i]?=some x)(hj:X.N[j]?=some y)(hij:i≠j)
  (hx:X.env.scope.names.lookup x=some .local) (hy:X.env.scope.names.lookup y=some .local) (ha:PA X [a,b] ta)
  (hw:QO [.Tuple [.Name x px,.Name y py] kt pt] (.Tuple [a,b] k2 pt2) X.env=pure (some [x,y]))
  (hs:QN [.Tuple [.Name x px,.Name y py] kt pt] (.Tuple [a,b] k2 pt2) pos.line X.env=pure false:=by rfl) :
  PS X (.Assign [.Tuple [.Name x px,.Name y py] kt pt] (.Tuple [a,b] k2 pt2) pos) (IV i j ta):=by
 intro pins s σ H D I h
 rw[exec_Assign_arm]
 refine Nd (PD ?_)
 rw[hs]
 refine Nd (Nj ?_)
 rw[if_neg (by decide)]
 refine Nd (Tuple_ (thn (ha _ pins s σ H _ I h) ?_))
 rintro us s1 ⟨vs,H1,I1,r1,q1⟩
 obtain⟨v,w,e1,q1⟩:=q1
 subst e1
 obtain⟨u1,u2,rfl,rv,rw'⟩:∃ u1 u2,us=[u1,u2]/\RelV v u1/\RelV w u2:=by
  cases r1 with
  | cons p q=>
   cases q with
   | cons p' q'=>
    cases q'
    exact⟨_,_,rfl,p,p'⟩
 refine NI ?_ (by show 2<=sizeLine;decide)
 have I2:Inv X pins σ H1 { s1 with heap:=s1.heap.push { cls:=.type "tuple",data:=.seq [u1,u2].toArray } }:=I1.kept (t':=s1.toks) fun b o e=>Nk _ e
 rw[hw]
 refine Nd (Nj ?_)
 show Nl (Nq X.prog X.w) X.A (do rule "assign.swapped-stores";let items <-unpackItems (.ref s1.heap.objs.size) 2 none;R7 [fun v=>S9 X.env y v,fun v=>S9 X.env x v] items.reverse;pure VN) _ _ _
 refine Nd (OZ (Nd (unpackItems_tuple (items:=#[u1,u2]) (I.ok.hd hc) (Sh s1.heap _) fun h' hx'=>?_)))
 have I3:=I2.kept (h':=h') (t':=s1.toks) fun b o e=>hx' b o (r_ (Nt e)) e
 show Nl _ _ (R7 [fun v=>S9 X.env y v,fun v=>S9 X.env x v] [u2,u1] >>= fun _=>pure VN) _ _ _
 refine Nd (QG (TZ (eM I3 hN hj (.inl hy) rw' (fun s2 I4=>?_) (.inr hy))))
 refine QG (TZ (eM I4 hN hi (.inl hx) rv (fun s3 I5=>SK (Nj ?_)) (.inr hx)))
 rw[List.set_comm _ _ (Oq hij)]at I5
 exact⟨_,H1,I5,q1⟩
noncomputable def IM(i:Nat)(te:TE)(ti:TIp):TS:=fun D σ H=>∃ x,σ[i]?=some (some x)/\te σ H fun y H1=>ti x y H1 fun z H2=>D.nx (σ.set i (some z)) H2
theorem FX{i:Nat}{x:Str}{e:Nz}{te:TE}{op:Q2}{ti:TIp}{pos':Pos}(hN:X.N.Nodup)(hi:X.N[i]?=some x)(hx:Loc X.env.scope x)(he:PE X e te)(ho:PIp X op ti)(hf:X.fn x=true\/X.env.scope.names.lookup x=some .local:=by first | exact .inl rfl | exact .inr rfl | assumption) :
  PS X (.AugAssign (.Name x pos') op e pos) (IM i te ti):=by
 intro pins s σ H D I h
 obtain⟨v,e1,h⟩:=h
 obtain⟨m,hn,hl⟩:=I.loc
 have vis:Vis X.env.scope x:=by rcases hx with k | k;exact .inl k;exact .inr (.inl k)
 obtain⟨u,r,l⟩:=hl i x v hi e1 vis
 refine wpAny_AugAssign_Name ?_
 have go:Nl (Nq X.prog X.w) X.A (NS e X.env) (fun w s₂=>Nl (Nq X.prog X.w) X.A (inplaceOp op u w) (fun r s₃=>Nl (Nq X.prog X.w) X.A (Ub X.env x r) (fun _=>SP X pins D .next) X.xe s₃) X.xe s₂) X.xe s:=by
  refine thn (he pins s σ H _ I h) ?_
  rintro w s1 ⟨y,H1,I1,r1,q1⟩
  refine thn (ho pins s1 σ H1 v y u w _ I1 r r1 q1) ?_
  rintro z s2 ⟨zv,H2,I2,r2,q2⟩
  exact eM I2 hN hi hx r2 (fun s3 I3=>⟨_,H2,I3,q2⟩) hf
 rcases l with⟨hk,hm⟩ | ⟨hk,c,hc,hcell⟩
 ·exact RT I.ok.kind hk hn hm go
 rcases hk with hk | hk
 ·exact R' I.ok.kind hk hc hcell go
 rcases hx with k | k
 ·have:X.env.scope.names.lookup x=some .free:=hk
  rw[k]at this;cases this
 have:X.env.scope.names.lookup x=some .free:=hk
 rw[k]at this;cases this
def ipI(f:Int->Int->Int):TIp:=fun x y H Q=>∃ i j,x=.int i/\y=.int j/\Q (.int (f i j)) H
end
section
variable{X:Cx}{pos:Pos}
noncomputable def EY(c:TT)(tb:TS):TS:=fun D σ H=>∃ W:Nat->St->Hp->Prop,(∃ m,W m σ H)/\∀ m σ H,W m σ H->
 c σ H fun b H1=>if b=true then ∃ N:St->Hp->Prop,(∀ σ' H',N σ' H'->∃ m',m' < m/\W m' σ' H')/\tb { D with nx:=N,ct:=N,bk:=D.nx } σ H1 else D.nx σ H1
theorem xJ{c:Nz}{body:List NZ}{tc:TT}{tb:TS}(hp:Si (Nq X.prog X.w) X.A X.env X.xe)(hc:PT X c tc)(hb:PSs X body tb):PS X (.While c body [] pos) (EY tc tb):=by
 intro pins s σ H D I h
 obtain⟨W,⟨m0,w0⟩,turn⟩:=h
 refine wpAny_While (codeAny_whileLoop (fun n s'=>∃ σ' H',Inv X pins σ' H' s'/\W n σ' H') ?_ m0 ⟨σ,H,I,w0⟩)
 rintro n s1 ⟨σ1,H1,I1,w1⟩
 refine OW hp (thn (hc pins s1 σ1 H1 _ I1 (turn n σ1 H1 w1)) ?_)
 rintro b s2 ⟨H2,I2,q2⟩
 cases b with
 | true=>
  obtain⟨N,hN,q2⟩:=q2
  rw[if_pos rfl]
  refine OW hp (thn (hb pins s2 σ1 H2 _ I2 q2) fun f s3 q3=>?_)
  cases f with
  | next=>
   obtain⟨σ3,H3,I3,n3⟩:=q3
   obtain⟨m',hm,w3⟩:=hN σ3 H3 n3
   exact⟨m',hm,σ3,H3,I3,w3⟩
  | cont=>
   obtain⟨σ3,H3,I3,n3⟩:=q3
   obtain⟨m',hm,w3⟩:=hN σ3 H3 n3
   exact⟨m',hm,σ3,H3,I3,w3⟩
  | brk=>exact q3
  | ret v=>exact q3
 | false=>
  rw[if_neg B_]
  exact Qo ⟨σ1,H2,I2,q2⟩
end
structure It where
 go:Nat->Hp->Prop
 yld:Nat->Hp->V->Hp->Prop
 stop:Nat->Hp->Prop
noncomputable def iH(X:Cx)(pins:List (Nh × Obj))(H:Hp)(b:Nh):Prop:=
 H b=none/\b≠X.env.locals/\b ∉ X.fs/\(b∈X.ex\/X.s₀.heap.objs.size<=b)/\(∀ x c,X.env.cells.lookup x=some c->c≠b)/\∀ p∈X.pn++pins,p.1≠b
theorem Inv.tF {X:Cx}{pins:List (Nh × Obj)}{σ:St}{H H':Hp}{s:Ni}{b:Nh}(I:Inv X pins σ H s)(hb:s.heap.objs.size<=b)(hn:H' b=none):iH X pins H' b:=by
 refine⟨hn,J4 (x_ I.lt hb),I.IF hb,.inr (v_ I.sz hb),fun x c e z=>?_,fun p hp z=>?_⟩
 ·obtain⟨v,q⟩:=I.cell x c e
  exact absurd (x_ q.lt (by rw[z];exact hb)) (JZ _)
 exact absurd (x_ (Nt (I.pin p hp).1) (by rw[z];exact hb)) (JZ _)
structure Turn (P:Nv) (w:NA) (K:Ng) (tg:Nz) (J:It) (fp:List Nh) (it:Nh) (tn:Nat->NB->Prop):Prop where
 mem:it∈fp
 obj:∀ i h,tn i h->∀ b∈fp,∃ o,h.get? b=some o/\∀ v,o.data≠.cell v
 keep:∀ i h h',tn i h->(∀ b∈fp,∀ o,h.get? b=some o->h'.get? b=some o)->tn i h'
 item:∀(X:Cx),X.prog=P->X.w=w->X.K=K->X.calm=true->∀(i:Nat) (pins:List (Nh × Obj)) (s:Ni) (σ:St) (H:Hp) (E:Nf->Ni->Prop),Inv X pins σ H s->(∀ b∈fp,iH X pins H b)->tn i s.heap->J.go i H->
  Nl (Nq P w) X.A (OJ (.ref it)) (fun r s1=>∃ u,r=some u/\
   Nl (Nq P w) X.A (Qp tg (.ref it) u) (fun _ s2=>∃ x H',Inv X pins σ H' s2/\RelV x u/\J.yld i H x H'/\tn (i + 1) s2.heap/\∀ b∈fp,H' b=none) E s1) E s
 done:∀(X:Cx),X.prog=P->X.w=w->X.K=K->X.calm=true->∀(i:Nat) (pins:List (Nh × Obj)) (s:Ni) (σ:St) (H:Hp) (E:Nf->Ni->Prop),Inv X pins σ H s->(∀ b∈fp,iH X pins H b)->tn i s.heap->J.stop i H->
  Nl (Nq P w) X.A (OJ (.ref it)) (fun r s1=>r=none/\Inv X pins σ H s1) E s
 self:∀(A:NH) (i:Nat) (s:Ni) (Q:Nf->Ni->Prop) (E:Nf->Ni->Prop),tn i s.heap->Q (.ref it) s->Nl (Nq P w) A (Qj (.ref it)) Q E s
abbrev TI:=St->Hp->(It->Hp->Prop)->Prop
noncomputable def PIE(X:Cx)(pins:List (Nh × Obj))(σ:St)(tg:Nz)(R:It->Hp->Prop)(itv:Nf)(s2:Ni):Prop:=
 ∃(it:Nh) (fp:List Nh) (tn:Nat->NB->Prop) (J:It) (H':Hp),itv=.ref it/\Inv X pins σ H' s2/\Turn X.prog X.w X.K tg J fp it tn/\tn 0 s2.heap/\(∀ b∈fp,iH X pins H' b)/\R J H'
noncomputable def PI(X:Cx)(tg iter:Nz)(wi:TI):Prop:=
 ∀(pins:List (Nh × Obj)) (s:Ni) (σ:St) (H:Hp) (R:It->Hp->Prop),Inv X pins σ H s->wi σ H R->
  Nl (Nq X.prog X.w) X.A (NS iter X.env) (fun v s1=>Nl (Nq X.prog X.w) X.A (Qj v) (PIE X pins σ tg R) X.xe s1) X.xe s
theorem vD{M:Po}{A:NH}{E:Nf->Ni->Prop}{s:Ni}{tg:Nz}{it:Nh}{u:Nf}{o:Obj}{n:String}{vs:Array Nf}{Q:Unit->Ni->Prop}(ho:s.heap.get? it=some o)(hc:o.cls=.type n)(hd:o.data=.fields vs)
    (hn:["enumerate","zip","dict_itemiterator","dict_reverseitemiterator","odict_iterator","itertools.zip_longest","itertools.pairwise"].contains n=false) (hQ:Q () s):Nl M A (Qp tg (.ref it) u) Q E s:=by
  unfold Qp
  cases tg <;> first
    | exact Nj hQ
    | (cases u <;> first
        | exact Nj hQ
        | (refine Nd (RU ho ?_)
           rw[hc,hd]
           show Nl M A (if(["enumerate","zip","dict_itemiterator","dict_reverseitemiterator","odict_iterator","itertools.zip_longest","itertools.pairwise"].contains n && vs[0]? == some (Oj _))=true then _ else _) Q E s
           rw[if_neg (by intro h;rw[hn,Bool.false_and]at h;cases h)]
           exact Nj hQ))
noncomputable def Itl(K:Ng)(a:Nh):It:=
 ⟨fun i H=>∃ xs x,SqL K H a xs/\xs[i]?=some x,fun i H x H'=>H'=H/\∀ xs,SqL K H a xs->xs[i]?=some x,fun i H=>∃ xs,SqL K H a xs/\xs.length<=i⟩
noncomputable def Itt(K:Ng)(a:Nh):It:=
 ⟨fun i H=>∃ xs x,SqT K H a xs/\xs[i]?=some x,fun i H x H'=>H'=H/\∀ xs,SqT K H a xs->xs[i]?=some x,fun i H=>∃ xs,SqT K H a xs/\xs.length<=i⟩
def Itr(lo:Int)(n:Nat):It:=⟨fun i _=>i < n,fun i H x H'=>H'=H/\x=.int (lo + i),fun i _=>n<=i⟩
theorem wV{P:Nv}{w:NA}{K:Ng}{tg:Nz}(a it:Nh):Turn P w K tg (Itl K a) [it] it (fun i h=>h.IsListIter it a i) where
 mem:=by simp
 obj:=fun i h st b hb=>by
  have e:b=it:=by simpa using hb
  subst e
  obtain⟨o,e,c,d⟩:=st
  exact⟨o,e,fun v z=>by rw[d]at z;cases z⟩
 keep:=fun i h h' st k=>st.at fun o e=>k it (by simp) o e
 item:=by
  intro X hP hw hK hc i pins s σ H E I hf st hg
  subst hP hw hK
  obtain⟨xs,x,hq,hx⟩:=hg
  obtain⟨its,rv,p,hz⟩:=I.list hq
  obtain⟨u,hu,ru⟩:=rv.get hx
  obtain⟨f0,f1,f2,f3,f4,f5⟩:=hf it (by simp)
  refine wpAny_pyNext_list_item st p.isList (x:=u) (by simpa using hu) fun h' st' sb=>?_
  have I1:Inv X pins σ H { s with heap:=h' }:=I.turned (t':=s.toks) (fun b o hb e=>(sb.2 b hb).trans e) f0 f1 f3 f4 f5
  obtain⟨o,e,c,d⟩:=id st'
  exact⟨u,rfl,vD (s:={ s with heap:=h' }) e c d (by decide) ⟨x,H,I1,ru,⟨rfl,fun ys hy=>by rw[I.ml hy hq];exact hx⟩,st',fun b hb=>(hf b hb).1⟩⟩
 done:=by
  intro X hP hw hK hc i pins s σ H E I hf st hg
  subst hP hw hK
  obtain⟨xs,hq,hx⟩:=hg
  obtain⟨its,rv,p,hz⟩:=I.list hq
  obtain⟨f0,f1,f2,f3,f4,f5⟩:=hf it (by simp)
  have hl:=rv.length
  exact wpAny_pyNext_list_end (I.ok.hd hc) st p.isList (by simp;lia) fun h' eb=>⟨rfl,I.turned (t':=s.toks) (fun b o hb e=>eb b o hb e) f0 f1 f3 f4 f5⟩
 self:=fun _ _ _ _ _ st h=>wpAny_pyIter_listiter st h
theorem ud{P:Nv}{w:NA}{K:Ng}{tg:Nz}(a it:Nh):Turn P w K tg (Itt K a) [it] it (fun i h=>h.IsTupleIter it a i) where
 mem:=by simp
 obj:=fun i h st b hb=>by
  have e:b=it:=by simpa using hb
  subst e
  obtain⟨o,e,c,d⟩:=st
  exact⟨o,e,fun v z=>by rw[d]at z;cases z⟩
 keep:=fun i h h' st k=>st.at fun o e=>k it (by simp) o e
 item:=by
  intro X hP hw hK hc i pins s σ H E I hf st hg
  subst hP hw hK
  obtain⟨xs,x,hq,hx⟩:=hg
  obtain⟨its,rv,p,hz⟩:=I.tuple hq
  obtain⟨u,hu,ru⟩:=rv.get hx
  obtain⟨f0,f1,f2,f3,f4,f5⟩:=hf it (by simp)
  refine wpAny_pyNext_tuple_item st (show s.heap.IsTuple a its.toArray from p) (x:=u) (by simpa using hu) fun h' st' sb=>?_
  have I1:Inv X pins σ H { s with heap:=h' }:=I.turned (t':=s.toks) (fun b o hb e=>(sb.2 b hb).trans e) f0 f1 f3 f4 f5
  obtain⟨o,e,c,d⟩:=id st'
  exact⟨u,rfl,vD (s:={ s with heap:=h' }) e c d (by decide) ⟨x,H,I1,ru,⟨rfl,fun ys hy=>by rw[I.ff hy hq];exact hx⟩,st',fun b hb=>(hf b hb).1⟩⟩
 done:=by
  intro X hP hw hK hc i pins s σ H E I hf st hg
  subst hP hw hK
  obtain⟨xs,hq,hx⟩:=hg
  obtain⟨its,rv,p,hz⟩:=I.tuple hq
  obtain⟨f0,f1,f2,f3,f4,f5⟩:=hf it (by simp)
  have hl:=rv.length
  exact wpAny_pyNext_tuple_end (I.ok.hd hc) st (show s.heap.IsTuple a its.toArray from p) (by simp;lia) fun h' eb=>⟨rfl,I.turned (t':=s.toks) (fun b o hb e=>eb b o hb e) f0 f1 f3 f4 f5⟩
 self:=fun _ _ _ _ _ st h=>wpAny_pyIter_tupleiter st h
theorem sL{P:Nv}{w:NA}{K:Ng}{tg:Nz}(it:Nh)(lo:Int)(n:Nat):Turn P w K tg (Itr lo n) [it] it (fun i h=>Rt h it (lo + (i:Nat) * 1) ((n:Int) - (i:Nat)) 1) where
 mem:=by simp
 obj:=fun i h st b hb=>by
  have e:b=it:=by simpa using hb
  subst e
  exact⟨_,st,fun v z=>by
   have z':Ru _=QH v:=z
   cases z'⟩
 keep:=fun i h h' st k=>k it (by simp) _ st
 item:=by
  intro X hP hw hK hc i pins s σ H E I hf st hg
  subst hP hw hK
  obtain⟨f0,f1,f2,f3,f4,f5⟩:=hf it (by simp)
  have W:=Vm (prog:=X.prog) (w:=X.w) (I.ok.hd hc) it lo 1 n
  refine W.item i s _ _ hg st fun v h' tk hv st' kk=>?_
  obtain⟨t,rfl⟩:=hv
  have I1:Inv X pins σ H { s with heap:=h',toks:=tk }:=I.turned (fun b o hb e=>kk b o (by simpa using hb) e) f0 f1 f3 f4 f5
  refine⟨_,rfl,vD (s:={ s with heap:=h',toks:=tk }) (n:="range_iterator") st' rfl rfl (by decide) ⟨.int (lo + i),H,I1,⟨t,?_⟩,⟨rfl,rfl⟩,st',fun b hb=>(hf b hb).1⟩⟩
  rw[M9]
 done:=by
  intro X hP hw hK hc i pins s σ H E I hf st hg
  subst hP hw hK
  obtain⟨f0,f1,f2,f3,f4,f5⟩:=hf it (by simp)
  exact Rv (I.ok.hd hc) st (by have:n<=i:=hg;lia) fun h' eb=>⟨rfl,I.turned (t':=s.toks) (fun b o hb e=>eb b o hb e) f0 f1 f3 f4 f5⟩
 self:=fun _ _ _ _ _ st h=>Rw st h
section
variable{X:Cx}{tg:Nz}
theorem zM{pins:List (Nh × Obj)}{σ:St}{H:Hp}{s:Ni}{R:It->Hp->Prop}{E:Nf->Ni->Prop}{lo hi:Int}{t u v:Tok}{tk:Nat}(I:Inv X pins σ H s)(h1:-(2 ^ 62)<=lo)(h2:lo < 2 ^ 62)(h3:-(2 ^ 62)<=hi)(h4:hi < 2 ^ 62)
  (q:R (Itr lo (hi - lo).toNat) H):Nl (Nq X.prog X.w) X.A (Qj (.ref s.heap.objs.size)) (PIE X pins σ tg R) E { s with heap:=s.heap.push { cls:=.type "range",data:=.fields #[.int lo t,.int hi u,.int 1 v] },toks:=tk }:=by
 refine Sj (SX ..) (small_one h1 h2 h3 h4) ?_
 have I1:Inv X pins σ H { s with heap:=s.heap.push { cls:=.type "range",data:=.fields #[.int lo t,.int hi u,.int 1 v] },toks:=tk }:=I.kept fun b o e=>Nk _ e
 refine⟨(s.heap.push { cls:=.type "range",data:=.fields #[.int lo t,.int hi u,.int 1 v] }).objs.size,[(s.heap.push { cls:=.type "range",data:=.fields #[.int lo t,.int hi u,.int 1 v] }).objs.size],_,_,H,rfl,
  I1.kept (t':=tk) fun b o e=>Nk _ e,sL _ lo (hi - lo).toNat,?_,fun b hb=>?_,q⟩
 ·have e1:lo + ((0:Nat):Int) * 1=lo:=by simp
  have e2:(((hi - lo).toNat:Nat):Int) - ((0:Nat):Int)=Pc lo hi 1:=by rw[rangeSize_one];split <;> lia
  show Rt _ _ (lo + ((0:Nat):Int) * 1) ((((hi - lo).toNat:Nat):Int) - ((0:Nat):Int)) 1
  rw[e1,e2]
  exact Np _ rfl
 have e:b=(s.heap.push { cls:=.type "range",data:=.fields #[.int lo t,.int hi u,.int 1 v] }).objs.size:=by simpa using hb
 subst e
 exact I1.tF (d_ _) (I1.hok.fresh (d_ _))
def Hk(ta:TA):TI:=fun σ H R=>ta σ H fun vs H1=>∃ j:Int,vs=[.int j]/\-(2 ^ 62)<=j/\j < 2 ^ 62/\R (Itr 0 j.toNat) H1
theorem vZ{a:Nz}{ta:TA}{p pos:Pos}(hg:Gl X "range")(hm:X.mg "range"=none)(ha:PA X [a] ta)(hs:NF [a] X.env=[(false,NS a X.env)]:=by rfl):PI X tg (.Call (.Name "range" p) [a] [] pos) (Hk ta):=by
 intro pins s σ H R I h
 refine Vy (cp I hg hm Tp (OQ (thn (ha pos pins s σ H _ I h) fun us s1 ⟨vs,H1,I1,r1,q1⟩=>?_) hs rfl))
 obtain⟨j,e,q1,q2,q⟩:=q1
 subst e
 cases r1 with
 | cons r rr=>
  cases rr
  obtain⟨t,rfl⟩:=r
  exact US (zM I1 (by lia) (by lia) q1 q2 (by simpa using q))
noncomputable def Iq(wi:TI)(g:TG)(tb:TS):TS:=fun D σ H=>wi σ H fun J H1=>∃ W:Nat->Nat->St->Hp->Prop,(∃ m,W 0 m σ H1)/\∀ i m σ H,W i m σ H->
 (J.stop i H/\D.nx σ H)\/(J.go i H/\∃ N:St->Hp->Prop,(∀ σ' H',N σ' H'->∃ m',m' < m/\W (i + 1) m' σ' H')/\∀ x H',J.yld i H x H'->g x σ H' fun σ2 H2=>tb { D with nx:=N,ct:=N,bk:=D.nx } σ2 H2)
def ju(fp:List Nh)(h:NB):List (Nh × Obj):=fp.filterMap fun b=>(h.get? b).map fun o=>(b,o)
theorem bV{fp:List Nh}{h:NB}{b:Nh}{o:Obj}(hb:b∈fp)(e:h.get? b=some o):(b,o)∈ju fp h:=Mw.mpr ⟨b,hb,by rw[e];rfl⟩
theorem xf{fp:List Nh}{h:NB}{p:Nh × Obj}(hp:p∈ju fp h):p.1∈fp/\h.get? p.1=some p.2:=by
 obtain⟨b,hb,e⟩:=Mw.mp hp
 cases q:h.get? b with
 | none=>rw[q]at e;cases e
 | some o=>
  rw[q]at e
  have e':(b,o)=p:=D_ e
  subst e'
  exact⟨hb,q⟩
theorem Inv.pinned {pins:List (Nh × Obj)}{σ:St}{H:Hp}{s:Ni}{fp:List Nh}(I:Inv X pins σ H s)(hf:∀ b∈fp,iH X pins H b)(ho:∀ b∈fp,∃ o,s.heap.get? b=some o/\∀ v,o.data≠.cell v):Inv X (pins++ju fp s.heap) σ H s:=
 I.va fun p hp=>(F'.mp hp).elim (fun z=>I.pin p (s_ _ z)) fun z=>by
  obtain⟨hb,e⟩:=xf z
  obtain⟨f0,f1,f2,_⟩:=hf p.1 hb
  obtain⟨o,e',d⟩:=ho p.1 hb
  rw[e]at e';cases e'
  exact⟨e,f0,f1,f2,d⟩
theorem Inv.eY {pins pl:List (Nh × Obj)}{σ:St}{H:Hp}{s:Ni}(I:Inv X (pins++pl) σ H s):Inv X pins σ H s:=I.va fun p hp=>I.pin p (s_ _ (Jf _ hp))
theorem FV{iter:Nz}{body:List NZ}{wi:TI}{g:TG}{tb:TS}{pos:Pos}(hp:Si (Nq X.prog X.w) X.A X.env X.xe)(hc:X.calm=true)(hi:PI X tg iter wi)(hg:PG X tg g)(hb:PSs X body tb)
  (hs:∀ x,Of iter X.env x=pure x:=by intro _;rfl):PS X (.For tg iter body [] pos) (Iq wi g tb):=by
 intro pins s σ H D I h
 refine wpAny_For (thn (hi pins s σ H _ I h) fun v s1 h1=>thn h1 fun itv s2 h2=>?_) hs
 obtain⟨it,fp,tn,J,H2,e,I2,T,st2,f2,W,⟨m0,w0⟩,turn⟩:=h2
 subst e
 have stat:∀ {H':Hp},(∀ b∈fp,H' b=none)->∀ b∈fp,iH X pins H' b:=fun hn b hb=>⟨hn b hb,(f2 b hb).2⟩
 refine codeAny_forLoop_any (fun n s'=>∃ i σ' H',Inv X pins σ' H' s'/\tn i s'.heap/\(∀ b∈fp,H' b=none)/\W i n σ' H') ?_ m0 ⟨0,σ,H2,I2,st2,fun b hb=>(f2 b hb).1,w0⟩
 rintro n s3 ⟨i,σ3,H3,I3,st3,fr3,w3⟩
 rcases turn i n σ3 H3 w3 with⟨stop,qn⟩ | ⟨go,N,hN,step⟩
 ·refine OW hp (thn (T.done X rfl rfl rfl hc i pins s3 σ3 H3 X.xe I3 (stat fr3) st3 stop) ?_)
  rintro r s4 ⟨hr,I4⟩
  subst hr
  exact Qo ⟨σ3,H3,I4,qn⟩
 refine OW hp (thn (T.item X rfl rfl rfl hc i pins s3 σ3 H3 X.xe I3 (stat fr3) st3 go) ?_)
 rintro r s4 ⟨u,hr,h4⟩
 subst hr
 refine OW hp (thn h4 ?_)
 rintro _ s5 ⟨x,H5,I5,r5,y5,st5,fr5⟩
 have I5':=I5.pinned (stat fr5) (T.obj _ _ st5)
 refine OW hp (thn (hg _ s5 σ3 H5 x u _ I5' r5 (step x H5 y5)) ?_)
 rintro _ s6 ⟨σ6,H6,I6,q6⟩
 refine OW hp (thn (hb _ s6 σ6 H6 _ I6 q6) fun f s7 q7=>?_)
 have again:∀ {σ7:St} {H7:Hp},Inv X (pins++ju fp s5.heap) σ7 H7 s7->N σ7 H7->∃ m,m < n/\∃ i σ' H',Inv X pins σ' H' s7/\tn i s7.heap/\(∀ b∈fp,H' b=none)/\W i m σ' H':=fun{σ7 H7} I7 n7=>by
  obtain⟨m',hm,w7⟩:=hN σ7 H7 n7
  refine⟨m',hm,i + 1,σ7,H7,I7.eY,T.keep _ _ _ st5 fun b hb o e=>(I7.pin (b,o) (s_ _ (s_ _ (bV hb e)))).1,fun b hb=>?_,w7⟩
  obtain⟨o,e,d⟩:=T.obj _ _ st5 b hb
  exact(I7.pin (b,o) (s_ _ (s_ _ (bV hb e)))).2.1
 cases f with
 | next=>obtain⟨σ7,H7,I7,n7⟩:=q7;exact again I7 n7
 | cont=>obtain⟨σ7,H7,I7,n7⟩:=q7;exact again I7 n7
 | brk=>obtain⟨σ7,H7,I7,q7⟩:=q7;exact⟨σ7,H7,I7.eY,q7⟩
 | ret v=>obtain⟨x7,σ7,H7,I7,r7,q7⟩:=q7;exact⟨x7,σ7,H7,I7.eY,r7,q7⟩
end
abbrev R2:=V->V->Hp->VK->Prop
noncomputable def OpR(X:Cx)(f:Nf->Nf->Sem Nf)(r:R2):Prop:=
 ∀(pins:List (Nh × Obj)) (s:Ni) (σ:St) (H:Hp) (x y:V) (v u:Nf) (Q:VK),Inv X pins σ H s->RelV x v->RelV y u->r x y H Q->
  Nl (Nq X.prog X.w) X.A (f v u) (EP X pins σ Q) X.xe s
noncomputable def UnR(X:Cx)(f:Nf->Sem Nf)(r:V->Hp->VK->Prop):Prop:=
 ∀(pins:List (Nh × Obj)) (s:Ni) (σ:St) (H:Hp) (x:V) (v:Nf) (Q:VK),Inv X pins σ H s->RelV x v->r x H Q->
  Nl (Nq X.prog X.w) X.A (f v) (EP X pins σ Q) X.xe s
noncomputable def bh(X:Cx)(f:Nf)(r:List V->Hp->VK->Prop):Prop:=
 ∀(pins:List (Nh × Obj)) (s:Ni) (σ:St) (H:Hp) (xs:List V) (us:List Nf) (Q:VK),Inv X pins σ H s->Vals xs us->r xs H Q->
  Nl (Nq X.prog X.w) X.A (call f us) (EP X pins σ Q) X.xe s
noncomputable def Io(X:Cx)(r:V->Hp->(Bool->Hp->Prop)->Prop):Prop:=
 ∀(pins:List (Nh × Obj)) (s:Ni) (σ:St) (H:Hp) (x:V) (v:Nf) (Q:Bool->Hp->Prop),Inv X pins σ H s->RelV x v->r x H Q->
  Nl (Nq X.prog X.w) X.A (UQ v) (TP X pins σ Q) X.xe s
def tOp(r:R2)(ta tb:TE):TE:=fun σ H Q=>ta σ H fun x H1=>tb σ H1 fun y H2=>r x y H2 Q
def tUn(r:V->Hp->VK->Prop)(ta:TE):TE:=fun σ H Q=>ta σ H fun x H1=>r x H1 Q
def rI(C:Int->Int->Prop)(g:Int->Int->V):R2:=fun x y H Q=>∃ i j,x=.int i/\y=.int j/\C i j/\Q (g i j) H
def rI0(g:Int->Int->V):R2:=fun x y H Q=>∃ i j,x=.int i/\y=.int j/\Q (g i j) H
def rU(g:Int->V):V->Hp->VK->Prop:=fun x H Q=>∃ i,x=.int i/\Q (g i) H
section
variable{X:Cx}{a b c:Nz}{ta tb tc:TE}{pos:Pos}
theorem EX(ha:PE X a ta)(hb:PE X b tb){pins:List (Nh × Obj)}{s:Ni}{σ:St}{H:Hp}{R:V->V->Hp->Prop}(I:Inv X pins σ H s)
  (h:ta σ H fun x H1=>tb σ H1 fun y H2=>R x y H2) {Q:Nf->Ni->Prop} {f:Nf->Nf->Sem Nf}
  (hf:∀ v u s2 x y H2,Inv X pins σ H2 s2->RelV x v->RelV y u->R x y H2->Nl (Nq X.prog X.w) X.A (f v u) Q X.xe s2) :
  Nl (Nq X.prog X.w) X.A (NS a X.env) (fun v s₁=>Nl (Nq X.prog X.w) X.A (NS b X.env) (fun u s₂=>Nl (Nq X.prog X.w) X.A (f v u) Q X.xe s₂) X.xe s₁) X.xe s:=by
 refine thn (ha pins s σ H _ I h) ?_
 rintro v s1 ⟨x,H1,I1,r1,q1⟩
 refine thn (hb pins s1 σ H1 _ I1 q1) ?_
 rintro u s2 ⟨y,H2,I2,r2,q2⟩
 exact hf v u s2 x y H2 I2 r1 r2 q2
theorem bQ{op:Q2}{r:R2}(ho:OpR X (N9 op) r)(ha:PE X a ta)(hb:PE X b tb):PE X (.BinOp a op b pos) (tOp r ta tb):=by
 intro pins s σ H Q I h
 exact wpAny_BinOp (EX ha hb I h fun v u s2 x y H2 I2 rx ry q=>ho pins s2 σ H2 x y v u Q I2 rx ry q)
theorem G8{op:UnaryOp}{r:V->Hp->VK->Prop}(ho:UnR X (unaryOp op) r)(ha:PE X a ta):PE X (.UnaryOp op a pos) (tUn r ta):=by
 intro pins s σ H Q I h
 exact UnaryOp_ (thn (ha pins s σ H _ I h) fun v s1 ⟨x,H1,I1,r1,q1⟩=>ho pins s1 σ H1 x v Q I1 r1 q1)
theorem opI{f:Nf->Nf->Sem Nf}{C:Int->Int->Prop}{g:Int->Int->Int}
  (rule:∀(i j:Int) (t u:Tok) (s:Ni) (Q:Nf->Ni->Prop) (E:Nf->Ni->Prop),C i j->Q (.int (g i j) s.toks) { s with toks:=s.toks + 1 }->Nl (Nq X.prog X.w) X.A (f (.int i t) (.int j u)) Q E s) :
  OpR X f (rI C fun i j=>.int (g i j)):=by
 intro pins s σ H x y v u Q I rx ry h
 obtain⟨i,j,rfl,rfl,hc,q⟩:=h
 obtain⟨t,rfl⟩:=rx
 obtain⟨t',rfl⟩:=ry
 exact rule i j t t' s _ _ hc ⟨.int (g i j),H,I.tok _,⟨_,rfl⟩,q⟩
theorem AW{f:Nf->Nf->Sem Nf}{g:Int->Int->Int}
  (rule:∀(i j:Int) (t u:Tok) (s:Ni) (Q:Nf->Ni->Prop) (E:Nf->Ni->Prop),Q (.int (g i j) s.toks) { s with toks:=s.toks + 1 }->Nl (Nq X.prog X.w) X.A (f (.int i t) (.int j u)) Q E s) :
  OpR X f (rI0 fun i j=>.int (g i j)):=by
 intro pins s σ H x y v u Q I rx ry h
 obtain⟨i,j,rfl,rfl,q⟩:=h
 obtain⟨t,rfl⟩:=rx
 obtain⟨t',rfl⟩:=ry
 exact rule i j t t' s _ _ ⟨.int (g i j),H,I.tok _,⟨_,rfl⟩,q⟩
theorem AD{f:Nf->Nf->Sem Nf}{g:Int->Int->Bool}
  (rule:∀(i j:Int) (t u:Tok) (s:Ni) (Q:Nf->Ni->Prop) (E:Nf->Ni->Prop),Q (.bool (g i j)) s->Nl (Nq X.prog X.w) X.A (f (.int i t) (.int j u)) Q E s) :
  OpR X f (rI0 fun i j=>.bl (g i j)):=by
 intro pins s σ H x y v u Q I rx ry h
 obtain⟨i,j,rfl,rfl,q⟩:=h
 obtain⟨t,rfl⟩:=rx
 obtain⟨t',rfl⟩:=ry
 exact rule i j t t' s _ _ ⟨.bl (g i j),H,I,rfl,q⟩
def G5(i j:Int):Prop:=0 < j/\j < 1073741824
def xq(i j:Int):Prop:=0<=j/\j<=1000000/\i.natAbs < 2 ^ 64
def AH(i j:Int):Prop:=(-(2 ^ 64) < i/\i < 2 ^ 64)\/(-(2 ^ 64) < j/\j < 2 ^ 64)
theorem AH.ok {i j:Int}(h:AH i j):IntMulOk i j:=by
 rcases h with⟨h1,h2⟩ | ⟨h1,h2⟩
 ·exact .of_left (Uj h1 h2)
 exact .of_right (Uj h1 h2)
theorem lX:OpR X (N9 .Add) (rI0 fun i j=>.int (i + j)):=AW fun _ _ _ _ _ _ _ q=>add_int q
theorem Ds:OpR X (N9 .Sub) (rI0 fun i j=>.int (i - j)):=AW fun _ _ _ _ _ _ _ q=>sub_int q
theorem jB:OpR X (N9 .Mult) (rI AH fun i j=>.int (i * j)):=opI fun _ _ _ _ _ _ _ hc q=>mul_int q hc.ok
theorem BV:OpR X (N9 .FloorDiv) (rI G5 fun i j=>.int (i / j)):=opI fun i j _ _ _ _ _ hc q=>by
 have h1:(0:Int) < j:=hc.1
 have h2:j < 1073741824:=hc.2
 exact floordiv_int (by lia) (by rw[LG i (by lia)];exact q) (.inl (Rx (by lia)))
theorem jI:OpR X (N9 .Mod) (rI (fun _ j=>0 < j) fun i j=>.int (i % j)):=opI fun i j _ _ _ _ _ hc q=>by
 have h1:(0:Int) < j:=hc
 exact mod_int' (by lia) (by rw[LH i (by lia)];exact q)
theorem Fh:OpR X (N9 .Pow) (rI xq fun i j=>.int (i ^ j.toNat)):=opI fun _ _ _ _ _ _ _ hc q=>pow_int_small hc.1 hc.2.1 hc.2.2 q
theorem EC:OpR X (N9 .LShift) (rI xq fun i j=>.int (i * 2 ^ j.toNat)):=opI fun _ _ _ _ _ _ _ hc q=>lshift_int_small hc.1 hc.2.1 hc.2.2 q
theorem El:OpR X (N9 .BitAnd) (rI0 fun i j=>.int (P9 i j)):=AW fun _ _ _ _ _ _ _ q=>and_int q
theorem HC:OpR X (N9 .BitOr) (rI0 fun i j=>.int (OM i j)):=AW fun _ _ _ _ _ _ _ q=>or_int q
theorem unI{f:Nf->Sem Nf}{g:Int->Int}
  (rule:∀(i:Int) (t:Tok) (s:Ni) (Q:Nf->Ni->Prop) (E:Nf->Ni->Prop),Q (.int (g i) s.toks) { s with toks:=s.toks + 1 }->Nl (Nq X.prog X.w) X.A (f (.int i t)) Q E s) :
  UnR X f (rU fun i=>.int (g i)):=by
 intro pins s σ H x v Q I rx h
 obtain⟨i,rfl,q⟩:=h
 obtain⟨t,rfl⟩:=rx
 exact rule i t s _ _ ⟨.int (g i),H,I.tok _,⟨_,rfl⟩,q⟩
theorem Fn:UnR X (unaryOp .USub) (rU fun i=>.int (-i)):=unI fun _ _ _ _ _ q=>neg_int q
end
noncomputable def H0:V->V->Bool
 | .non,.non=>true | .non,.int _=>true | .int _,.non=>true | .non,.bl _=>true | .bl _,.non=>true | .non,.str _=>true | .str _,.non=>true
 | .int _,.int _=>true | .bl _,.bl _=>true | .str _,.str _=>true | .byt _,.byt _=>true
 | .int _,.str _=>true | .str _,.int _=>true | .bl _,.str _=>true | .str _,.bl _=>true
 | _,_=>false
def rEq:R2:=fun x y H Q=>H0 x y=true/\Q (.bl (decide (x=y))) H
def rNe:R2:=fun x y H Q=>H0 x y=true/\Q (.bl (!decide (x=y))) H
theorem vJ{i j:Int}:decide (V.int i=V.int j)=(i == j):=by
 rw[JT]
 simp
theorem zD{i j:Bool}:decide (V.bl i=V.bl j)=(i == j):=by
 rw[JT]
 simp
theorem vn{i j:Str}:decide (V.str i=V.str j)=(i == j):=by
 rw[JT]
 simp
theorem uJ{i j:Array UInt8}:decide (V.byt i=V.byt j)=(i.toList == j.toList):=by
 rw[JT]
 cases i
 cases j
 simp
section
variable{X:Cx}{a b c:Nz}{ta tb tc:TE}{pos:Pos}
theorem aH{pins:List (Nh × Obj)}{σ:St}{H:Hp}{s:Ni}{Q:VK}{k k':Bool}(I:Inv X pins σ H s)(q:Q (.bl k) H)(e:k=k'):EP X pins σ Q (.bool k') s:=by
 subst e
 exact⟨.bl k,H,I,rfl,q⟩
theorem D9:OpR X (NO .Eq) rEq:=by
 intro pins s σ H x y v u Q I rx ry h
 obtain⟨hs,q⟩:=h
 cases x with
 | non=>
  cases rx
  cases y with
  | non=>cases ry;exact UB (aH I q (by simp))
  | bl j=>cases ry;exact UC (aH I q (by simp))
  | int j=>obtain⟨t',rfl⟩:=ry;exact UT (aH I q (by simp))
  | str j=>obtain⟨t',rfl⟩:=ry;exact UU (aH I q (by simp))
  | _=>exact absurd (show false=true from hs) B_
 | bl i=>
  cases rx
  cases y with
  | non=>cases ry;exact UD (aH I q (by simp))
  | bl j=>cases ry;exact eq_bool (aH I q zD)
  | str j=>obtain⟨t',rfl⟩:=ry;exact UE (aH I q (by simp))
  | _=>exact absurd (show false=true from hs) B_
 | int i=>
  obtain⟨t,rfl⟩:=rx
  cases y with
  | non=>cases ry;exact UW (aH I q (by simp))
  | int j=>obtain⟨t',rfl⟩:=ry;exact eq_int (aH I q vJ)
  | str j=>obtain⟨t',rfl⟩:=ry;exact UX (aH I q (by simp))
  | _=>exact absurd (show false=true from hs) B_
 | str i=>
  obtain⟨t,rfl⟩:=rx
  cases y with
  | non=>cases ry;exact UY (aH I q (by simp))
  | bl j=>cases ry;exact UG (aH I q (by simp))
  | int j=>obtain⟨t',rfl⟩:=ry;exact UZ (aH I q (by simp))
  | str j=>obtain⟨t',rfl⟩:=ry;exact eq_str (aH I q vn)
  | _=>exact absurd (show false=true from hs) B_
 | byt i=>
  obtain⟨t,rfl⟩:=rx
  cases y with
  | byt j=>obtain⟨t',rfl⟩:=ry;exact PySem.W.eq_bytes (aH I q uJ)
  | _=>exact absurd (show false=true from hs) B_
 | _=>cases y <;> exact absurd (show false=true from hs) B_
theorem Ad:OpR X (NO .NotEq) rNe:=by
 intro pins s σ H x y v u Q I rx ry h
 obtain⟨hs,q⟩:=h
 cases x with
 | non=>
  cases rx
  cases y with
  | non=>cases ry;exact UH (aH I q (by simp))
  | bl j=>cases ry;exact UI (aH I q (by simp))
  | int j=>obtain⟨t',rfl⟩:=ry;exact U0 (aH I q (by simp))
  | str j=>obtain⟨t',rfl⟩:=ry;exact U1 (aH I q (by simp))
  | _=>exact absurd (show false=true from hs) B_
 | bl i=>
  cases rx
  cases y with
  | non=>cases ry;exact UJ (aH I q (by simp))
  | bl j=>cases ry;exact ne_bool (aH I q (congrArg not zD))
  | str j=>obtain⟨t',rfl⟩:=ry;exact UK (aH I q (by simp))
  | _=>exact absurd (show false=true from hs) B_
 | int i=>
  obtain⟨t,rfl⟩:=rx
  cases y with
  | non=>cases ry;exact U2 (aH I q (by simp))
  | int j=>obtain⟨t',rfl⟩:=ry;exact ne_int (aH I q (congrArg not vJ))
  | str j=>obtain⟨t',rfl⟩:=ry;exact U3 (aH I q (by simp))
  | _=>exact absurd (show false=true from hs) B_
 | str i=>
  obtain⟨t,rfl⟩:=rx
  cases y with
  | non=>cases ry;exact U4 (aH I q (by simp))
  | bl j=>cases ry;exact UL (aH I q (by simp))
  | int j=>obtain⟨t',rfl⟩:=ry;exact U5 (aH I q (by simp))
  | str j=>obtain⟨t',rfl⟩:=ry;exact ne_str (aH I q (congrArg not vn))
  | _=>exact absurd (show false=true from hs) B_
 | byt i=>
  obtain⟨t,rfl⟩:=rx
  cases y with
  | byt j=>obtain⟨t',rfl⟩:=ry;exact PySem.W.ne_bytes (aH I q (congrArg not uJ))
  | _=>exact absurd (show false=true from hs) B_
 | _=>cases y <;> exact absurd (show false=true from hs) B_
theorem GU:OpR X (NO .Lt) (rI0 fun i j=>.bl (decide (i < j))):=AD fun _ _ _ _ _ _ _ q=>lt_int q
theorem G9:OpR X (NO .LtE) (rI0 fun i j=>.bl (decide (i<=j))):=AD fun _ _ _ _ _ _ _ q=>le_int q
theorem Ik:OpR X (NO .Gt) (rI0 fun i j=>.bl (decide (j < i))):=AD fun _ _ _ _ _ _ _ q=>gt_int q
theorem Gw:OpR X (NO .GtE) (rI0 fun i j=>.bl (decide (j<=i))):=AD fun _ _ _ _ _ _ _ q=>ge_int q
theorem x9:OpR X (NO .In) (fun x y H Q=>∃ i j,x=.str i/\y=.str j/\Q (.bl (!(Qb j i 0 j.length 1).isEmpty)) H):=by
 intro pins s σ H x y v u Q I rx ry h
 obtain⟨i,j,rfl,rfl,q⟩:=h
 obtain⟨t,rfl⟩:=rx
 obtain⟨t',rfl⟩:=ry
 exact in_str (aH I q rfl)
theorem aO(b:Nz){op:Ri}(h:op≠.In:=by decide)(h2:op≠.NotIn:=by decide):OF op b=false:=by
 have e1:(op == V2)=false:=by cases op <;> first | rfl | exact absurd rfl h
 have e2:(op == Vk)=false:=by cases op <;> first | rfl | exact absurd rfl h2
 cases b <;> simp[OF,e1,e2]
theorem oW{op:Ri}{r:R2}(ho:OpR X (NO op) r)(ha:PE X a ta)(hb:PE X b tb)(hm:OF op b=false):PE X (.Compare a [op] [b] pos) (tOp r ta tb):=by
 intro pins s σ H Q I h
 exact TV (EX ha hb I h fun v u s2 x y H2 I2 rx ry q=>ho pins s2 σ H2 x y v u Q I2 rx ry q) hm
def Dg(t:TE):TT:=fun σ H Q=>t σ H fun x H'=>∃ k,x=.bl k/\Q k H'
theorem f7{op:Ri}{r:R2}(ho:OpR X (NO op) r)(ha:PE X a ta)(hb:PE X b tb)(hm:OF op b=false):PT X (.Compare a [op] [b] pos) (Dg (tOp r ta tb)):=by
 intro pins s σ H Q I h
 refine RE (thn (ha pins s σ H _ I h) fun v s1 ⟨x,H1,I1,r1,q1⟩=>thn (hb pins s1 σ H1 _ I1 q1) fun u s2 ⟨y,H2,I2,r2,q2⟩=>
  thn (ho pins s2 σ H2 x y v u _ I2 r1 r2 q2) fun c s3 ⟨z,H3,I3,r3,k,e,q3⟩=>?_) hm
 subst e
 cases r3
 exact OA ⟨H3,I3,q3⟩
noncomputable def DQ(K:Ng)(x:V)(H:Hp)(k:Bool):Prop:=
 match x with
 | .non=>k=false
 | .bl b=>k=b
 | .int i=>k=(i != 0)
 | .str y=>y.length<=sizeLine/\k=((y.length:Int) != 0)
 | .byt y=>y.size<=sizeLine/\k=((y.size:Int) != 0)
 | .ref p=>(∃ xs,SqL K H p xs/\k=!xs.isEmpty)\/(∃ xs,SqT K H p xs/\k=!xs.isEmpty)\/∃ kvs,H p=some (.dK kvs)/\k=!kvs.isEmpty
 | _=>False
theorem sI{κ:Type}{kvs:List (κ × V)}{vs:List (κ × Nf)}(r:KV kvs vs):(!vs.isEmpty)=!kvs.isEmpty:=by
 cases r <;> rfl
theorem mh{xs:List V}{its:List Nf}(r:Vals xs its):(!its.toArray.isEmpty)=!xs.isEmpty:=by
 cases r <;> simp
theorem gA:(sizeLine:Nat) < 2 ^ 63:=by rw[NQ];decide
theorem Ea:Io X (fun x H Q=>∃ k,DQ X.K x H k/\Q k H):=by
 intro pins s σ H x v Q I rx h
 obtain⟨k,e,q⟩:=h
 have hl:=gA
 have hs:sizeLine=16777216:=NQ
 cases x with
 | non=>
  cases rx
  have e':k=false:=e
  subst e'
  exact truthy_none ⟨H,I,q⟩
 | bl b=>
  cases rx
  have e':k=b:=e
  subst e'
  exact OA ⟨H,I,q⟩
 | int i=>
  obtain⟨t,rfl⟩:=rx
  have e':k=(i != 0):=e
  subst e'
  exact PySem.P.truthy_int ⟨H,I,q⟩
 | str y=>
  obtain⟨t,rfl⟩:=rx
  obtain⟨hy,e'⟩:y.length<=sizeLine/\k=((y.length:Int) != 0):=e
  subst e'
  exact PySem.P.truthy_str (by lia) ⟨H,I.tok _,q⟩
 | byt y=>
  obtain⟨t,rfl⟩:=rx
  obtain⟨hy,e'⟩:y.size<=sizeLine/\k=((y.size:Int) != 0):=e
  subst e'
  exact PySem.W.truthy_bytes (by lia) ⟨H,I.tok _,q⟩
 | ref p=>
  cases rx
  have e':(∃ xs,SqL X.K H p xs/\k=!xs.isEmpty)\/(∃ xs,SqT X.K H p xs/\k=!xs.isEmpty)\/∃ kvs,H p=some (.dK kvs)/\k=!kvs.isEmpty:=e
  rcases e' with⟨xs,hx,e'⟩ | ⟨xs,hx,e'⟩ | ⟨kvs,hx,e'⟩
  ·subst e'
   obtain⟨its,r,pl,hz⟩:=I.list hx
   have hlen:=r.length
   exact wpAny_truthy_list pl.isList (by simp only[q_];lia) ⟨H,I.tok _,by rw[mh r];exact q⟩
  ·subst e'
   obtain⟨its,r,pl,hz⟩:=I.tuple hx
   have hlen:=r.length
   exact truthy_tuple pl (by simp only[q_];lia) ⟨H,I.tok _,by rw[mh r];exact q⟩
  ·subst e'
   obtain⟨hz,hS,vs,r,m⟩:kvs.length<=sizeLine/\(p == Om)=false/\∃ vs,KV kvs vs/\s.heap.DictOf (ba X.prog X.w) p vs:=I.hok p _ hx
   have hlen:kvs.length=vs.length:=Pz r
   exact wpAny_truthy_dict hS m (by lia) ⟨H,I.tok _,by rw[sI r];exact q⟩
 | _=>exact(show False from e).elim
theorem xO(ha:PE X a ta)(he:∀ whole,RD a X.env whole=(do let v <-whole;SD a.pos;PN [v] (UQ v))) :
  PT X a (fun σ H Q=>ta σ H fun x H'=>∃ k,DQ X.K x H' k/\Q k H'):=by
 intro pins s σ H Q I h
 exact UR (thn (ha pins s σ H _ I h) fun v s1 ⟨x,H1,I1,r1,q1⟩=>Ea pins s1 σ H1 x v Q I1 r1 q1) (he _)
theorem tI:OpR X (N9 .Add) (fun x y H Q=>∃ i j,x=.str i/\y=.str j/\i.length + j.length<=sizeLine/\Q (.str (i++j)) H):=by
 intro pins s σ H x y v u Q I rx ry h
 obtain⟨i,j,rfl,rfl,hz,q⟩:=h
 obtain⟨t,rfl⟩:=rx
 obtain⟨t',rfl⟩:=ry
 exact add_str (fun t' tk=>⟨.str (i++j),H,I.tok _,⟨_,rfl⟩,q⟩) hz
theorem vals1{x:V}{us:List Nf}(r:Vals [x] us):∃ u,us=[u]/\RelV x u:=by
 cases r with
 | cons r1 r2=>cases r2;exact⟨_,rfl,r1⟩
theorem vals2{x y:V}{us:List Nf}(r:Vals [x,y] us):∃ u w',us=[u,w']/\RelV x u/\RelV y w':=by
 cases r with
 | cons r1 r2=>
  cases r2 with
  | cons r3 r4=>cases r4;exact⟨_,_,rfl,r1,r3⟩
theorem wZ(hc:X.calm=true):bh X (.builtin "min") (fun xs H Q=>∃ i j,xs=[.int i,.int j]/\Q (.int (if j < i then j else i)) H):=by
 intro pins s σ H xs us Q I r h
 obtain⟨i,j,rfl,q⟩:=h
 obtain⟨u,w',rfl,⟨t,rfl⟩,⟨t',rfl⟩⟩:=vals2 r
 refine min_two_ints (I.ok.hd hc) fun h' tk k=>⟨_,H,I.kept k,?_,q⟩
 by_cases hj:j < i
 ·rw[if_pos hj,if_pos hj];exact⟨_,rfl⟩
 rw[if_neg hj,if_neg hj];exact⟨_,rfl⟩
theorem nk:bh X (.type "int") (fun xs H Q=>(∃ i,xs=[.int i]/\Q (.int i) H)\/∃ k,xs=[.bl k]/\Q (.int (if k then 1 else 0)) H):=by
 intro pins s σ H xs us Q I r h
 rcases h with⟨i,rfl,q⟩ | ⟨k,rfl,q⟩
 ·obtain⟨u,rfl,t,rfl⟩:=vals1 r
  exact call_int_int ⟨.int i,H,I,⟨_,rfl⟩,q⟩
 obtain⟨u,rfl,r1⟩:=vals1 r
 cases r1
 exact call_int_bool ⟨.int (if k then 1 else 0),H,I.tok _,⟨_,rfl⟩,q⟩
theorem r6:bh X (.builtin "divmod") (fun xs H Q=>∃ i j,xs=[.int i,.int j]/\G5 i j/\∀ p,H p=none->Q (.ref p) (upd H p (.tup [.int (i / j),.int (i % j)]))):=by
 intro pins s σ H xs us Q I r h
 obtain⟨i,j,rfl,⟨h1,h2⟩,q⟩:=h
 obtain⟨u,w',rfl,⟨t,rfl⟩,⟨t',rfl⟩⟩:=vals2 r
 refine divmod_int (by lia) ?_ (.inl (Rx (by lia)))
 rw[LG i (by lia),LH i (by lia)]
 have hn:H s.heap.objs.size=none:=I.hok.fresh (d_ _)
 refine⟨.ref s.heap.objs.size,_,?_,rfl,q _ hn⟩
 refine I.laid (fun b o e=>Nk _ e) (d_ _) ⟨by simp only[i_,Lj];rw[NQ];decide,[.int (i / j) s.toks,.int (i % j) (s.toks + 1)],.cons ⟨_,rfl⟩ (.cons ⟨_,rfl⟩ .nil),?_⟩
 exact⟨_,Np s.heap rfl,rfl,0,rfl⟩
end
theorem mT.some_of {v:V}{o:Option Nf}(r:mT (some v) o):∃ u,o=some u/\RelV v u:=by
 cases o with
 | none=>exact(show False from r).elim
 | some u=>exact⟨u,rfl,r⟩
structure Room (k:Nat) (A:NH):Prop where
 hd:A.handled=none
 dp:A.depth + 3 * k + 5 < recursionLimit
 un:A.units + 16 * k + 200 < cLine
 gs:A.guards=some []
theorem Room.mono {j k:Nat}{A:NH}(r:Room k A)(h:j<=k):Room j A:=⟨r.hd,by have:=r.dp;lia,by have:=r.un;lia,r.gs⟩
theorem Room.deeper {k:Nat}{A:NH}(r:Room (k + 1) A)(env:Env):Room k (A.deeper env):=
 ⟨r.hd,by have:=r.dp;show A.depth + 1 + 3 * k + 5 < _;lia,by have:=r.un;show A.units + 3 + 16 * k + 200 < _;lia,r.gs⟩
theorem Room.depth {k:Nat}{A:NH}(r:Room k A):A.depth < recursionLimit:=by have:=r.dp;lia
theorem Room.units {k:Nat}{A:NH}(r:Room k A):A.units + 64 < cLine:=by have:=r.un;lia
def IJ:TA:=fun _ H Q=>Q [] H
def Hb(ta:TE)(tr:TA):TA:=fun σ H Q=>ta σ H fun x H1=>tr σ H1 fun xs H2=>Q (x::xs) H2
section
variable{X:Cx}{e:Nz}{es:List Nz}{te:TE}{t:TA}{pos:Pos}
theorem b7:PA X [] IJ:=fun _ _ _ _ H Q I h=>SM ⟨[],H,I,.nil,h⟩
theorem aq(ha:PE X e te)(hr:PA X es t)(hs:NF (e::es) X.env=(false,NS e X.env)::NF es X.env:=by rfl):PA X (e::es) (Hb te t):=by
 intro pos pins s σ H Q I h
 rw[hs]
 show Nl _ _ (spliced ((false,NS e X.env)::Pt pos (NF es X.env))) _ _ s
 refine Pg (thn (ha pins s σ H _ I h) ?_)
 rintro u s1 ⟨x,H1,I1,r1,q1⟩
 exact thn (hr pos pins s1 σ H1 _ I1 q1) fun us s2 ⟨xs,H2,I2,r2,q2⟩=>⟨x::xs,H2,I2,.cons r1 r2,q2⟩
def Ir(t:TA):TE:=fun σ H Q=>t σ H fun xs H1=>xs.length<=sizeLine/\∀ p,H1 p=none->Q (.ref p) (upd H1 p (.lst xs))
theorem yF(h:PA X es t):PE X (.List es pos) (Ir t):=by
 intro pins s σ H Q I hq
 refine Sl (thn (h pos pins s σ H _ I hq) fun us s1 ⟨xs,H1,I1,r,z,q⟩=>⟨by rw[<-r.length];exact z,?_⟩)
 have hf:H1 s1.heap.objs.size=none:=I1.hok.fresh (d_ _)
 refine⟨.ref s1.heap.objs.size,upd H1 s1.heap.objs.size (.lst xs),I1.laid (t':=s1.toks) (fun b u e=>Nk _ e) (d_ _) ?_,rfl,q _ hf⟩
 exact⟨z,us,0,r,Np _ rfl⟩
end
abbrev Sp:=List V->Hp->VK->XK->Prop
abbrev CXT:=List Env->Hp->Ni->XK->Nf->Ni->Prop
structure Env0 (P:Nv) (w:NA) (K:Ng) (mg:Str->Option Nf) (base:NB) (A:NH) (outer:List Env) (s:Ni) (H:Hp):Prop where
 frames:A.frames=some outer
 mod:Mod K mg base
 bs:∀ b o,base.get? b=some o->s.heap.get? b=some o/\H b=none
 bsz:base.objs.size<=s.heap.objs.size
 lM:s.heap.FunFrames base outer
 frf:∀ b∈frs outer,H b=none
 hok:HOk P w H s.heap
 bare:Qn s.gens
noncomputable def CE(outer:List Env)(P:Nv)(w:NA)(H:Hp)(s:Ni)(Q:VK)(u:Nf)(s':Ni):Prop:=
 ∃ v H',s'.os=s.os/\Qn s'.gens/\Un (frs outer) [] H H' s.heap s'.heap/\HOk P w H' s'.heap/\RelV v u/\Q v H'
noncomputable def CR(CX:CXT)(outer:List Env)(P:Nv)(w:NA)(H:Hp)(s:Ni)(Q:VK)(E:XK)(r:Sm)(s':Ni):Prop:=
 match r with
 | .ok (.ret u)=>CE outer P w H s Q u s'
 | .ok _=>False
 | .error e=>CX outer H s E e s'
structure FnOk (P:Nv) (w:NA) (K:Ng) (mg:Str->Option Nf) (base:NB) (CX:CXT) (k:Nat) (f:Nh) (fd:NK) (ps:List Str) (sp:Sp):Prop where
 len:∀ vs H Q E,sp vs H Q E->vs.length=ps.length
 run:∀(A:NH) (outer:List Env) (s:Ni) (H:Hp) (args:Args) (us:List Nf) (vs:List V) (Q:VK) (E:XK),Room k A->Env0 P w K mg base A outer s H->RF s fd args (ps.zip us)->Vals vs us->sp vs H Q E->
  OL (Nq P w) A (.call (.ref f) args) (CR CX outer P w H s Q E) s
theorem FnOk.imp {P:Nv}{w:NA}{K:Ng}{mg:Str->Option Nf}{base:NB}{CX:CXT}{k:Nat}{f:Nh}{fd:NK}{ps:List Str}{sp sp':Sp}(F:FnOk P w K mg base CX k f fd ps sp)
  (h:∀ vs H Q E,sp' vs H Q E->sp vs H Q E):FnOk P w K mg base CX k f fd ps sp':=
 ⟨fun vs H Q E q=>F.len vs H Q E (h _ _ _ _ q),fun A outer s H args us vs Q E hr he hb hv hs=>F.run A outer s H args us vs Q E hr he hb hv (h _ _ _ _ hs)⟩
section
variable{X:Cx}{pins:List (Nh × Obj)}{σ:St}{H:Hp}{s s':Ni}
theorem Inv.IZ (I:Inv X pins σ H s):Env0 X.prog X.w X.K X.mg X.base X.A X.stack s H:=
 ⟨I.ok.frames,I.ok.mod,I.bs,v_ I.ok.bsz I.sz,I.stack,I.uY,I.hok,I.bare⟩
theorem Inv.after {Q:VK}{u:Nf}(I:Inv X pins σ H s)(h:CE X.stack X.prog X.w H s Q u s'):EP X pins σ Q u s':=by
 obtain⟨v,H',os,bare,un,hok,r,q⟩:=h
 obtain⟨hh,g,d,t,os'⟩:=s'
 obtain rfl:os'=s.os:=os
 exact⟨v,H',I.call (h':=hh) (g':=g) (d':=d) (t':=t) (ch:=[]) un hok bare (fun b z=>absurd z (by simp)),r,q⟩
end
def A5(sp:Sp)(dvs:List V)(E:XK)(t:TA):TE:=fun σ H Q=>t σ H fun vs H1=>sp (vs++dvs) H1 Q E
noncomputable def Binds(K:Ng)(fd:NK)(ps:List Str)(ds:List Nf):Prop:=
 ∀(s:Ni) (us:List Nf),K.In s.heap->(us++ds).length=ps.length->RF s fd ⟨us,[]⟩ (ps.zip (us++ds))
theorem Binds.all {K:Ng}{fd:NK}{ps:List Str}(h:∀ us:List Nf,us.length=ps.length->U6 fd ⟨us,[]⟩=pure (ps.zip us)):Binds K fd ps []:=fun s us _ hl=>by
 rw[H_]at hl ⊢
 exact .of_eq (h us hl)
noncomputable def Passes(CX:CXT)(X:Cx)(E:XK):Prop:=∀(pins:List (Nh × Obj)) (σ:St) (H:Hp) (s:Ni) (e:Nf) (s':Ni),Inv X pins σ H s->CX X.stack H s E e s'->X.xe e s'
section
variable{X:Cx}{CX:CXT}{k:Nat}{f C:Nh}{fd:NK}{ps:List Str}{sp:Sp}{dvs:List V}{ds:List Nf}{E:XK}{x m:Str}{p pos apos:Pos}{e o:Nz}{es:List Nz}{ta:TE}{t:TA}
theorem DG{pins:List (Nh × Obj)}{σ:St}{H:Hp}{s:Ni}{Q:VK}{us:List Nf}{vs:List V}(F:FnOk X.prog X.w X.K X.mg X.base CX k f fd ps sp)(hr:Room k X.A)(hb:Binds X.K fd ps ds)(hd:Vals dvs ds)(hx:Passes CX X E)
  (I:Inv X pins σ H s) (r:Vals vs us) (h:sp (vs++dvs) H Q E):Nl (Nq X.prog X.w) X.A (call (.ref f) us) (EP X pins σ Q) X.xe s:=by
 have r2:Vals (vs++dvs) (us++ds):=r.append hd
 have hl:(us++ds).length=ps.length:=by rw[<-r2.length];exact F.len _ _ _ _ h
 refine Tq (OR (F.run X.A X.stack s H ⟨us,[]⟩ (us++ds) (vs++dvs) Q E hr I.IZ (hb s us I.kIn hl) r2 h) fun r s' hq=>?_)
 cases r with
 | error e=>exact hx pins σ H s e s' I hq
 | ok fl=>
  cases fl with
  | ret u=>exact I.after hq
  | next=>exact NC hq
  | brk=>exact NC hq
  | cont=>exact NC hq
theorem Aq(F:FnOk X.prog X.w X.K X.mg X.base CX k f fd ps sp)(hr:Room k X.A)(hg:Gl X x)(hm:X.mg x=some (.ref f))(hk:P_ X.K (.ref f)=true)(hb:Binds X.K fd ps ds)(hd:Vals dvs ds)(hx:Passes CX X E)
  (ha:PA X (e::es) t) (hdb:(x ==("__debug__":Str))=false:=by decide) (he:NF (e::es) X.env=(false,NS e X.env)::NF es X.env:=by rfl) (hpl:(Pt pos (NF es X.env)).any (·.1)=false:=by rfl) :
  PE X (.Call (.Name x p) (e::es) [] pos) (A5 sp dvs E t):=by
 intro pins s σ H Q I h
 refine Ou (AS I hg hm ?_ hdb)
 refine PySem.W.callWith_K (h₀:=X.base) I.ok.mod.kin hk (thn (ha pos pins s σ H _ I h) fun us s1 ⟨vs,H1,I1,r,q⟩=>⟨I1.kIn,?_⟩) he hpl
 exact DG F hr hb hd hx I1 r q
end
structure FnScope (N P:List Str) (sc:Oo):Prop where
 kind:sc.kind=.function
 co:sc.isCoroutine=false
 gen:sc.isGenerator=false
 nd:N.Nodup
 pre:N.take P.length=P
 par:∀ x∈P,sc.names.lookup x=some .local\/sc.names.lookup x=some .cell
 nofree:∀ y∈sc.names,y.2≠.free
theorem nU{kindOf:Str->Option O6}{x:Str}:∀ {binds:List (Str × Nf)} {m:Str->Option Nf},(∀ v,(x,v) ∉ binds)->RV kindOf binds m x=m x
 | [],_,_=>rfl
 | (n,v)::r,m,h=>by
  unfold RV
  rw[nU fun w hw=>h w (n_ _ hw)]
  split
  ·have:x≠n:=by rintro rfl;exact h v p_
   simp[this]
  rfl
theorem nO{kindOf:Str->Option O6}{x:Str}:∀ {binds:List (Str × Nf)} {m:Str->Option Nf},(∀ v,(x,v) ∉ binds)->RW kindOf binds m x=m x
 | [],_,_=>rfl
 | (n,v)::r,m,h=>by
  unfold RW
  rw[nO fun w hw=>h w (n_ _ hw)]
  split
  ·rfl
  have:x≠n:=by rintro rfl;exact h v p_
  simp[this]
theorem nR{kindOf:Str->Option O6}{x:Str}{v:Nf}:∀ {P:List Str} {vs:List Nf} {i:Nat} {m:Str->Option Nf},P.Nodup->P[i]?=some x->vs[i]?=some v->kindOf x=some .local->
  RV kindOf (P.zip vs) m x=some v
 | [],_,_,_,_,h,_,_=>by simp at h
 | _::_,[],_,_,_,_,h,_=>by simp at h
 | p::P,w::vs,0,m,nd,h1,h2,hk=>by
  simp at h1 h2;subst h1;subst h2
  show RV kindOf ((p,w)::P.zip vs) m p=_
  unfold RV
  rw[nU fun v hv=>(D'.mp nd).1 (L_ hv).1,if_pos hk]
  simp
 | p::P,w::vs,i + 1,m,nd,h1,h2,hk=>by
  show RV kindOf ((p,w)::P.zip vs) m x=_
  unfold RV
  exact nR (i:=i) (D'.mp nd).2 (by simpa using h1) (by simpa using h2) hk
theorem n9{kindOf:Str->Option O6}{x:Str}{v:Nf}:∀ {P:List Str} {vs:List Nf} {i:Nat} {m:Str->Option Nf},P.Nodup->P[i]?=some x->vs[i]?=some v->kindOf x≠some .local->
  RW kindOf (P.zip vs) m x=some v
 | [],_,_,_,_,h,_,_=>by simp at h
 | _::_,[],_,_,_,_,h,_=>by simp at h
 | p::P,w::vs,0,m,nd,h1,h2,hk=>by
  simp at h1 h2;subst h1;subst h2
  show RW kindOf ((p,w)::P.zip vs) m p=_
  unfold RW
  rw[nO fun v hv=>(D'.mp nd).1 (L_ hv).1,if_neg hk]
  simp
 | p::P,w::vs,i + 1,m,nd,h1,h2,hk=>by
  show RW kindOf ((p,w)::P.zip vs) m x=_
  unfold RW
  exact n9 (i:=i) (D'.mp nd).2 (by simpa using h1) (by simpa using h2) hk
def start(N:List Str)(vs:List V):St:=vs.map some++t_ (N.length - vs.length) none
noncomputable def sU(CX:CXT)(P:Nv)(w:NA)(K:Ng)(mg:Str->Option Nf)(base:NB)(N:List Str)(qual:Str)(scope:Oo)(f:Nh)(cd:Nf)(A:NH)(outer:List Env)(s:Ni)(H:Hp)(E:XK):Cx where
 prog:=P
 w:=w
 K:=K
 mg:=mg
 base:=base
 A:=A.deeper (Qq qual scope s.heap.objs.size f cd)
 N:=N
 s₀:=s
 H₀:=H
 env:=Qq qual scope s.heap.objs.size f cd
 outer:=outer
 stack:=Qq qual scope s.heap.objs.size f cd::outer
 ex:=[]
 calm:=true
 fn:=fun _=>true
 pn:=[]
 xe:=fun e s'=>Nl (Nq P w) (A.deeper (Qq qual scope s.heap.objs.size f cd)) (leaving (Qq qual scope s.heap.objs.size f cd) e) (fun _ s''=>CX outer H s E e s'') (fun e' s''=>CX outer H s E e' s'') s'
theorem rW{sc:Oo}{n:Nat}{x:Str}(h:sc.names.lookup x=some .cell):∃ c,(Uc n sc.names []).lookup x=some c:=by
 have q:=Ry sc.names n [] (.inl h)
 exact Option.isSome_iff_exists.mp q
theorem w6{CX:CXT}{P:Nv}{w:NA}{K:Ng}{mg:Str->Option Nf}{base:NB}{N ps:List Str}{qual:Str}{scope:Oo}{f:Nh}{cd:Nf}{A:NH}{outer:List Env}{s s1:Ni}{H:Hp}{E:XK}{us:List Nf}{vs:List V}
  (S:FnScope N ps scope) (hd:A.handled=none) (e0:Env0 P w K mg base A outer s H) (hl:vs.length=ps.length) (r:Vals vs us)
  (x:InCallC s s.heap.objs.size (RV (Qq qual scope s.heap.objs.size f cd).kindOf (ps.zip us) fun _=>none) (Uc (s.heap.objs.size + 1) scope.names []) (RW (Qq qual scope s.heap.objs.size f cd).kindOf (ps.zip us) fun _=>none) s1) :
  Inv (sU CX P w K mg base N qual scope f cd A outer s H E) [] (start N vs) H s1:=by
 have hpl:ps.length<=N.length:=by have:=congrArg Ly S.pre;rw[Jc]at this;lia
 obtain⟨h1,tk,rfl,hk⟩:=x.done
 have noA:∀ b:Nh,b ∉ (sU CX P w K mg base N qual scope f cd A outer s H E).ex:=fun b z=>absurd (show b∈([]:List Nh)from z) (by simp)
 refine⟨⟨e0.mod,S.kind,rfl,rfl,d_ _,fun y z c h1 h2=>?_,fun y hy=>?_,fun y c _ h=>?_,fun _=>hd,Around.frames_deeper e0.frames,.inr ⟨rfl,rfl⟩,fun b z=>absurd z (noA b),e0.bs,e0.bsz,fun b _ _=>noA b,fun b z=>absurd z (noA b),e0.lM,e0.frf⟩,
  rfl,e0.bare,Un.kept hk,⟨_,x.toInCall.ns,fun i y v h1 h2 h3=>?_⟩,fun y c h=>⟨_,x.cell y c h⟩,e0.hok.fresh (d_ _),fun y c h=>?_,fun p hp=>absurd (show p∈([]:List (Nh × Obj))from hp) (by simp),e0.hok.kept hk,?_⟩
 ·exact name_of_addr x.apart (OD h1) (OD h2)
 ·have hy:scope.names.lookup y=some .cell\/scope.names.lookup y=some .free:=hy
  rcases hy with hy | hy
  ·exact rW hy
  exact absurd rfl (S.nofree _ (OD hy))
 ·exact Jd (x.above y c (OD h))
 ·have hi:i < vs.length:=by
   unfold start at h2
   by_cases hi:i < vs.length
   ·exact hi
   rw[Ju (by simpa using hi)]at h2
   rw[List.getElem?_replicate]at h2
   split at h2 <;> cases h2
  have ha:vs[i]?=some v:=by
   unfold start at h2
   rw[JG (by simpa using hi),A']at h2
   cases e:vs[i]? with
   | none=>rw[e]at h2;cases h2
   | some a=>rw[e]at h2;cases h2;rfl
  obtain⟨u,hu,rv⟩:=r.get ha
  have hp:ps[i]?=some y:=by
   rw[<-S.pre,JU (by lia)];exact h1
  have ndP:ps.Nodup:=by rw[<-S.pre];exact S.nd.sublist (Ks _ _)
  refine⟨u,rv,?_⟩
  rcases S.par y (y_ hp)with k | k
  ·exact .inl ⟨k,nR ndP hp hu k⟩
  obtain⟨c,e⟩:=rW (n:=s.heap.objs.size + 1) k
  refine .inr ⟨.inl k,c,e,?_⟩
  have q:=x.cell y c e
  rw[n9 ndP hp hu (by show scope.names.lookup y≠_;rw[k];decide)]at q
  exact q
 ·exact e0.hok.fresh (Jd (x.above y c (OD h)))
 unfold start
 show _=N.length
 rw[j',b_,Kw]
 lia
theorem Hg{CX:CXT}{P:Nv}{w:NA}{K:Ng}{mg:Str->Option Nf}{base:NB}{k:Nat}{f:Nh}{name qual:Str}{params:Arguments}{body:List NZ}{scope:Oo}{dV kV doc pm cdv ct oc:Nf}{an od:Option Nh}
  {osl:Array (Option Nf)} {N ps:List Str} {sp:Sp} (lk:K.lookup f=some ⟨oc,od,.func (OU name qual params body scope dV kV doc pm an cdv ct),osl⟩) (hcd:Qz K cdv qual=true) (S:FnScope N ps scope)
  (len:∀ vs H Q E,sp vs H Q E->vs.length=ps.length)
  (hbody:∀(A:NH) (outer:List Env) (s:Ni) (H:Hp) (vs:List V) (Q:VK) (E:XK),Room k (A.deeper (Qq qual scope s.heap.objs.size f cdv))->sp vs H Q E->
   ∃ t,PSs (sU CX P w K mg base N qual scope f cdv A outer s H E) body t/\t { nx:=fun _ H'=>Q .non H',rt:=Q } (start N vs) H) :
  FnOk P w K mg base CX (k + 1) f (OU name qual params body scope dV kV doc pm an cdv ct) ps sp:=by
 refine⟨len,fun A outer s H args us vs Q E hr e0 hb r hsp=>?_⟩
 have hl:=len _ _ _ _ hsp
 have KX:K.In s.heap:=e0.mod.kin.keeps fun b o e=>(e0.bs b o e).1
 have lim:s.heap.NoLimit:=e0.mod.nolimit.keeps fun b o e=>(e0.bs b o e).1
 have hkind:∀ y∈ps.zip us,scope.names.lookup y.1=some .local\/(scope.names.lookup y.1=some .cell/\((Uc (s.heap.objs.size + 1) scope.names []).lookup y.1).isSome=true):=fun⟨n,v⟩ hy=>by
  rcases S.par n (L_ hy).1 with q | q
  ·exact .inl q
  exact .inr ⟨q,Ry _ _ _ (.inl q)⟩
 refine codeAny_call_function hr.depth (KX _ _ lk) rfl S.co S.gen rfl (PySem.W.codeRec_of KX hcd) (hb _ _ _ _ ?_)
 refine wpAny_newFunctionEnv_cells S.kind hkind fun env he s1 x=>?_
 subst he
 refine⟨lim.keeps x.toInCall.keep,codeAny_func ?_⟩
 obtain⟨t,ht,hq⟩:=hbody A outer s H vs Q E (hr.deeper _) hsp
 have I:Inv (sU CX P w K mg base N qual scope f cdv A outer s H E) [] (start N vs) H s1:=w6 S hr.hd e0 hl r x
 refine NN (ht [] s1 (start N vs) H _ I hq) (fun fl s' hs=>?_) fun e s' hs=>hs
 have fin:∀ {σ':St} {H':Hp} {v:V} {u:Nf},Inv (sU CX P w K mg base N qual scope f cdv A outer s H E) [] σ' H' s'->RelV v u->Q v H'->CE outer P w H s Q u s':=
  fun{σ' H' v u} J rv q=>⟨v,H',J.os,J.bare,J.base,J.hok,rv,q⟩
 cases fl with
 | ret u=>
  obtain⟨v,σ',H',J,rv,q⟩:=hs
  exact fin J rv q
 | next=>
  obtain⟨σ',H',J,q⟩:=hs
  exact fin (v:=V.non) (u:=NR) J rfl q
 | brk=>
  obtain⟨_,_,_,q⟩:=hs
  exact NC q
 | cont=>
  obtain⟨_,_,_,q⟩:=hs
  exact NC q
section
variable{X:Cx}{x:Str}{p pos:Pos}{e:Nz}{es:List Nz}{t:TA}{id T:String}{r:List V->Hp->VK->Prop}
def tCB(r:List V->Hp->VK->Prop)(t:TA):TE:=fun σ H Q=>t σ H fun vs H1=>r vs H1 Q
theorem aQ(hc:bh X (.builtin id) r)(hg:Gl X x)(hm:X.mg x=none)(hv:O5 x=some (.builtin id))(ha:PA X (e::es) t)(hn:x≠"__name__":=by decide)(hdb:(x ==("__debug__":Str))=false:=by decide)
  (he:NF (e::es) X.env=(false,NS e X.env)::NF es X.env:=by rfl) (hpl:(Pt pos (NF es X.env)).any (·.1)=false:=by rfl):PE X (.Call (.Name x p) (e::es) [] pos) (tCB r t):=by
 intro pins s σ H Q I h
 refine Ou (cp I hg hm hv ?_ hn hdb)
 exact Tr (thn (ha pos pins s σ H _ I h) fun us s1 ⟨vs,H1,I1,r1,q1⟩=>hc pins s1 σ H1 vs us Q I1 r1 q1) he hpl
theorem ny(hc:bh X (.type T) r)(hg:Gl X x)(hm:X.mg x=none)(hv:O5 x=some (.type T))(ha:PA X (e::es) t)(hn:x≠"__name__":=by decide)(hdb:(x ==("__debug__":Str))=false:=by decide)
  (he:NF (e::es) X.env=(false,NS e X.env)::NF es X.env:=by rfl) (hpl:(Pt pos (NF es X.env)).any (·.1)=false:=by rfl):PE X (.Call (.Name x p) (e::es) [] pos) (tCB r t):=by
 intro pins s σ H Q I h
 refine Ou (cp I hg hm hv ?_ hn hdb)
 exact OQ (thn (ha pos pins s σ H _ I h) fun us s1 ⟨vs,H1,I1,r1,q1⟩=>hc pins s1 σ H1 vs us Q I1 r1 q1) he hpl
end
end L2
namespace HT
open PySem PyProof.Rows
section
variable{prog:Nv}{w:NA}{A:NH}{E:Nf->Ni->Prop}{s:Ni}
theorem BX{t b:Nh}{vs ws:List Nf}{Q:Nf->Ni->Prop}(ht:Uz s.heap t vs.toArray)(hb:Uz s.heap b ws.toArray)(hv:vs≠[])
  (h1:ws=[]->Q (.ref t) s) (h2:ws≠[]->Q (.ref s.heap.objs.size) { s with heap:=s.heap.push { cls:=.type "tuple",data:=.seq (vs++ws).toArray } })
  (hsz:vs.length + ws.length<=sizeLine):Nl (Nq prog w) A (N9 .Add (.ref t) (.ref b)) Q E s:=by
 obtain⟨⟨cls,dd,data,sl⟩,ho,hc,n,hd⟩:=id ht
 obtain⟨⟨cls2,dd2,data2,sl2⟩,ho2,hc2,n2,hd2⟩:=id hb
 simp only at hc hd hc2 hd2
 subst hc hd hc2 hd2
 have e:vs.toArray++ws.toArray=(vs++ws).toArray:=by simp
 by_cases hw:ws=[]
 ·exact Sn ⟨_,ho,rfl⟩ ⟨_,ho2,rfl⟩ Q3 R8 Qk Qc (P4 _ _)
   (tuple_addW1 t b vs.toArray ws.toArray n n2 dd dd2 sl sl2 (by simpa using hv) (by simp[hw])) ⟨ho,ho2,h1 hw⟩
 refine Sn ⟨_,ho,rfl⟩ ⟨_,ho2,rfl⟩ Q3 R8 Qk Qc (P4 _ _)
  (tuple_addW2 t b vs.toArray ws.toArray n n2 dd dd2 sl sl2 (by simpa using hv) (by simpa using hw) (by rw[q_,q_];exact hsz)) ⟨ho,ho2,?_⟩
 rw[e]
 exact h2 hw
def sIx(n d:Nat):Option Int->Nat
 | none=>d
 | some v=>if v < 0 then(v + (n:Int)).toNat else min v.toNat n
theorem xB(n d:Nat):sIx n d none=d:=rfl
theorem BI(n d k:Nat):sIx n d (some (k:Int))=min k n:=by
 show(if(k:Int) < 0 then((k:Int) + (n:Int)).toNat else min (k:Int).toNat n)=min k n
 rw[if_neg (by lia),C_]
theorem Dp(n d:Nat)(hd:d<=n)(o:Option Int):sIx n d o<=n:=by
 cases o with
 | none=>exact hd
 | some v=>
  show(if v < 0 then(v + (n:Int)).toNat else min v.toNat n)<=n
  by_cases hv:v < 0
  ·rw[if_pos hv];lia
  rw[if_neg hv];exact Nat.min_le_right _ _
theorem vN(v:Int)(n d:Nat):(if v < 0 then max (v + (n:Int)) 0 else min v (n:Int))=((sIx n d (some v):Nat):Int):=by
 show(if v < 0 then max (v + (n:Int)) 0 else min v (n:Int))=(((if v < 0 then(v + (n:Int)).toNat else min v.toNat n):Nat):Int)
 by_cases hv:v < 0
 ·simp only[if_pos hv];lia
 simp only[if_neg hv];lia
theorem t5(lo hi:Option Int)(n:Nat):PX lo hi 1 (n:Int)=(((sIx n 0 lo:Nat):Int),((sIx n n hi:Nat):Int)):=by
 have h1:¬((1:Int) < 0):=by lia
 unfold PX
 simp only[h1,if_false]
 refine Prod.ext ?_ ?_
 ·cases lo with
  | none=>rfl
  | some v=>exact vN v n 0
 cases hi with
 | none=>rfl
 | some v=>exact vN v n n
theorem sO(i j:Nat):O0 (i:Int) (j:Int) 1=j - i:=by
 unfold O0
 have h1:(1:Int) > 0:=by lia
 simp only[h1,if_true,M0]
 split <;> lia
theorem lN{v:Nf}{o:Option Int}{Q:Option Int->Ni->Prop}(p:Q4 v o)(h:Q o s):Nl (Nq prog w) A (T1 v) Q E s:=by
 cases p with
 | none=>exact T3 h
 | int i t=>exact slicePart_int h
theorem jg{sl:Nh}{vl vu:Nf}{lo hi:Option Int}{n:Nat}{Q:Int × Int × Nat->Ni->Prop}(hs:s.heap.IsSliceOf sl vl vu .none)(pl:Q4 vl lo)(pu:Q4 vu hi)
  (h:Q (((sIx n 0 lo:Nat):Int),1,sIx n n hi - sIx n 0 lo) s):Nl (Nq prog w) A (QP (.ref sl) (pure (n:Int))) Q E s:=by
 obtain⟨os,hos,hcs,hds⟩:=id hs
 unfold QP UM
 refine Nd (Nd (Oi hos hds (x:=vl) rfl (Nd (Oi hos hds (x:=vu) rfl (Nd (Oi hos hds (x:=.none) rfl (Nj ?_)))))))
 refine Nd (T3 ?_)
 show Nl _ _ (if((1:Int) == 0)=true then _ else _) _ _ s
 rw[if_neg (by decide)]
 refine Nd (lN pl (Nd (lN pu (Nd (Nj ?_)))))
 show Nl _ _ (match PX lo hi 1 (n:Int)with | (lo,hi)=>pure (lo,(1:Int),O0 lo hi 1)) _ _ s
 rw[t5 lo hi n]
 show Nl _ _ (pure (((sIx n 0 lo:Nat):Int),(1:Int),O0 ((sIx n 0 lo:Nat):Int) ((sIx n n hi:Nat):Int) 1)) _ _ s
 rw[sO]
 exact Nj h
theorem y4(xs:Array Nf)(i k:Nat):((o_ k).filterMap fun(m:Nat)=>xs[((i:Int) + (m:Int) * 1).toNat]?).toArray=((xs.toList.drop i).take k).toArray:=by
 have e:(fun(m:Nat)=>xs[((i:Int) + (m:Int) * 1).toNat]?)=fun m=>xs[i + m]?:=by
  funext m
  have:((i:Int) + (m:Int) * 1).toNat=i + m:=by lia
  rw[this]
 rw[e]
 have:=pick_run xs i k
 rw[List.filterMap_map]at this
 have e2:((fun x=>xs[x]?) ∘ fun x=>i + x)=fun m=>xs[i + m]?:=rfl
 rw[e2]at this
 rw[this]
theorem gS{t sl:Nh}{items:Array Nf}{vl vu:Nf}{lo hi:Option Int}{Q:Nf->Ni->Prop}(ht:Uz s.heap t items)(hs:s.heap.IsSliceOf sl vl vu .none)(pl:Q4 vl lo)(pu:Q4 vu hi)
  (hw:¬(sIx items.size 0 lo=0/\sIx items.size items.size hi=items.size))
  (h:Q (.ref s.heap.objs.size) { s with heap:=s.heap.push { cls:=.type "tuple",data:=.seq ((items.toList.drop (sIx items.size 0 lo)).take (sIx items.size items.size hi - sIx items.size 0 lo)).toArray } })
  (hsz:items.size<=sizeLine):Nl (Nq prog w) A (QA (.ref t) (.ref sl)) Q E s:=by
 have htake:sizeOk (.seq ((items.toList.drop (sIx items.size 0 lo)).take (sIx items.size items.size hi - sIx items.size 0 lo)).toArray):=by
  show((items.toList.drop (sIx items.size 0 lo)).take (sIx items.size items.size hi - sIx items.size 0 lo)).toArray.size<=sizeLine
  rw[q_,Jc,Jl,f']
  omega
 have hj:sIx items.size items.size hi<=items.size:=Dp _ _ (d_ _) hi
 obtain⟨os,hos,hcs,hds⟩:=id hs
 have hTs:s.TypeIs (.ref sl) "slice":=⟨os,hos,hcs⟩
 unfold QA
 try with_reducible refine NJ ?_
 first | refine Nd (Nj ?_) | skip
 refine Nd (wpAny_sequenceKey ht.typeIs (by decide) ?_)
 refine Nd (N0 (name:=N7 "__getitem__") ht.typeIs Pb
  (NX Pb ht.typeIs entry_tuple_getitem ?_ (args_tuple_getitem _ _)))
 show Nl _ _ (Uk (.ref t) >>= _) _ _ s
 refine Nd (tupleItemsOf_ ht ?_)
 refine Nd (So hTs ?_)
 rw[if_pos (by decide)]
 refine Nd (jg hs pl pu ?_)
 have hno:¬((((sIx items.size 0 lo:Nat):Int) == 0 && (1:Int) == 1 && (sIx items.size items.size hi - sIx items.size 0 lo) == items.size)=true):=by
  intro q
  rw[E_,E_]at q
  have q1:((sIx items.size 0 lo:Nat):Int)=0:=eq_of_beq q.1.1
  have q2:sIx items.size items.size hi - sIx items.size 0 lo=items.size:=eq_of_beq q.2
  exact hw ⟨by lia,by lia⟩
 show Nl _ _ (if(((sIx items.size 0 lo:Nat):Int) == 0 && (1:Int) == 1 && (sIx items.size items.size hi - sIx items.size 0 lo) == items.size)=true then _ else _) _ _ s
 rw[if_neg hno,y4]
 first
  | exact Nd (m:=O7 _) (NI (Nj ⟨_,rfl,Nj h⟩) htake)
  | exact Nd (m:=O7 _) (NI (Nd (Nj (Nj ⟨_,rfl,Nj h⟩))) htake)
  | exact Nd (Nd (m:=O7 _) (NI (Nj (Nj ⟨_,rfl,Nj h⟩)) htake))
  | exact Nd (Nd (m:=O7 _) (NI (Nj ⟨_,rfl,Nj h⟩) htake))
end
end HT
namespace L2
open PySem PySem.Spec PyProof.Rows
abbrev TO:=St->Hp->(Option Int->Hp->Prop)->Prop
noncomputable def PO(X:Cx)(e:Option Nz)(t:TO):Prop:=
 ∀(pins:List (Nh × Obj)) (s:Ni) (σ:St) (H:Hp) (Q:Option Int->Hp->Prop),Inv X pins σ H s->t σ H Q->
  Nl (Nq X.prog X.w) X.A (evalPart e X.env) (fun u s'=>∃ o H',Inv X pins σ H' s'/\Q4 u o/\Q o H') X.xe s
def AX:TO:=fun _ H Q=>Q none H
def Ht(t:TE):TO:=fun σ H Q=>t σ H fun x H1=>∃ i,x=.int i/\Q (some i) H1
theorem intsAre_of{ns:List Int}:∀ {us:List Nf},Vals (ns.map V.int) us->IntsAre us ns:=by
 induction ns with
 | nil=>intro us r;rw[Kx]at r;cases r;exact .nil
 | cons n ns ih=>
  intro us r
  rw[f_]at r
  cases r with
  | cons r1 r2=>
   obtain⟨t,e⟩:=r1
   subst e
   exact .cons n t (ih r2)
section
variable{X:Cx}{e:Nz}{te:TE}{lo hi:Option Nz}{tl th:TO}{pos p2:Pos}
theorem vA:PO X none AX:=by
 intro pins s σ H Q I h
 rw[Ul]
 exact Nj ⟨none,H,I,.none,h⟩
theorem uL(h:PE X e te):PO X (some e) (Ht te):=by
 intro pins s σ H Q I hw
 rw[evalPart_some]
 refine thn (h pins s σ H _ I hw) ?_
 rintro u s1 ⟨x,H1,I1,r1,q1⟩
 obtain⟨i,rfl,q⟩:=q1
 obtain⟨t,rfl⟩:=r1
 exact⟨some i,H1,I1,.int i t,q⟩
noncomputable def SlR(X:Cx)(r:V->Option Int->Option Int->Hp->VK->Prop):Prop:=
 ∀(pins:List (Nh × Obj)) (s:Ni) (σ:St) (H:Hp) (x:V) (v vl vu:Nf) (lo hi:Option Int) (sl:Nh) (Q:VK),Inv X pins σ H s->RelV x v->s.heap.IsSliceOf sl vl vu .none->Q4 vl lo->Q4 vu hi->r x lo hi H Q->
  ∃ T id,typeLookup (.type T) "__getitem__"=pure (some (.builtin id))/\s.TypeIs v T/\Nl (Nq X.prog X.w) X.A (QA v (.ref sl)) (EP X pins σ Q) X.xe s
noncomputable def tSl(r:V->Option Int->Option Int->Hp->VK->Prop)(te:TE)(tl th:TO):TE:=fun σ H Q=>te σ H fun x H1=>tl σ H1 fun l H2=>th σ H2 fun u H3=>r x l u H3 Q
theorem qO{r:V->Option Int->Option Int->Hp->VK->Prop}(hr:SlR X r)(he:PE X e te)(hl:PO X lo tl)(hu:PO X hi th):PE X (.Subscript e (.Slice lo hi none p2) pos) (tSl r te tl th):=by
 intro pins s σ H Q I h
 refine Ts (thn (he pins s σ H _ I h) ?_)
 rintro v s1 ⟨x,H1,I1,r1,q1⟩
 refine wpAny_Slice (thn (hl pins s1 σ H1 _ I1 q1) fun vl s2 ⟨l,H2,I2,pl,q2⟩=>thn (hu pins s2 σ H2 _ I2 q2) ?_)
 rintro vu s3 ⟨u,H3,I3,pu,q3⟩
 rw[Ul]
 refine Nj ?_
 have I4:Inv X pins σ H3 { s3 with heap:=s3.heap.push { cls:=.type "slice",data:=.fields #[vl,vu,.none] } }:=I3.kept (t':=s3.toks) fun b ob q=>Nk _ q
 obtain⟨T,id,hT,ht,hg⟩:=hr pins { s3 with heap:=s3.heap.push { cls:=.type "slice",data:=.fields #[vl,vu,.none] } } σ H3 x v vl vu l u s3.heap.objs.size Q I4 r1 (VO ..) pl pu q3
 show Nl (Nq X.prog X.w) X.A (Ql e (.Slice lo hi none p2) v (.ref s3.heap.objs.size)) (EP X pins σ Q) X.xe { s3 with heap:=s3.heap.push { cls:=.type "slice",data:=.fields #[vl,vu,.none] } }
 exact tail_any (ops:=[.ref s3.heap.objs.size,v]) ht hT hg (by with_unfolding_all rfl)
noncomputable def eL(xs:List V)(lo hi:Option Int):List V:=(xs.drop (HT.sIx xs.length 0 lo)).take (HT.sIx xs.length xs.length hi - HT.sIx xs.length 0 lo)
theorem jX(xs:List V)(lo hi:Option Int):(eL xs lo hi).length<=xs.length:=by
 unfold eL
 rw[Jc,Jl]
 lia
noncomputable def IX(K:Ng):V->Option Int->Option Int->Hp->VK->Prop:=fun x lo hi H Q=>∃ a xs,x=.ref a/\SqT K H a xs/\
 ¬(HT.sIx xs.length 0 lo=0/\HT.sIx xs.length xs.length hi=xs.length)/\∀ p,H p=none->Q (.ref p) (upd H p (.tup (eL xs lo hi)))
theorem Fy:SlR X (IX X.K):=by
 intro pins s σ H x v vl vu lo hi sl Q I rx hs pl pu h
 obtain⟨a,xs,rfl,hx,hw,q⟩:=h
 cases rx
 obtain⟨its,r,ht,hz⟩:=I.tuple hx
 have hlen:its.toArray.size=xs.length:=by rw[q_];exact r.length.symm
 refine⟨"tuple",_,Pb.lookup,ht.typeIs,?_⟩
 refine HT.gS ht hs pl pu (by rw[hlen];exact hw) ?_ (by rw[hlen];exact hz)
 rw[hlen]
 refine⟨.ref s.heap.objs.size,_,I.laid (t':=s.toks) (o:=.tup (eL xs lo hi)) (fun b ob q=>Nk _ q) (d_ _) ?_,rfl,q _ (I.hok.fresh (d_ _))⟩
 exact⟨v_ (jX xs lo hi) hz,_,(r.drop (HT.sIx xs.length 0 lo)).take (HT.sIx xs.length xs.length hi - HT.sIx xs.length 0 lo),Sh _ _⟩
noncomputable def He(K:Ng):R2:=fun x y H Q=>∃ a b xs ys,x=.ref a/\y=.ref b/\SqT K H a xs/\SqT K H b ys/\xs≠[]/\xs.length + ys.length<=sizeLine/\
 (ys=[]->Q (.ref a) H)/\(ys≠[]->∀ p,H p=none->Q (.ref p) (upd H p (.tup (xs++ys))))
theorem Vals.oO {xs:List V}{us:List Nf}(r:Vals xs us):us=[]↔xs=[]:=by
 cases r with
 | nil=>simp
 | cons _ _=>simp
theorem Bi:OpR X (N9 .Add) (He X.K):=by
 intro pins s σ H x y v u Q I rx ry h
 obtain⟨a,b,xs,ys,rfl,rfl,ha,hb,hx,hz,q1,q2⟩:=h
 cases rx
 cases ry
 obtain⟨its,r1,p1,_⟩:=I.tuple ha
 obtain⟨its2,r2,p2,_⟩:=I.tuple hb
 refine HT.BX p1 p2 (fun z=>hx (r1.oO.mp z)) (fun z=>⟨.ref a,H,I,rfl,q1 (r2.oO.mp z)⟩) (fun z=>?_) (by rw[<-r1.length,<-r2.length];exact hz)
 refine⟨.ref s.heap.objs.size,_,I.laid (t':=s.toks) (o:=.tup (xs++ys)) (fun b ob q=>Nk _ q) (d_ _) ?_,rfl,q2 (fun w=>z (r2.oO.mpr w)) _ (I.hok.fresh (d_ _))⟩
 exact⟨by rw[j'];exact hz,_,r1.append r2,Sh _ _⟩
theorem jW:bh X (.type "tuple") (fun xs H Q=>∃ a ys,xs=[.ref a]/\SqT X.K H a ys/\Q (.ref a) H):=by
 intro pins s σ H xs us Q I r h
 obtain⟨a,ys,rfl,ha,q⟩:=h
 obtain⟨u,rfl,ru⟩:=vals1 r
 cases ru
 obtain⟨its,_,p1,_⟩:=I.tuple ha
 exact Tt (items:=its.toArray) p1 ⟨.ref a,H,I,rfl,q⟩
end
noncomputable def ixN(n:Nat)(i:Int):Option Nat:=if 0<=i then(if i < n then some i.toNat else none)else if -(n:Int)<=i then some (i + n).toNat else none
def atI{α:Type}(xs:List α)(i:Int):Option α:=(ixN xs.length i).bind fun j=>xs[j]?
theorem pP{n:Nat}{i:Int}{j:Nat}(h:ixN n i=some j):Ud i n=some j/\j < n/\-(n:Int)<=i/\i < n:=by
 unfold ixN at h
 by_cases h0:0<=i
 ·rw[if_pos h0]at h
  by_cases h1:i < n
  ·rw[if_pos h1]at h
   have e:i.toNat=j:=D_ h
   exact⟨by rw[SY h0 h1,e],by lia,by lia,h1⟩
  rw[if_neg h1]at h;cases h
 rw[if_neg h0]at h
 by_cases h1:-(n:Int)<=i
 ·rw[if_pos h1]at h
  have e:(i + n).toNat=j:=D_ h
  exact⟨by rw[Sr (by lia) h1,e],by lia,h1,by lia⟩
 rw[if_neg h1]at h;cases h
theorem pY{α:Type}{xs:List α}{i:Int}{v:α}(h:atI xs i=some v):∃ j,Ud i xs.length=some j/\xs[j]?=some v/\j < xs.length/\-(xs.length:Int)<=i/\i < xs.length:=by
 unfold atI at h
 cases e:ixN xs.length i with
 | none=>rw[e]at h;cases h
 | some j=>
  rw[e]at h
  obtain⟨h1,h2,h3,h4⟩:=pP e
  exact⟨j,h1,h,h2,h3,h4⟩
theorem kx{α:Type}{xs:List α}{j:Nat}{v:α}(h:xs[j]?=some v):atI xs (j:Int)=some v:=by
 have hj:j < xs.length:=(c_.mp h).1
 have e:ixN xs.length (j:Int)=some j:=by
  unfold ixN
  rw[if_pos (by lia),if_pos (by lia)];simp
 unfold atI;rw[e];exact h
def vb(b:Nz):Prop:=∀ o i,QF b false o i=Vw [o,i] (QA o i)
noncomputable def IxR(X:Cx)(r:R2):Prop:=
 ∀(value slice:Nz) (pins:List (Nh × Obj)) (s:Ni) (σ:St) (H:Hp) (x y:V) (v u:Nf) (Q:VK),Inv X pins σ H s->RelV x v->RelV y u->r x y H Q->
  QF slice false v u=Vw [v,u] (QA v u)->Nl (Nq X.prog X.w) X.A (Ql value slice v u) (EP X pins σ Q) X.xe s
noncomputable def MtR(X:Cx)(id:String)(r:V->List V->Hp->VK->Prop):Prop:=
 ∀(pins:List (Nh × Obj)) (s:Ni) (σ:St) (H:Hp) (x:V) (xs:List V) (v:Nf) (us:List Nf) (Q:VK),Inv X pins σ H s->RelV x v->Vals xs us->r x xs H Q->
  Nl (Nq X.prog X.w) X.A (call (.builtin id) (v::us)) (EP X pins σ Q) X.xe s
section
variable{X:Cx}{a b:Nz}{ta tb:TE}{pos:Pos}
theorem IxR.or {r r':R2}(h:IxR X r)(h':IxR X r'):IxR X (fun x y H Q=>r x y H Q\/r' x y H Q):=by
 intro value slice pins s σ H x y v u Q I rx ry q hs
 rcases q with q | q
 ·exact h value slice pins s σ H x y v u Q I rx ry q hs
 exact h' value slice pins s σ H x y v u Q I rx ry q hs
theorem D8{r:R2}(hr:IxR X r)(ha:PE X a ta)(hb:PE X b tb)(hs:vb b):PE X (.Subscript a b pos) (tOp r ta tb):=by
 intro pins s σ H Q I h
 exact Ts (EX ha hb I h fun v u s2 x y H2 I2 rx ry q=>hr a b pins s2 σ H2 x y v u Q I2 rx ry q (hs _ _))
def Ig(K:Ng):R2:=fun x y H Q=>∃ p xs i v,x=.ref p/\y=.int i/\SqL K H p xs/\atI xs i=some v/\Q v H
def HG(K:Ng):R2:=fun x y H Q=>∃ p xs i v,x=.ref p/\y=.int i/\SqT K H p xs/\atI xs i=some v/\Q v H
def Hs:R2:=fun x y H Q=>∃ z i c,x=.str z/\y=.int i/\z.length<=sizeLine/\atI z.cps.toList i=some c/\Q (.str ⟨#[c]⟩) H
theorem vw:IxR X (Ig X.K):=by
 intro value slice pins s σ H x y v u Q I rx ry h hs
 obtain⟨p,xs,i,z,rfl,rfl,hq,he,q⟩:=h
 cases rx
 obtain⟨t,rfl⟩:=ry
 obtain⟨its,r,pl,hz⟩:=I.list hq
 obtain⟨j,h1,h2,h3,h4,h5⟩:=pY he
 obtain⟨w,ew,rw'⟩:=r.get h2
 have hl:=r.length
 have hn:=gA
 have fin:EP X pins σ Q w s:=⟨z,H,I,rw',q⟩
 by_cases h0:0<=i
 ·have hj:i.toNat=j:=by
   rw[SY h0 h5]at h1
   exact D_ h1
  exact item_listR pl.isList h0 (by lia) (by rw[hj];simpa using ew) fin hs
 have hj:(i + (its.toArray.size:Int)).toNat=j:=by
  rw[Sr (by lia) h4]at h1
  rw[q_,<-hl]
  exact D_ h1
 exact RA (x:=w) pl.isList.typeIs slot_list_getitem.lookup
  (wpAny_getItem_list_neg (Q:=fun r s'=>r=w/\EP X pins σ Q r s') pl.isList (by lia) (by rw[q_] <;> lia) (by lia) (by rw[hj];simpa using ew) ⟨rfl,fin⟩) hs
theorem FU:IxR X (HG X.K):=by
 intro value slice pins s σ H x y v u Q I rx ry h hs
 obtain⟨p,xs,i,z,rfl,rfl,hq,he,q⟩:=h
 cases rx
 obtain⟨t,rfl⟩:=ry
 obtain⟨its,r,pl,hz⟩:=I.tuple hq
 obtain⟨j,h1,h2,h3,h4,h5⟩:=pY he
 obtain⟨w,ew,rw'⟩:=r.get h2
 have hl:=r.length
 have hn:=gA
 have fin:EP X pins σ Q w s:=⟨z,H,I,rw',q⟩
 exact RA (x:=w) pl.typeIs slot_tuple_getitem.lookup
  (getItem_tuple (j:=j) (Q:=fun r s'=>r=w/\EP X pins σ Q r s') pl (by lia) (by lia) (by rw[q_,<-hl];exact h1) (by simpa using ew) ⟨rfl,fin⟩) hs
theorem Ag:IxR X Hs:=by
 intro value slice pins s σ H x y v u Q I rx ry h hs
 obtain⟨z,i,c,rfl,rfl,hz,he,q⟩:=h
 obtain⟨t,rfl⟩:=rx
 obtain⟨t',rfl⟩:=ry
 obtain⟨j,h1,h2,h3,h4,h5⟩:=pY he
 have hl:z.cps.toList.length=z.length:=by simp[Str.length]
 rw[hl]at h1 h4 h5
 have hn:=gA
 exact tail_any (typeIs_str s z t) slot_str_getitem.lookup (getItem_str (c:=c) (by
  have e1:decide (i < -(2 ^ 63:Int))=false:=decide_eq_false (by lia)
  have e2:decide (i>=2 ^ 63)=false:=decide_eq_false (by lia)
  rw[e1,e2,MW]) (by rw[h1];simpa using h2) ⟨.str ⟨#[c]⟩,H,I.tok _,⟨_,rfl⟩,q⟩) hs
def rIx(K:Ng):R2:=fun x y H Q=>Ig K x y H Q\/HG K x y H Q\/Hs x y H Q
theorem F2:IxR X (rIx X.K):=vw.or (FU.or Ag)
theorem tS(its:List Nf)(n j:Nat)(u:Nf):N8 (·.setIfInBounds j u) { cls:=.type "list",data:=.seq its.toArray n }={ cls:=.type "list",data:=.seq (its.set j u).toArray n }:=by
 simp[N8]
theorem Inv.lst {pins:List (Nh × Obj)}{σ:St}{H:Hp}{s:Ni}{p:Nh}{xs:List V}(I:Inv X pins σ H s)(h:H p=some (.lst xs)) :
  ∃(its:List Nf) (n:Nat),Vals xs its/\s.heap.get? p=some { cls:=.type "list",data:=.seq its.toArray n }/\xs.length<=sizeLine:=by
 obtain⟨z,its,n,r,e⟩:=I.hok p _ h
 exact⟨its,n,r,e,z⟩
theorem Inv.DB {pins:List (Nh × Obj)}{σ:St}{H:Hp}{s:Ni}{p:Nh}{xs ys:List V}{its its':List Nf}{n n':Nat}{f:Obj->Obj}(I:Inv X pins σ H s)(h:H p=some (.lst xs))
  (ho:s.heap.get? p=some { cls:=.type "list",data:=.seq its.toArray n }) (hf:f { cls:=.type "list",data:=.seq its.toArray n }={ cls:=.type "list",data:=.seq its'.toArray n' }) (r:Vals ys its') (hz:ys.length<=sizeLine) (t:Nat) :
  Inv X pins σ (upd H p (.lst ys)) { s with heap:=s.heap.update p f,toks:=t }:=by
 have e:(s.heap.update p f).get? p=some { cls:=.type "list",data:=.seq its'.toArray n' }:=by
  rw[NU f ho (by rw[hf] <;> rfl),hf]
 refine I.write (x:=p) (e:=p) (by rw[h];trivial) (.inl rfl) (fun b u hb q=>(NM _ _ (Oq hb)).trans q) ⟨_,e⟩ ?_
 exact⟨hz,its',n',r,e⟩
noncomputable def GJ:V->V->V->Hp->(Hp->Prop)->Prop:=fun o i v H Q=>∃ p xs k j,o=.ref p/\i=.int k/\H p=some (.lst xs)/\ixN xs.length k=some j/\Q (upd H p (.lst (xs.set j v)))
theorem set_list:sZ X GJ:=by
 intro pins s σ H o i v ov iv u Q I ro ri rv h
 obtain⟨p,xs,k,j,rfl,rfl,hp,hj,q⟩:=h
 cases ro
 obtain⟨t,rfl⟩:=ri
 obtain⟨its,n,r,ho,hz⟩:=I.lst hp
 obtain⟨h1,h2,h3,h4⟩:=pP hj
 have hl:=r.length
 have hn:=gA
 have I':Inv X pins σ (upd H p (.lst (xs.set j v))) { s with heap:=s.heap.update p (N8 (·.setIfInBounds j u)) }:=
  I.DB hp ho (tS its n j u) (r.set rv j) (by rw[Jg];exact hz) s.toks
 by_cases h0:0<=k
 ·have hk:k.toNat=j:=by
   rw[SY h0 h4]at h1
   exact D_ h1
  exact PySem.W.ki_setAt ho h0 (by lia) (by rw[q_,<-hl];exact h4) (by rw[hk];exact⟨_,I',q⟩)
 have hk:(k + (its.toArray.size:Int)).toNat=j:=by
  rw[Sr (by lia) h3]at h1
  rw[q_,<-hl]
  exact D_ h1
 exact PySem.W.ki_setBack ho (by lia) (by rw[q_,<-hl];exact h3) (by lia) (by rw[hk];exact⟨_,I',q⟩)
theorem pB(lo hi:Option Int)(n:Nat):(PQ lo hi none n).1=((HT.sIx n 0 lo:Nat):Int)/\(PQ lo hi none n).2.1=((HT.sIx n n hi:Nat):Int)/\(PQ lo hi none n).2.2=1:=by
 refine⟨?_,?_,rfl⟩
 ·cases lo with
  | none=>simp[PQ,HT.sIx]
  | some i=>
   simp only[PQ,HT.sIx,MK,show(1:Int) > 0 by decide,if_true]
   by_cases h:i < 0
   ·simp only[h,if_true] <;> lia
   simp only[h,if_false] <;> lia
 cases hi with
 | none=>simp[PQ,HT.sIx]
 | some i=>
  simp only[PQ,HT.sIx,MK,show(1:Int) > 0 by decide,if_true]
  by_cases h:i < 0
  ·simp only[h,if_true] <;> lia
  simp only[h,if_false] <;> lia
theorem mP(its:List Nf)(lo hi:Option Int):slicePick its.toArray lo hi none=((its.drop (HT.sIx its.length 0 lo)).take (HT.sIx its.length its.length hi - HT.sIx its.length 0 lo)).toArray:=by
 obtain⟨h1,h2,h3⟩:=pB lo hi its.toArray.size
 unfold slicePick
 rw[h1,h2,h3]
 simp only[sliceRange_one,pick_run,q_] <;> rfl
noncomputable def IB(K:Ng):V->Option Int->Option Int->Hp->VK->Prop:=fun x lo hi H Q=>∃ a xs,x=.ref a/\SqL K H a xs/\∀ p,H p=none->Q (.ref p) (upd H p (.lst (eL xs lo hi)))
theorem vI:SlR X (IB X.K):=by
 intro pins s σ H x v vl vu lo hi sl Q I rx hs pl pu h
 obtain⟨a,xs,rfl,hx,q⟩:=h
 cases rx
 obtain⟨its,r,ht,hz⟩:=I.list hx
 have hlen:=r.length
 refine⟨"list",_,slot_list_getitem.lookup,ht.isList.typeIs,?_⟩
 refine wpAny_getItem_list_slice ht.isList hs pl pu .none (by simp) ?_ (by rw[q_] <;> lia)
 rw[mP,<-hlen]
 refine⟨.ref s.heap.objs.size,_,I.laid (t':=s.toks) (o:=.lst (eL xs lo hi)) (fun b ob q=>Nk _ q) (d_ _) ?_,rfl,q _ (I.hok.fresh (d_ _))⟩
 exact⟨v_ (jX xs lo hi) hz,_,0,(r.drop (HT.sIx xs.length 0 lo)).take (HT.sIx xs.length xs.length hi - HT.sIx xs.length 0 lo),Np _ rfl⟩
theorem pG:OpR X (NO .NotIn) (fun x y H Q=>∃ i j,x=.str i/\y=.str j/\Q (.bl (!(!(Qb j i 0 j.length 1).isEmpty))) H):=by
 intro pins s σ H x y v u Q I rx ry h
 obtain⟨i,j,rfl,rfl,q⟩:=h
 obtain⟨t,rfl⟩:=rx
 obtain⟨t',rfl⟩:=ry
 exact notIn_str ⟨.bl _,H,I,rfl,q⟩
theorem cu:bh X (.builtin "len") (fun xs H Q=>∃ p ys,xs=[.ref p]/\(SqL X.K H p ys\/SqT X.K H p ys)/\Q (.int ys.length) H):=by
 intro pins s σ H xs us Q I r h
 obtain⟨p,ys,rfl,hq,q⟩:=h
 obtain⟨u,rfl,rx⟩:=vals1 r
 cases rx
 have hn:=gA
 rcases hq with hq | hq
 ·obtain⟨its,r',pl,hz⟩:=I.list hq
  have hlen:=r'.length
  exact Calls.call_len_list pl.isList (by simp only[q_] <;> lia) ⟨.int ys.length,H,I.tok _,⟨s.toks + 1,by rw[q_,hlen]⟩,q⟩
 obtain⟨its,r',pl,hz⟩:=I.tuple hq
 have hlen:=r'.length
 exact len_tuple pl (by simp only[q_] <;> lia) ⟨.int ys.length,H,I.tok _,⟨s.toks + 1,by rw[q_,hlen]⟩,q⟩
theorem oX:bh X (.builtin "len") (fun xs H Q=>∃ z,xs=[.str z]/\z.length<=sizeLine/\Q (.int z.length) H):=by
 intro pins s σ H xs us Q I r h
 obtain⟨z,rfl,hz,q⟩:=h
 obtain⟨u,rfl,t,rfl⟩:=vals1 r
 have hn:=gA
 exact len_str (by lia) ⟨.int z.length,H,I.tok _,⟨_,rfl⟩,q⟩
theorem i6:bh X (.type "list") (fun xs H Q=>∃ p ys,xs=[.ref p]/\(SqL X.K H p ys\/SqT X.K H p ys)/\∀ l,H l=none->Q (.ref l) (upd H l (.lst ys))):=by
 intro pins s σ H xs us Q I r h
 obtain⟨p,ys,rfl,hq,q⟩:=h
 obtain⟨u,rfl,rx⟩:=vals1 r
 cases rx
 have fin:∀(its:List Nf),Vals ys its->ys.length<=sizeLine->∀(h':NB) (c':Nat),(∀ b o',s.heap.get? b=some o'->h'.get? b=some o')->
   h'.get? s.heap.objs.size=some { cls:=.type "list",dict:=none,data:=.seq its.toArray c',slots:=#[] }->EP X pins σ Q (.ref s.heap.objs.size) { s with heap:=h' }:=fun its r' hz h' c' kp e=>
  ⟨.ref s.heap.objs.size,_,I.laid (t':=s.toks) kp (d_ _) (show aZ X.prog X.w _ h' _ (.lst ys)from⟨hz,its,c',r',e⟩),rfl,q _ (I.hok.fresh (d_ _))⟩
 rcases hq with hq | hq
 ·obtain⟨its,r',pl,hz⟩:=I.list hq
  have hlen:=r'.length
  obtain⟨o,ho,hc,n,hd⟩:=pl.isList
  exact Um p (.inl rfl) ho hc hd (fun h' c' kp e=>fin its r' hz h' c' kp e) (by simp only[q_] <;> lia)
 obtain⟨its,r',pl,hz⟩:=I.tuple hq
 have hlen:=r'.length
 obtain⟨o,ho,hc,n,hd⟩:=pl
 exact Um p (.inr rfl) ho hc hd (fun h' c' kp e=>fin its r' hz h' c' kp e) (by simp only[q_] <;> lia)
theorem mU:bh X (.type "tuple") (fun xs H Q=>∃ p ys,xs=[.ref p]/\((SqL X.K H p ys/\∀ l,H l=none->Q (.ref l) (upd H l (.tup ys)))\/(SqT X.K H p ys/\Q (.ref p) H))):=by
 intro pins s σ H xs us Q I r h
 obtain⟨p,ys,rfl,h⟩:=h
 obtain⟨u,rfl,rx⟩:=vals1 r
 cases rx
 rcases h with⟨hq,q⟩ | ⟨hq,q⟩
 ·obtain⟨its,r',pl,hz⟩:=I.list hq
  have hlen:=r'.length
  refine call_tuple_list pl.isList (fun h' kp=>?_) (by simp only[q_] <;> lia)
  have I1:Inv X pins σ H { s with heap:=h' }:=I.kept (t':=s.toks) kp
  have I2:Inv X pins σ (upd H h'.objs.size (.tup ys)) { s with heap:=h'.push { cls:=.type "tuple",data:=.seq its.toArray } }:=
   I1.laid (t':=s.toks) (fun b o e=>Nk _ e) (d_ _) (show aZ X.prog X.w _ _ _ (.tup ys)from⟨hz,its,r',Sh _ _⟩)
  exact⟨.ref h'.objs.size,_,I2,rfl,q _ (I1.hok.fresh (d_ _))⟩
 obtain⟨its,r',pl,hz⟩:=I.tuple hq
 exact Tt pl ⟨.ref p,H,I,rfl,q⟩
noncomputable def tyV(K:Ng)(T:String)(x:V)(H:Hp):Prop:=match x with
 | .str _=>T="str"
 | .int _=>T="int"
 | .ref p=>(T="list"/\∃ xs,SqL K H p xs)\/(T="tuple"/\∃ o,K.lookup p=some o/\o.cls=.type "tuple"/\o.dict=none)\/
   (T="dict"/\((∃ kvs,H p=some (.dK kvs))\/∃ kvs,H p=some (.dT kvs)))\/(T="set"/\∃ S n,H p=some (.set S n))
 | _=>False
theorem E7{pins:List (Nh × Obj)}{σ:St}{H:Hp}{s:Ni}{T:String}{x:V}{v:Nf}(I:Inv X pins σ H s)(r:RelV x v)(ty:tyV X.K T x H) :
  s.TypeIs v T/\∀ a,v=.ref a->∃ ob,s.heap.get? a=some ob/\ob.dict=none:=by
 cases x with
 | str z=>
  obtain⟨t,rfl⟩:=r
  cases (show T="str" from ty)
  exact⟨typeIs_str s z t,fun _ e=>nomatch e⟩
 | int i=>
  obtain⟨t,rfl⟩:=r
  cases (show T="int" from ty)
  exact⟨QW s i t,fun _ e=>nomatch e⟩
 | ref p=>
  cases r
  rcases ty with⟨rfl,xs,hq⟩ | ⟨rfl,o,hk,hc,hd⟩ | ⟨rfl,hk⟩ | ⟨rfl,S,n,hk⟩
  ·obtain⟨its,_,pl,_⟩:=I.list hq
   refine⟨pl.isList.typeIs,fun a e=>?_⟩
   cases e
   obtain⟨o,n,e,c,hd,_⟩:=pl
   exact⟨o,e,hd⟩
  ·refine⟨⟨o,I.kIn p o hk,hc⟩,fun a e=>?_⟩
   cases e
   exact⟨o,I.kIn _ o hk,hd⟩
  ·have z:∃ o,s.heap.get? p=some o/\o.ExactDict:=by
    rcases hk with⟨kvs,hk⟩ | ⟨kvs,hk⟩
    ·obtain⟨_,_,_,_,o,_,_,e,ex,_⟩:=I.hok p _ hk
     exact⟨o,e,ex⟩
    obtain⟨_,_,_,_,o,_,_,e,ex,_⟩:=I.hok p _ hk
    exact⟨o,e,ex⟩
   obtain⟨o,e,ex⟩:=z
   refine⟨⟨o,e,ex.1⟩,fun a e2=>?_⟩
   cases e2
   exact⟨o,e,ex.2.1⟩
  ·obtain⟨o,_,_,_,e,ex,_⟩:=I.hok p _ hk
   refine⟨⟨o,e,ex.1⟩,fun a e2=>?_⟩
   cases e2
   exact⟨o,e,ex.2.1⟩
 | _=>exact NC ty
noncomputable def tBM(K:Ng)(T:String)(r:V->List V->Hp->VK->Prop)(to:TE)(t:TA):TE:=fun σ H Q=>to σ H fun x H1=>tyV K T x H1/\t σ H1 fun xs H2=>r x xs H2 Q
variable{o e:Nz}{es:List Nz}{to:TE}{t:TA}{name:Str}{apos cpos:Pos}{T id:String}{r:V->List V->Hp->VK->Prop}
theorem G6(pa:PlainAttrs T)(slot:Slot T name id)(hty:typeOf (.builtin id)=pure (.type "method_descriptor"))(hm:MtR X id r)(ho:PE X o to)(ha:PA X (e::es) t)
  (hbase:Uo o name X.env (NS o X.env)=NS o X.env:=by rfl)
  (hfew:((Pt cpos (NF (e::es) X.env)).all (fun x=>!x.1) && (backToKw cpos (Vn [] X.env)).all (fun x=>x.1.isSome)
   && decide ((e::es).length + ([]:List T4).length + (if([]:List T4).isEmpty then 0 else 1) < 30))=true:=by rfl)
  (hline:(apos.endLine == cpos.line)=true:=by rfl) (hs:NF (e::es) X.env=(false,NS e X.env)::NF es X.env:=by rfl) (hplain:(Pt cpos (NF es X.env)).any (·.1)=false:=by rfl) :
  PE X (.Call (.Attribute o name apos) (e::es) [] cpos) (tBM X.K T r to t):=by
 intro pins s σ H Q I h
 refine wpAny_Call_method_late hbase hfew hline rfl (thn (ho pins s σ H _ I h) ?_)
 rintro v s1 ⟨x,H1,I1,r1,ty,q1⟩
 obtain⟨h1,h2⟩:=E7 I1 r1 ty
 refine⟨T,id,pa,slot,hty,h1,h2,?_⟩
 have hA:=ha cpos pins s1 σ H1 _ I1 q1
 rw[hs]at hA ⊢
 refine Calls.callWith_builtin (by show(false || (Pt cpos (NF es X.env)).any (·.1))=false;rw[hplain] <;> rfl) (Calls.evalArgs_plain ?_)
 exact thn hA fun us s2 ⟨vs,H2,I2,r2,q2⟩=>hm pins s2 σ H2 x vs v us Q I2 r1 r2 q2
end
noncomputable def MtM(X:Cx)(id:String)(r:V->List V->Hp->VK->Prop):Prop:=
 ∀(pins:List (Nh × Obj)) (s:Ni) (σ:St) (H:Hp) (x:V) (xs:List V) (v:Nf) (us:List Nf) (Q:VK),Inv X pins σ H s->RelV x v->Vals xs us->r x xs H Q->
  Nl (Nq X.prog X.w) X.A (call (.builtin id) (v::us)) (EP X pins σ Q) X.xe s
theorem Vals.one:∀ {x:V} {us:List Nf},Vals [x] us->∃ u,us=[u]/\RelV x u
 | _,_,.cons r .nil=>⟨_,rfl,r⟩
theorem Vals.eraseIdx:∀ {xs:List V} {us:List Nf} (i:Nat),Vals xs us->Vals (xs.eraseIdx i) (us.eraseIdx i)
 | _,_,_,.nil=>.nil
 | _,_,0,.cons _ t=>t
 | _,_,i + 1,.cons r t=>.cons r (Vals.eraseIdx i t)
theorem Vals.rep {xs:List V}{us:List Nf}(h:Vals xs us):∀ k:Nat,Vals (t_ k xs).flatten (t_ k us).flatten
 | 0=>.nil
 | k + 1=>by
  rw[Jz,Jz,Kt,Kt]
  exact Vals.append h (Vals.rep h k)
theorem oh{α:Type}:∀(l:List α) (i:Nat),(l.eraseIdx i).length<=l.length
 | [],_=>d_ _
 | _::_,0=>Km _
 | _::r,i + 1=>Lf (oh r i)
theorem foldl_rep(its:List Nf):∀(k:Nat) (acc:List Nf),
  MN (fun x1 x2=>x1++x2) acc.toArray (t_ k its.toArray)=(acc++(t_ k its).flatten).toArray
 | 0,acc=>by simp
 | k + 1,acc=>by
  have e:acc.toArray++its.toArray=(acc++its).toArray:=by simp
  have e2:(acc++its)++(t_ k its).flatten=acc++(t_ (k + 1) its).flatten:=by
   rw[Jz,Kt,j_]
  rw[<-e2,<-foldl_rep its k (acc++its),<-e,Jz,Lk]
section
variable{X:Cx}{pins:List (Nh × Obj)}{σ:St}{H:Hp}{s:Ni}{l b:Nh}{xs ys zs:List V}
theorem Inv.Hc {its its':List Nf}{n:Nat}{f:Array Nf->Array Nf}{t':Nat}(I:Inv X pins σ H s)(hH:H l=some (.lst xs))
  (e:s.heap.get? l=some { cls:=.type "list",data:=.seq its.toArray n }) (hf:f its.toArray=its'.toArray) (hv:Vals ys its') (hz:ys.length<=sizeLine) :
  Inv X pins σ (upd H l (.lst ys)) { s with heap:=s.heap.update l (N8 f),toks:=t' }:=by
 have q:=V3 e f
 rw[hf]at q
 refine I.write (x:=l) (e:=l) (by rw[hH];exact trivial) (.inl rfl) (fun b' u hb hu=>(NM s.heap (N8 f) (Oq hb)).trans hu) ⟨_,q⟩ ?_
 exact⟨hz,its',_,hv,q⟩
theorem Inv.Hh {its:List Nf}{t':Nat}(I:Inv X pins σ H s)(hv:Vals ys its)(hz:ys.length<=sizeLine) :
  Inv X pins σ (upd H s.heap.objs.size (.lst ys)) { s with heap:=s.heap.push { cls:=.type "list",data:=.seq its.toArray },toks:=t' }:=
 I.laid (fun _ _ q=>Nk _ q) (d_ _) ⟨hz,its,0,hv,Np _ rfl⟩
theorem Inv.fresh (I:Inv X pins σ H s):H s.heap.objs.size=none:=I.hok.fresh (d_ _)
theorem Inv.DA (I:Inv X pins σ H s)(hH:H l=some (.lst xs)):xs.length<=sizeLine/\∃(its:List Nf) (n:Nat),Vals xs its/\xs.length=its.length/\s.heap.get? l=some { cls:=.type "list",data:=.seq its.toArray n }:=by
 obtain⟨z,its,n,r,e⟩:=I.hok l _ hH
 exact⟨z,its,n,r,r.length,e⟩
theorem A7{n:Nat}(h:n<=sizeLine):P5 n=false:=by
 unfold P5
 exact decide_eq_false (by lia)
end
section
variable{X:Cx}
noncomputable def B7:V->List V->Hp->VK->Prop:=fun x vs H Q=>∃ l xs y,x=.ref l/\vs=[y]/\H l=some (.lst xs)/\xs.length < sizeLine/\Q .non (upd H l (.lst (xs++[y])))
theorem jj:MtM X "list.append" B7:=by
 intro pins s σ H x vs v us Q I rx rv h
 obtain⟨l,xs,y,rfl,rfl,hH,hz,q⟩:=h
 cases rx
 obtain⟨u,rfl,ru⟩:=rv.one
 obtain⟨z,its,n,r,hl,e⟩:=I.DA hH
 refine RX F.slot_list_append ⟨_,e,rfl⟩ F.entry_list_append (F.args_list_append_2 _ _) (PySem.list_append l its.toArray n u (by rw[q_];lia)) ⟨e,?_⟩
 refine⟨.non,_,I.Hc (its':=its++[u]) hH e (by simp) (r.append (.cons ru .nil)) ?_,rfl,q⟩
 rw[j',JO]
 lia
noncomputable def DR:V->List V->Hp->VK->Prop:=fun x vs H Q=>∃ l xs i k y,x=.ref l/\vs=[.int i]/\H l=some (.lst xs)/\-(2 ^ 63)<=i/\i < 2 ^ 63/\Ud i xs.length=some k/\xs[k]?=some y/\Q y (upd H l (.lst (xs.eraseIdx k)))
theorem Ak:MtM X "list.pop" DR:=by
 intro pins s σ H x vs v us Q I rx rv h
 obtain⟨l,xs,i,k,y,rfl,rfl,hH,h1,h2,hk,hy,q⟩:=h
 cases rx
 obtain⟨u,rfl,ru⟩:=rv.one
 obtain⟨t,rfl⟩:=ru
 obtain⟨z,its,n,r,hl,e⟩:=I.DA hH
 obtain⟨w,hw,rw'⟩:=r.get hy
 refine RX F.slot_list_pop ⟨_,e,rfl⟩ F.entry_list_pop (F.args_list_pop_2 _ _)
  (Vz l its.toArray n i t k w (T5 h1 h2) (by rw[q_,<-hl];exact hk) (by rw[<-e_];exact hw) (by rw[q_];lia)) ⟨e,?_⟩
 refine⟨y,_,I.Hc (its':=its.eraseIdx k) hH e ?_ (r.eraseIdx k) ?_,rw',q⟩
 ·show its.toArray.eraseIdxIfInBounds k=(its.eraseIdx k).toArray
  rw[List.eraseIdxIfInBounds_toArray]
 have:=oh xs k
 lia
noncomputable def II:R2:=fun x y H Q=>∃ l k xs,x=.ref l/\y=.int k/\H l=some (.lst xs)/\-(2 ^ 63)<=k/\k < 2 ^ 63/\xs.length * k.toNat<=sizeLine/\
 ∀ p,H p=none->Q (.ref p) (upd H p (.lst (t_ k.toNat xs).flatten))
theorem len_rep{α:Type}(xs:List α)(k:Nat):(t_ k xs).flatten.length=k * xs.length:=by
 induction k with
 | zero=>simp
 | succ k ih=>rw[Jz,Kt,j',ih,Nat.succ_mul,Nat.add_comm]
theorem F7:OpR X (N9 .Mult) II:=by
 intro pins s σ H x y v u Q I rx ry h
 obtain⟨l,k,xs,rfl,rfl,hH,h1,h2,hz,q⟩:=h
 cases rx
 obtain⟨t,rfl⟩:=ry
 obtain⟨z,its,n,r,hl,e⟩:=I.DA hH
 have hlen:its.toArray.size * k.toNat<=sizeLine:=by rw[q_,<-hl];exact hz
 have hcap:¬ its.toArray.size * k.toNat >(2 ^ 63 - 1) / 8:=by
  have:(sizeLine:Nat)<=(2 ^ 63 - 1) / 8:=by decide
  lia
 have hfit:¬(!Uq k)=true:=by
  rw[T5 h1 h2]
  exact B_
 have hlong:¬ P5 (its.toArray.size * k.toNat)=true:=by
  rw[A7 hlen]
  exact B_
 have hnew:MN (fun x1 x2=>x1++x2) #[] (t_ (if its.toArray.isEmpty=true then 0 else k.toNat) its.toArray)=(t_ k.toNat its).flatten.toArray:=by
  have f0:∀ m:Nat,MN (fun x1 x2=>x1++x2) #[] (t_ m its.toArray)=(t_ m its).flatten.toArray:=fun m=>by
   have:=foldl_rep its m []
   rw[KU]at this
   exact this
  rw[f0]
  cases its with
  | nil=>simp
  | cons a r'=>rw[if_neg (by simp)]
 refine wpAny_binaryOp_repeat_ref (T:="list") (U:="int") (by decide) ⟨_,e,rfl⟩ (fun s'=>QW s' k t) noFill_list_mul F.fills_int_mul Tu repeat_list F.slot_int_index.lookup
  (RX Tu (QW s k t) F.entry_int_rmul (F.args_int_rmul_2 _ _) (int___rmul___int_list k t l its.toArray n)
   ⟨e,rfl,⟨_,e,rfl⟩,RX F.slot_list_mul ⟨_,e,rfl⟩ F.entry_list_mul (F.args_list_mul_2 _ _) (S0 l its.toArray n k t hfit hcap hlong) ⟨e,?_⟩⟩)
 rw[hnew]
 exact⟨.ref _,_,I.Hh (t':=s.toks) (r.rep k.toNat) (by rw[len_rep,Nat.mul_comm];exact hz),rfl,q _ I.fresh⟩
end
section
variable{κ:Type}[DecidableEq κ]
def ck(kvs:List (κ × V))(k:κ):Option V:=(kvs.find? fun kv=>decide (kv.1=k)).map (·.2)
noncomputable def putK(kvs:List (κ × V))(k:κ)(v:V):List (κ × V):=
 if(kvs.any fun kv=>decide (kv.1=k))=true then kvs.map (fun kv=>if kv.1=k then(kv.1,v)else kv)else kvs++[(k,v)]
theorem mO{p:κ × V}{r:List (κ × V)}{k:κ}(e:p.1=k):ck (p::r) k=some p.2:=by simp[ck,Jn,e]
theorem mw{p:κ × V}{r:List (κ × V)}{k:κ}(e:¬ p.1=k):ck (p::r) k=ck r k:=by simp[ck,Jn,e]
theorem iR(k:κ):∀ kvs:List (κ × V),(kvs.any fun kv=>decide (kv.1=k))=(ck kvs k).isSome
 | []=>rfl
 | p::r=>by
  rw[J0]
  by_cases e:p.1=k
  ·simp only[mO e,decide_eq_true e,Bool.true_or,Mx]
  rw[mw e,decide_eq_false e,Bool.false_or];exact iR k r
theorem e9(kvs:List (κ × V))(k:κ)(v:V):(putK kvs k v).length<=kvs.length + 1:=by
 unfold putK
 split
 ·rw[b_];lia
 rw[j',i_,Lj];lia
theorem qh{kvs:List (κ × V)}{k:κ}(v:V)(h:ck kvs k=none):putK kvs k v=kvs++[(k,v)]:=by
 unfold putK
 rw[iR,h]
 exact if_neg (by decide)
theorem mT.d8 {o:Option V}{u:Option Nf}(r:mT o u):o.isSome=u.isSome:=by
 cases o with
 | none=>cases u with
  | none=>rfl
  | some _=>exact(show False from r).elim
 | some _=>cases u with
  | none=>exact(show False from r).elim
  | some _=>rfl
theorem KV.val {kvs:List (κ × V)}{vs:List (κ × Nf)}(r:KV kvs vs)(k:κ):mT (ck kvs k) (QZ vs k):=by
 unfold KV at r
 induction r with
 | nil=>exact O1
 | @cons p q ps qs h t ih=>
  obtain⟨h1,h2⟩:=h
  by_cases e:p.1=k
  ·have e':q.1=k:=h1.symm.trans e
   have b:QZ (q::qs) k=some q.2:=by simp[QZ,Jn,e']
   rw[mO e,b];exact h2
  have e':¬ q.1=k:=fun z=>e (h1.trans z)
  have b:QZ (q::qs) k=QZ qs k:=by simp[QZ,Jn,e']
  rw[mw e,b];exact ih
theorem KV.any {kvs:List (κ × V)}{vs:List (κ × Nf)}(r:KV kvs vs)(k:κ):(kvs.any fun kv=>decide (kv.1=k))=vs.any fun kv=>decide (kv.1=k):=by
 unfold KV at r
 induction r with
 | nil=>rfl
 | cons h t ih=>rw[J0,J0,ih,h.1]
theorem KV.ER {kvs:List (κ × V)}{vs:List (κ × Nf)}(r:KV kvs vs)(k:κ){y:V}{u:Nf}(ry:RelV y u) :
  KV (kvs.map fun kv=>if kv.1=k then(kv.1,y)else kv) (vs.map fun kv=>if kv.1=k then(kv.1,u)else kv):=by
 unfold KV at r ⊢
 induction r with
 | nil=>exact .nil
 | @cons p q ps qs h t ih=>
  rw[f_,f_]
  refine .cons ?_ ih
  obtain⟨h1,h2⟩:=h
  by_cases e:p.1=k
  ·rw[if_pos e,if_pos (h1.symm.trans e)];exact⟨h1,ry⟩
  rw[if_neg e,if_neg (fun z=>e (h1.trans z))];exact⟨h1,h2⟩
theorem KV.put {kvs:List (κ × V)}{vs:List (κ × Nf)}(r:KV kvs vs)(k:κ){y:V}{u:Nf}(ry:RelV y u):KV (putK kvs k y) (stored vs k u):=by
 unfold putK stored
 rw[r.any k]
 by_cases e:(vs.any fun kv=>decide (kv.1=k))=true
 ·rw[if_pos e,if_pos e];exact r.ER k ry
 rw[if_neg e,if_neg e];exact Vo r ⟨rfl,ry⟩
theorem KV.length {kvs:List (κ × V)}{vs:List (κ × Nf)}(r:KV kvs vs):kvs.length=vs.length:=Pz r
end
theorem nH{P:Nv}{w:NA}{k:Key}{u:Nf}(r:RelV (kV k) u):(ba P w).is k u=true:=by
 rcases k with i | _ | x
 ·obtain⟨t,e⟩:=(show ∃ t,u=Pf i t from r);subst e;exact sf P w i t
 ·cases r;rfl
 obtain⟨t,e⟩:=(show ∃ t,u=Sf x t from r);subst e;exact rB P w x t
theorem nA{P:Nv}{w:NA}:∀ {ks:List Key} {us:List Nf},Vals (ks.map kV) us->ItemsAre (ba P w) ks us
 | [],_,r=>by rw[Kx]at r;cases r;exact .nil
 | k::ks,_,r=>by
  rw[f_]at r
  cases r with
  | cons h t=>exact .cons (nH h) (nA t)
abbrev KT(H:Hp):List (List Key × V)->List (List Key × Nh × Nf)->Prop:=Qh fun p q=>p.1=q.1/\H q.2.1=some (.tup (p.1.map kV))/\RelV p.2 q.2.2
theorem KT.val {H:Hp}{kvs:List (List Key × V)}{xs:List (List Key × Nh × Nf)}(r:KT H kvs xs)(k:List Key):mT (ck kvs k) ((Rj xs k).map (·.2)):=by
 induction r with
 | nil=>exact O1
 | @cons p q ps qs h t ih=>
  obtain⟨h1,_,h2⟩:=h
  by_cases e:p.1=k
  ·have e':q.1=k:=h1.symm.trans e
   have b:Rj (q::qs) k=some q.2:=by simp[Rj,Jn,e']
   rw[mO e,b];exact h2
  have e':¬ q.1=k:=fun z=>e (h1.trans z)
  have b:Rj (q::qs) k=Rj qs k:=by simp[Rj,Jn,e']
  rw[mw e,b];exact ih
theorem KT.ER {H:Hp}{kvs:List (List Key × V)}{xs:List (List Key × Nh × Nf)}(r:KT H kvs xs)(k:List Key){y:V}{u:Nf}(ry:RelV y u) :
  KT H (kvs.map fun kv=>if kv.1=k then(kv.1,y)else kv) (xs.map (putAt k u)):=by
 induction r with
 | nil=>exact .nil
 | @cons p q ps qs h t ih=>
  rw[f_,f_]
  refine .cons ?_ ih
  obtain⟨h1,h2,h3⟩:=h
  unfold putAt
  by_cases e:p.1=k
  ·rw[if_pos e,if_pos (h1.symm.trans e)];exact⟨h1,h2,ry⟩
  rw[if_neg e,if_neg (fun z=>e (h1.trans z))];exact⟨h1,h2,h3⟩
theorem KT.put {H:Hp}{kvs:List (List Key × V)}{xs:List (List Key × Nh × Nf)}(r:KT H kvs xs)(k:List Key){b:Nh}{y:V}{u:Nf}(hb:H b=some (.tup (k.map kV)))(ry:RelV y u) :
  KT H (putK kvs k y) (storedH xs k b u):=by
 have e:(kvs.any fun kv=>decide (kv.1=k))=(Rj xs k).isSome:=by
  rw[iR,(r.val k).d8,LO]
 unfold putK storedH
 rw[e]
 by_cases q:(Rj xs k).isSome=true
 ·rw[if_pos q,if_pos q];exact r.ER k ry
 rw[if_neg q,if_neg q];exact Vo r ⟨rfl,hb,ry⟩
theorem KT.keeps {H H':Hp}{kvs:List (List Key × V)}{xs:List (List Key × Nh × Nf)}(r:KT H kvs xs)(ht:∀ b ys,H b=some (.tup ys)->H' b=some (.tup ys)):KT H' kvs xs:=
 Paired.FH r fun _ _ z=>⟨z.1,ht _ _ z.2.1,z.2.2⟩
section
variable{P:Nv}{w:NA}{H:Hp}{h:NB}{a:Nh}
theorem CL{u:HO}(ok:HOk P w H h)(e:Rd H a u):aZ P w H h a u:=e.ok ok
theorem nN{kvs:List (Key × V)}(ok:HOk P w H h)(e:Rd H a (.dK kvs)):kvs.length<=sizeLine/\(a == Om)=false/\∃ vs,KV kvs vs/\h.DictOf (ba P w) a vs:=
 show aZ P w H h a (.dK kvs)from CL ok e
theorem D5{kvs:List (Key × V)}(ok:HOk P w H h)(e:H a=some (.dK kvs)):kvs.length<=sizeLine/\(a == Om)=false/\∃ vs,KV kvs vs/\h.DictOf (ba P w) a vs:=nN ok (.inl e)
theorem mH{ks:List Key}(ok:HOk P w H h)(e:H a=some (.tup (ks.map kV))):(Rh (ba P w)).is h ks a:=by
 obtain⟨_,its,r,o,h1,h2,n,h3⟩:=(show aZ P w H h a (.tup (ks.map kV))from ok a _ e)
 exact⟨o,its.toArray,n,h1,h2,h3,by simpa using nA r⟩
theorem n8{kvs:List (List Key × V)}(ok:HOk P w H h)(e:Rd H a (.dT kvs)):kvs.length<=sizeLine/\(a == Om)=false/\
  ∃ xs,KT H kvs xs/\h.DictOfH (Rh (ba P w)) a xs:=by
 obtain⟨z,y,xs,r,o,es,ep,h1,h2,h3,h4,h5⟩:=(show aZ P w H h a (.dT kvs)from CL ok e)
 refine⟨z,y,xs,r,o,es,ep,h1,h2,h3,h4,fun x hx=>?_,h5⟩
 have all:∀ {l:List (List Key × V)} {m:List (List Key × Nh × Nf)},KT H l m->∀ x∈m,(Rh (ba P w)).is h x.1 x.2.1:=by
  intro l m q
  induction q with
  | nil=>intro x hx;exact nomatch hx
  | @cons p q ps qs hq t ih=>
   intro x hx
   rcases m_.mp hx with e | hx
   ·subst e
    exact mH ok (by rw[<-hq.1];exact hq.2.1)
   exact ih x hx
 exact all r x hx
theorem HH{kvs:List (List Key × V)}(ok:HOk P w H h)(e:H a=some (.dT kvs)):kvs.length<=sizeLine/\(a == Om)=false/\
  ∃ xs,KT H kvs xs/\h.DictOfH (Rh (ba P w)) a xs:=n8 ok (.inl e)
end
noncomputable def gJ(H:Hp)(a:Nh)(y:V)(r:Option V):Prop:=
 (∃ kvs k,Rd H a (.dK kvs)/\y=kV k/\r=ck kvs k)\/∃ kvs k b,Rd H a (.dT kvs)/\y=.ref b/\H b=some (.tup (k.map kV))/\r=ck kvs k
noncomputable def wy(H:Hp)(a:Nh)(y v:V)(H':Hp):Prop:=
 (∃ kvs k,H a=some (.dK kvs)/\y=kV k/\kvs.length < sizeLine/\H'=upd H a (.dK (putK kvs k v)))\/
 ∃ kvs k b,H a=some (.dT kvs)/\y=.ref b/\H b=some (.tup (k.map kV))/\kvs.length < sizeLine/\H'=upd H a (.dT (putK kvs k v))
theorem gJ.k {H:Hp}{a:Nh}{kvs:List (Key × V)}{k:Key}(e:H a=some (.dK kvs)):gJ H a (kV k) (ck kvs k):=.inl ⟨kvs,k,.inl e,rfl,rfl⟩
theorem wy.k {H:Hp}{a:Nh}{kvs:List (Key × V)}{k:Key}{v:V}(e:H a=some (.dK kvs))(hl:kvs.length < sizeLine):wy H a (kV k) v (upd H a (.dK (putK kvs k v))):=.inl ⟨kvs,k,e,rfl,hl,rfl⟩
section
variable{X:Cx}{pins:List (Nh × Obj)}{σ:St}{H:Hp}{s:Ni}{a:Nh}{y v:V}{u r:Nf}{o:Option V}{A:NH}{E:Nf->Ni->Prop}
theorem Inv.big (I:Inv X pins σ H s):Om < s.heap.objs.size:=by
 have h:Oh < s.heap.objs.size:=(I.mod.glob.keeps I.bk).lt
 exact Ll (by decide) h
theorem nQ{Q:Nf->Ni->Prop}(hu:A.units + 1 < cLine)(I:Inv X pins σ H s)(g:gJ H a y (some v))(ry:RelV y u)(h:∀ w' s',Inv X pins σ H s'->RelV v w'->Q w' s') :
  Nl (Nq X.prog X.w) A (QA (.ref a) u) Q E s:=by
 rcases g with⟨kvs,k,e,ey,l⟩ | ⟨kvs,k,b,e,ey,eb,l⟩
 ·subst ey
  obtain⟨z,hd,vs,rel,dd⟩:=nN I.hok e
  obtain⟨w',hw,rw'⟩:=mT.some_of (v:=v) (o:=QZ vs k) (by rw[l];exact rel.val k)
  exact wpAny_getItem_of (nH ry) dd.mapOf hw (h w' _ (I.tok _) rw')
 subst ey
 cases (show u=NT b from ry)
 obtain⟨z,hd,xs,rel,dd⟩:=n8 I.hok e
 obtain⟨w',hw,rw'⟩:=mT.some_of (v:=v) (o:=(Rj xs k).map (·.2)) (by rw[l];exact rel.val k)
 obtain⟨p,hp,hp2⟩:=Ld.mp hw
 refine wpAny_getItem_heap (P6 hu) (mH I.hok eb) dd hp ?_
 rw[hp2]
 exact h w' _ (I.tok _) rw'
theorem Gi{Q:Nf->Ni->Prop}(hu:A.units + 1 < cLine)(I:Inv X pins σ H s)(g:gJ H a y o)(ry:RelV y u)(h:∀ s',Inv X pins σ H s'->Q (.bool o.isSome) s') :
  Nl (Nq X.prog X.w) A (NO .In u (.ref a)) Q E s:=by
 rcases g with⟨kvs,k,e,ey,l⟩ | ⟨kvs,k,b,e,ey,eb,l⟩
 ·subst ey
  obtain⟨z,hd,vs,rel,dd⟩:=nN I.hok e
  refine wpAny_in_of (nH ry) hd dd.mapOf ?_
  rw[<-(rel.val k).d8,<-l]
  exact h _ (I.tok _)
 subst ey
 cases (show u=NT b from ry)
 obtain⟨z,hd,xs,rel,dd⟩:=n8 I.hok e
 refine wpAny_in_heap (P6 hu) (mH I.hok eb) hd dd ?_
 have q:=(rel.val k).d8
 rw[LO]at q
 rw[<-q,<-l]
 exact h _ (I.tok _)
theorem vk{Q:Nf->Ni->Prop}(hu:A.units + 1 < cLine)(I:Inv X pins σ H s)(g:gJ H a y o)(ry:RelV y u)(h:∀ s',Inv X pins σ H s'->Q (.bool (!o.isSome)) s') :
  Nl (Nq X.prog X.w) A (NO .NotIn u (.ref a)) Q E s:=by
 rcases g with⟨kvs,k,e,ey,l⟩ | ⟨kvs,k,b,e,ey,eb,l⟩
 ·subst ey
  obtain⟨z,hd,vs,rel,dd⟩:=nN I.hok e
  refine wpAny_notIn_of (nH ry) hd dd.mapOf ?_
  rw[<-(rel.val k).d8,<-l]
  exact h _ (I.tok _)
 subst ey
 cases (show u=NT b from ry)
 obtain⟨z,hd,xs,rel,dd⟩:=n8 I.hok e
 refine wpAny_notIn_heap (P6 hu) (mH I.hok eb) hd dd ?_
 have q:=(rel.val k).d8
 rw[LO]at q
 rw[<-q,<-l]
 exact h _ (I.tok _)
theorem ph{h':NB}{t':Nat}{ob:HO}(I:Inv X pins σ H s)(mu:Mut (H a))(hs:Oa a s.heap h')(he:∃ q,h'.get? a=some q)(new:aZ X.prog X.w (upd H a ob) h' a ob) :
  Inv X pins σ (upd H a ob) { s with heap:=h',toks:=t' }:=
 I.write (x:=a) (e:=a) mu (.inl rfl) (fun b q hb z=>(hs.2 b hb).trans z) he new
theorem A9{P:Nv}{w:NA}{H':Hp}{h':NB}{kvs:List (Key × V)}{vs:List (Key × Nf)}(z:kvs.length<=sizeLine)(hd:(a == Om)=false)(rel:KV kvs vs)(dd:h'.DictOf (ba P w) a vs) :
  aZ P w H' h' a (.dK kvs):=⟨z,hd,vs,rel,dd⟩
theorem j6{H':Hp}{Q:Unit->Ni->Prop}(hu:A.units + 1 < cLine)(I:Inv X pins σ H s)(g:wy H a y v H')(ry:RelV y u)(rv:RelV v r)(h:∀ s',Inv X pins σ H' s'->Q () s') :
  Nl (Nq X.prog X.w) A (TY (.ref a) u r) Q E s:=by
 rcases g with⟨kvs,k,e,ey,l,eH⟩ | ⟨kvs,k,b,e,ey,eb,l,eH⟩
 ·subst ey eH
  obtain⟨z,hd,vs,rel,dd⟩:=D5 I.hok e
  have hz:vs.length<=sizeLine:=by rw[<-rel.length];exact z
  have hl:(putK kvs k v).length<=sizeLine:=by have:=e9 kvs k v;lia
  refine wpAny_setItem_pairs (hsz:=hz) (nH ry) dd fun h' dd' hs=>h _ ?_
  have he:∃ q,h'.get? a=some q:=let ⟨q,_,_,hq,_⟩:=dd';⟨q,hq⟩
  exact ph I (by rw[e];exact O1) hs he (A9 hl hd (rel.put k rv) dd')
 subst ey eH
 cases (show u=NT b from ry)
 obtain⟨z,hd,xs,rel,dd⟩:=HH I.hok e
 have hz:xs.length<=sizeLine:=by rw[<-Pz rel];exact z
 have hl:(putK kvs k v).length<=sizeLine:=by have:=e9 kvs k v;lia
 refine wpAny_setItem_heap (hsz:=hz) (P6 hu) (mH I.hok eb) dd fun h' dd' hs=>h _ ?_
 obtain⟨q,es,ep,hq,h2,h3,h4,_,h5⟩:=dd'
 refine ph I (by rw[e];exact O1) hs ⟨q,hq⟩ ⟨hl,hd,_,(rel.put k eb rv).keeps fun c ys ec=>?_,q,es,ep,hq,h2,h3,h4,h5⟩
 rw[au (CQ ec e (fun z=>nomatch z))]
 exact ec
end
section
variable{X:Cx}{pins:List (Nh × Obj)}{σ:St}{H:Hp}{s:Ni}{a:Nh}{kvs:List (Key × V)}{k:Key}{u:Nf}{A:NH}{E:Nf->Ni->Prop}
theorem Gs{Q:Nf->Ni->Prop}(I:Inv X pins σ H s)(e:Rd H a (.dK kvs))(h:∀ t s',Inv X pins σ H s'->Q (.int kvs.length t) s'):Nl (Nq X.prog X.w) A (call (.builtin "len") [.ref a]) Q E s:=by
 obtain⟨z,hd,vs,rel,dd⟩:=nN I.hok e
 refine call_len_dict hd dd (by rw[<-rel.length];rw[NQ]at z;lia) ?_
 rw[<-rel.length]
 exact h _ _ (I.tok _)
end
def Gk(i:Nz):Prop:=∀ ov iv,QF i false ov iv=Vw [ov,iv] (QA ov iv)
theorem BK{prog:Nv}{w:NA}{A:NH}{E:Nf->Ni->Prop}{s:Ni}{env:Env}{value slice:Nz}{pos:Pos}{T id:String}{Q:Nf->Ni->Prop}
  (hl:typeLookup (.type T) "__getitem__"=pure (some (.builtin id))) (hs:Gk slice)
  (h:Nl (Nq prog w) A (NS value env) (fun o s₁=>Nl (Nq prog w) A (NS slice env) (fun i s₂=>s₂.TypeIs o T/\Nl (Nq prog w) A (QA o i) Q E s₂) E s₁) E s) :
  Nl (Nq prog w) A (NS (.Subscript value slice pos) env) Q E s:=by
 refine Ts (NN h (fun o s₁ h₁=>NN h₁ (fun i s₂ h₂=>?_) fun _ _ x=>x) fun _ _ x=>x)
 obtain⟨hT,h₂⟩:=h₂
 unfold Ql
 refine Nd ?_
 rw[RG hT.not_modules]
 refine Nd (Rk hT hl ?_)
 have fin:Nl (Nq prog w) A (QF slice false o i) (fun r s₃=>Nl (Nq prog w) A (T6 value o r >>= fun _=>pure r) Q E s₃) E s₂:=by
  rw[hs o i]
  exact Tv (NN h₂ (fun r s₃ h₃=>Nd (RY (Nj h₃))) fun _ _ x=>x)
 first
  | exact Nj (Nd fin)
  | exact Nd (Nj (Nd fin))
  | exact Nd fin
theorem jQ{X:Cx}{pins:List (Nh × Obj)}{σ:St}{H:Hp}{s:Ni}{a:Nh}{y:V}{o:Option V}(I:Inv X pins σ H s)(g:gJ H a y o):s.TypeIs (.ref a) "dict":=by
 rcases g with⟨kvs,k,e,_,_⟩ | ⟨kvs,k,b,e,_,_,_⟩
 ·obtain⟨_,_,vs,_,dd⟩:=nN I.hok e
  exact dd.typeIs
 obtain⟨_,_,xs,_,dd⟩:=n8 I.hok e
 exact dd.typeIs
def HF(td ty:TE):TE:=fun σ H Q=>td σ H fun x H1=>ty σ H1 fun y H2=>∃ a v,x=.ref a/\gJ H2 a y (some v)/\Q v H2
noncomputable def HP(td ty tv:TE):TS:=fun D σ H=>tv σ H fun v H1=>td σ H1 fun x H2=>ty σ H2 fun y H3=>∃ a H4,x=.ref a/\wy H3 a y v H4/\D.nx σ H4
section
variable{X:Cx}{o i e value:Nz}{pos pos' tpos:Pos}{td ty tv:TE}
theorem kF(hu:X.A.units + 1 < cLine)(ho:PE X o td)(hi:PE X i ty)(hs:Gk i):PE X (.Subscript o i pos) (HF td ty):=by
 intro pins s σ H Q I h
 refine BK QX.lookup hs (thn (ho pins s σ H _ I h) fun u s1 ⟨x,H1,I1,rx,q1⟩=>thn (hi pins s1 σ H1 _ I1 q1) ?_)
 rintro iv s2 ⟨y,H2,I2,ry,a,v,ex,g,q2⟩
 subst ex
 obtain rfl:u=NT a:=rx
 exact⟨jQ I2 g,nQ hu I2 g ry fun w' s3 I3 rw'=>⟨v,H2,I3,rw',q2⟩⟩
theorem Az(hu:X.A.units + 1 < cLine)(ho:PE X o td)(hi:PE X i ty)(hv:PE X value tv)(hs:P0 value (some (.Subscript o i pos')) pos.line X.env=pure false) :
  PS X (.Assign [.Subscript o i pos'] value pos) (HP td ty tv):=by
 intro pins s σ H D I h
 refine wpAny_Assign_Subscript (thn (hv pins s σ H _ I h) fun r s1 ⟨v,H1,I1,rv,q1⟩=>thn (ho pins s1 σ H1 _ I1 q1) fun u s2 ⟨x,H2,I2,rx,q2⟩=>thn (hi pins s2 σ H2 _ I2 q2) fun iv s3 ⟨y,H3,I3,ry,a,H4,ex,g,q3⟩=>?_) hs
 subst ex
 obtain rfl:u=NT a:=rx
 exact j6 hu I3 g ry rv fun s4 I4=>⟨σ,H4,I4,q3⟩
end
theorem yk{P:Nv}{w:NA}{H:Hp}(h:NB)(hb:Om < h.objs.size):aZ P w H (h.push { cls:=.type "dict",data:=.dict #[] }) h.objs.size (.dK []):=
 ⟨G_ _,beq_eq_false_iff_ne.mpr (Oq (r_ hb)),[],.nil,V9 h⟩
theorem zj{P:Nv}{w:NA}{H:Hp}(h:NB)(hb:Om < h.objs.size):aZ P w H (h.push { cls:=.type "dict",data:=.dict #[] }) h.objs.size (.dT []):=
 ⟨G_ _,beq_eq_false_iff_ne.mpr (Oq (r_ hb)),[],.nil,_,#[],0,Np _ rfl,⟨rfl,rfl,rfl⟩,rfl,rfl,Kd⟩
def EH:TE:=fun _ H Q=>∀ p,H p=none->Q (.ref p) (upd H p (.dT []))
section
variable{X:Cx}{pos:Pos}
theorem yH:PE X (.Dict [] [] pos) EH:=fun pins s σ H Q I h=>
 wpAny_Dict_empty ⟨.ref s.heap.objs.size,_,I.laid (a:=s.heap.objs.size) (o:=.dT []) (t':=s.toks) (fun _ _ q=>Nk _ q) (d_ _) (zj s.heap I.big),rfl,h _ (I.hok.fresh (d_ _))⟩
end
noncomputable def sT:List (TE × TE)->St->Hp->(List (V × V)->Hp->Prop)->Prop
 | [],_,H,Q=>Q [] H
 | (tk,tv)::r,σ,H,Q=>tk σ H fun x H1=>tv σ H1 fun y H2=>sT r σ H2 fun ps H3=>Q ((x,y)::ps) H3
abbrev VV:List (V × V)->List (Nf × Nf)->Prop:=Qh fun p q=>RelV p.1 q.1/\RelV p.2 q.2
noncomputable def PPs(X:Cx)(pos:Pos)(keys:List (Option Nz))(values:List Nz)(trs:List (TE × TE)):Prop:=
 ∀(pins:List (Nh × Obj)) (s:Ni) (σ:St) (H:Hp) (Q:List (V × V)->Hp->Prop),Inv X pins σ H s->sT trs σ H Q->
  Nl (Nq X.prog X.w) X.A (evalPairs (pairTrees keys values X.env pos)) (fun vs s'=>∃ ps H',Inv X pins σ H' s'/\VV ps vs/\Q ps H') X.xe s
theorem AL{X:Cx}{pos:Pos}:PPs X pos [] [] []:=fun pins s σ H Q I h=>pairTrees_nil_walk ⟨[],H,I,.nil,h⟩
theorem rm{X:Cx}{pos:Pos}{k v:Nz}{ks:List (Option Nz)}{vs:List Nz}{tk tv:TE}{trs:List (TE × TE)}(hk:PE X k tk)(hv:PE X v tv)(hr:PPs X pos ks vs trs) :
  PPs X pos (some k::ks) (v::vs) ((tk,tv)::trs):=fun pins s σ H Q I h=>
 pairTrees_cons_walk (thn (hk pins s σ H _ I h) fun u s1 ⟨x,H1,I1,rx,q1⟩=>thn (hv pins s1 σ H1 _ I1 q1) fun w2 s2 ⟨y,H2,I2,ry,q2⟩=>
  thn (hr pins s2 σ H2 _ I2 q2) fun ws s3 ⟨ps,H3,I3,rel,q3⟩=>⟨(x,y)::ps,H3,I3,.cons ⟨rx,ry⟩ rel,q3⟩)
def dY(kvs more:List (Key × V)):List (Key × V):=more.foldl (fun acc kv=>putK acc kv.1 kv.2) kvs
theorem KV.merge:∀ {more:List (Key × V)} {rs:List (Key × Nf)} {kvs:List (Key × V)} {vs:List (Key × Nf)},KV more rs->KV kvs vs->KV (dY kvs more) (merged vs rs):=by
 intro more rs kvs vs r
 unfold KV at r
 induction r generalizing kvs vs with
 | nil=>intro q;exact q
 | @cons p q ps qs h t ih=>
  intro r0
  have e:KV (putK kvs p.1 p.2) (stored vs q.1 q.2):=by
   have:=r0.put p.1 h.2
   rw[<-h.1];exact this
  exact ih e
theorem fR:∀(more kvs:List (Key × V)),(dY kvs more).length<=kvs.length + more.length
 | [],kvs=>by show kvs.length<=kvs.length + 0;lia
 | p::r,kvs=>by
  have h1:=fR r (putK kvs p.1 p.2)
  have h2:=e9 kvs p.1 p.2
  show(dY (putK kvs p.1 p.2) r).length<=_
  rw[i_];lia
theorem lW{P:Nv}{w:NA}:∀ {kvs:List (Key × V)} {ws:List (Nf × Nf)},VV (kvs.map fun kv=>(kV kv.1,kv.2)) ws->∃ rs,Carries (ba P w) ws rs/\KV kvs rs
 | [],_,r=>by rw[Kx]at r;cases r;exact⟨[],O1,.nil⟩
 | p::kvs,_,r=>by
  rw[f_]at r
  cases r with
  | @cons a b as bs h t=>
   obtain⟨rs,c,q⟩:=lW (P:=P) (w:=w) t
   obtain⟨b1,b2⟩:=b
   exact⟨(p.1,b2)::rs,⟨nH h.1,rfl,c⟩,.cons ⟨rfl,h.2⟩ q⟩
noncomputable def HE(trs:List (TE × TE)):TE:=fun σ H Q=>∀ p,H p=none->sT trs σ (upd H p (.dK [])) fun ps H2=>H2 p=some (.dK [])/\∃ kvs:List (Key × V),ps=kvs.map (fun kv=>(kV kv.1,kv.2))/\kvs.length<=15/\Q (.ref p) (upd H2 p (.dK (dY [] kvs)))
theorem C0{X:Cx}{pos:Pos}{keys:List (Option Nz)}{values:List Nz}{trs:List (TE × TE)}(h:PPs X pos keys values trs)(hall:keys.all (·.isSome)=true)(hl:keys.length=values.length)(h0:keys≠[])
  (h15:keys.length<=15):PE X (.Dict keys values pos) (HE trs):=by
 intro pins s σ H Q I q
 have hn:=I.hok.fresh (d_ s.heap.objs.size)
 have I1:=I.laid (a:=s.heap.objs.size) (o:=.dK []) (h':=s.heap.push { cls:=.type "dict",data:=.dict #[] }) (t':=s.toks) (fun _ _ q=>Nk _ q) (d_ _) (yk s.heap I.big)
 refine wpAny_Dict_walk (knd:=ba X.prog X.w) hall hl h0 h15 (thn (h pins _ σ _ _ I1 (q _ hn)) ?_)
 rintro ws s2 ⟨ps,H2,I2,rel,e,kvs,ep,lk,q2⟩
 subst ep
 obtain⟨rs,c,rk⟩:=lW (P:=X.prog) (w:=X.w) rel
 obtain⟨z,hd,vs0,r0,dd⟩:=D5 I2.hok e
 cases r0
 refine⟨rs,c,dd,fun h' dd' hs=>⟨.ref s.heap.objs.size,_,?_,rfl,q2⟩⟩
 have hz:(dY [] kvs).length<=sizeLine:=by
  have h1:=fR kvs []
  rw[Lj]at h1
  rw[NQ];lia
 have he:∃ q,h'.get? s.heap.objs.size=some q:=let ⟨q,_,_,hq,_⟩:=dd';⟨q,hq⟩
 exact ph I2 (by rw[e];exact O1) hs he (A9 hz hd (rk.merge .nil) dd')
end L2
namespace Att
open PySem PySem.W PySem.Calls PyProof.Rows
theorem k7{P:Q5}{h:NB}:∀(ns:List Int) (vs:List Nf),WellAll P h vs (ns.map WData.int)->IntsAre vs ns:=by
 intro ns
 induction ns with
 | nil=>
  intro vs w
  rw[Kx]at w
  cases w
  exact .nil
 | cons n ns ih=>
  intro vs w
  rw[f_]at w
  cases w with
  | cons a b=>
   cases a
   exact .cons _ _ (ih _ b)
theorem wH{l:OpenLaw}{n:Nat}(hn:l.most=some n){P:Q5}{h:NB}{args:List WData}{vals:List Nf}
  (hpre:l.row.toRowW.claim.pre args=true) (hwl:WellAll P h vals args) :
  ∃ a vs ns,vals=[NT a]/\args=[WData.list (ns.map WData.int)]/\h.get? a=some { cls:=.type "list",data:=.seq vs.toArray }/\IntsAre vs ns/\ns.length<=n:=by
 have hsh:WShape.hasAll [] args [.list .int]=true:=(pre_splitW hpre).1
 have hc:l.pre.holds [] { args:=args }=true:=(pre_splitW hpre).2
 obtain⟨d,r,rfl,h1,h2⟩:=hasAllW_cons hsh
 obtain rfl:=hasAllW_nil h2
 obtain⟨xs,rfl,h3⟩:=hasW_list h1
 obtain⟨ns,rfl⟩:=items_int h3
 have hlen:ns.length<=n:=by
  unfold OpenLaw.pre at hc
  have h4:(WTm.not (.lt (.lit (.int (n:Int))) (.len (.arg 0)))).holds [] { args:=[.list (ns.map .int)] }=true:=by
   have h4:=(holds_andW hc).1
   rw[hn]at h4
   exact h4
  have h5:=condW_of h4 (w_not (w_lt w_lit (w_len_list (w_arg rfl))))
  rw[b_]at h5
  refine Jo fun q=>?_
  have q':(n:Int) < ((ns.length:Nat):Int):=by lia
  first
   | (rw[decide_eq_true q']at h5;exact absurd h5 (by decide))
   | (simp at h5;omega)
 cases hwl with
 | cons w1 w2=>
  cases w2
  cases w1 with
  | list ho hall=>exact⟨_,_,ns,rfl,rfl,ho,k7 ns _ hall,hlen⟩
theorem wU(l:OpenLaw)(args:List WData):l.row.toRowW.claim.post args (.bool true) args=true:=
 postW_of (r:=l.row.toRowW) (X:=(true == true))
  (show WShape.has [] (.bool true) .bool=true by first | rfl | decide | simp[WShape.has,WShape.arms,WShape.armsAll])
  (show(WTm.eq .res (.lit (.bool true))).value [] { args:=args,res:=some (.bool true),after:=args }=some (.bool (true == true))from w_eq_bool (w_res rfl) w_lit) rfl
theorem qE{l:OpenLaw}{n:Nat}{q:Nv}{loose:List Str}{XP:(Str->Option Nf)->NB->Prop}{YP:NA->NB->Prop}{d:DefRec}
  (hn:l.most=some n) (hdf:d.params.defaults=[])
  (call:∀(w:NA) (s₀ s₁:Ni) (mg mb:Str->Option Nf) (fa:Nh) (o:Obj) (pm cd doc:Nf) (a:Nh) (vs:List Nf) (ns:List Int),
   Ground q loose [] XP w s₀ mg mb s₁.heap->YP w s₁.heap->
   s₁.heap.get? fa=some o->o.data=.func (docDef d.name d.params d.body d.scope pm cd doc)->s₁.heap.CodeRec cd d.name->mg d.name=some (.ref fa)->
   s₁.heap.get? a=some { cls:=.type "list",data:=.seq vs.toArray }->IntsAre vs ns->ns.length<=n->s₁.gens=#[]->
   OL (Nq l.prog w) Q0 (.call (.ref fa) ⟨[.ref a],[]⟩) (fun r s'=>r=.ok (.ret (.bool true))/\OldK s₁.heap s'.heap/\s'.os=s₁.os/\Qn s'.gens) s₁) :
  WalkO q loose XP YP l.row.toRowW d [] (fun f vs=>Tw f vs):=by
 intro w s₀ s₁ mg mb G Y fa o pm cd doc dV kV ho hd hcd hD hmg hg args vals as hpre hlay hrd hwl hlo
 obtain rfl:dV=.none:=Dflts.none hD hdf
 obtain rfl:kV=.none:=Dflts.noKw hD
 obtain⟨a,vs,ns,rfl,rfl,hobj,hints,hlen⟩:=wH hn hpre hwl
 refine enter_call (OR (call w s₀ s₁ mg mb fa o pm cd doc a vs ns G Y ho (fd_plain hd) hcd hmg hobj hints hlen hg) fun r s' hq=>?_)
 obtain⟨rfl,h2,h3,h4⟩:=hq
 exact⟨.inl ⟨.bool true,.bool true,[],rfl,fun _=>rfl,.bool true,wU l _,fun _=>⟨Lb,fun _ hm=>(nomatch hm)⟩⟩,h2,h3,h4⟩
section
variable{prog:Nv}{w:NA}{A:NH}{E:Nf->Ni->Prop}{s:Ni}{K:Frag}
noncomputable def ledger(h:NB)(L d:Nh):List (Nh × Obj):=(o_ h.objs.size).filterMap fun a=>if a=L\/a=d then none else(h.get? a).map fun o=>(a,o)
end
end Att
namespace L2
open PySem PySem.Spec PyProof.Rows
theorem ni:∀ {vs:List Nf} {ns:List Int},IntsAre vs ns->Vals (ns.map V.int) vs
 | _,_,.nil=>.nil
 | _,_,.cons n t h=>.cons ⟨t,rfl⟩ (ni h)
def Fl(H:Hp):Prop:=∀ b,H b=none\/∃ o xs,H b=some (.frz o (.lst xs))
theorem yv{P:Nv}{w:NA}{K:Ng}{mg mb:Str->Option Nf}{CX:CXT}{k:Nat}{fa a:Nh}{fd:NK}{x:Str}{sp:Sp}{s₁:Ni}{vs:List Nf}{ns:List Int}
  (KX:K.In s₁.heap) (hns:s₁.heap.Ns Oh mg) (hb:s₁.heap.Ns RS mb) (hbb:∀ x:Str,x≠"__name__"->mb x=O5 x) (hlim:s₁.heap.NoLimit) (hg:s₁.gens=#[])
  (ha:s₁.heap.get? a=some { cls:=.type "list",data:=.seq vs.toArray }) (hi:IntsAre vs ns) (hl:ns.length<=sizeLine) (hr:Room k Q0)
  (F:∀ base:NB,K.In base->base.Ns Oh mg->FnOk P w K mg base CX k fa fd [x] sp) (hbind:∀(s:Ni) (u:Nf),RF s fd ⟨[u],[]⟩ [(x,u)])
  (hsp:∀ H:Hp,Fl H->SqL K H a (ns.map V.int)->sp [.ref a] H (fun v _=>v=.bl true) fun _ _ _=>False)
  (hCX:∀ H e s',CX [] H s₁ (fun _ _ _=>False) e s'->False) :
  OL (Nq P w) Q0 (.call (.ref fa) ⟨[.ref a],[]⟩) (fun r s'=>r=.ok (.ret (.bool true))/\OldK s₁.heap s'.heap/\s'.os=s₁.os/\Qn s'.gens) s₁:=by
 have rv:=ni hi
 have lenV:=hi.length
 have core:∀ H:Hp,Fl H->SqL K H a (ns.map V.int)->HOk P w H s₁.heap->(∀ b,H b≠none->b=a)->(H a≠none->K.lookup a=none)->
   OL (Nq P w) Q0 (.call (.ref fa) ⟨[.ref a],[]⟩) (fun r s'=>r=.ok (.ret (.bool true))/\OldK s₁.heap s'.heap/\s'.os=s₁.os/\Qn s'.gens) s₁:=by
  intro H hO hS hok hA hK
  have base_of:∀ {b:Nh} {o:Obj},s₁.heap.get? b=some o->H b=none->(oU s₁.heap H).get? b=some o:=fun e n=>A4 e n
  have noA:∀ {b:Nh} {o:Obj} {es:Array Ph} {ep:Nat},s₁.heap.get? b=some o->o.data=.dict es ep->H b=none:=fun{b o es ep} e d=>by
   cases q:H b with
   | none=>rfl
   | some u=>
    have e':b=a:=hA b (by rw[q];simp)
    subst e'
    rw[ha]at e;cases e
    have d':U7 vs.toArray _=Data.dict es ep:=d
    cases d'
  have nsK:∀ {b:Nh} {m:Str->Option Nf},s₁.heap.Ns b m->(oU s₁.heap H).Ns b m:=fun{b m} ⟨o,es,ep,e,d,r⟩=>⟨o,es,ep,base_of e (noA e d),d,r⟩
  have hKb:K.In (oU s₁.heap H):=fun b o e=>base_of (KX b o e) (by
   cases q:H b with
   | none=>rfl
   | some u=>
    have e':b=a:=hA b (by rw[q];simp)
    subst e'
    rw[hK (by rw[q];simp)]at e;cases e)
  have hM:Mod K mg (oU s₁.heap H):=⟨hKb,nsK hns,⟨mb,nsK hb,hbb⟩,let ⟨mc,h1,h2⟩:=hlim;⟨mc,nsK h1,h2⟩⟩
  have e0:Env0 P w K mg (oU s₁.heap H) Q0 [] s₁ H:=⟨rfl,hM,fun b o e=>C2 e,K4 (x5 _ _),trivial,fun b hb=>absurd (show b∈([]:List Nh)from hb) (by simp),hok,.of_eq hg⟩
  refine OR ((F _ hKb (nsK hns)).run Q0 [] s₁ H ⟨[.ref a],[]⟩ [.ref a] [.ref a] _ _ hr e0 (hbind s₁ (.ref a)) (.cons rfl .nil) (hsp H hO hS)) fun r s' h=>?_
  cases r with
  | error e=>exact(hCX H e s' h).elim
  | ok fl=>
   cases fl with
   | next=>exact NC h
   | brk=>exact NC h
   | cont=>exact NC h
   | ret u=>
    obtain⟨v,H',os,bare,un,hok',r',q⟩:=h
    have q':v=.bl true:=q
    subst q'
    obtain rfl:u=Tn true:=r'
    refine⟨rfl,OldK.of_keep fun b o e=>?_,os,bare⟩
    cases q:H b with
    | none=>exact un.keep b o e q (by intro z;exact absurd (show b∈([]:List Nh)from z) (by simp)) (by simp)
    | some u=>
     rcases hO b with z | ⟨ob,xs,z⟩
     ·rw[q]at z;cases z
     have z2:=un.frzs b ob _ z
     obtain⟨e1,_⟩:=hok b _ z
     obtain⟨e2,_⟩:=hok' b _ z2
     rw[e]at e1;cases e1
     exact e2
 cases hk:K.lookup a with
 | some o=>
  have e:=KX a o hk
  rw[ha]at e
  cases e
  refine core (fun _=>none) (fun _=>.inl rfl) (.inr ⟨_,vs.toArray,_,hk,rfl,rfl,rfl,by rw[q_,lenV];exact hl,by simpa using rv⟩) (fun b u z=>by have z':(none:Option HO)=some u:=z;cases z') (fun b z=>absurd rfl z) fun z=>absurd rfl z
 | none=>
  refine core (fun b=>if b=a then some (.frz { cls:=.type "list",data:=.seq vs.toArray } (.lst (ns.map V.int)))else none) (fun b=>?_) (.inl (.inr ⟨{ cls:=.type "list",data:=.seq vs.toArray },if_pos rfl⟩)) (fun b u z=>?_) (fun b z=>?_) fun _=>hk
  ·by_cases hb:b=a
   ·exact .inr ⟨_,_,if_pos hb⟩
   exact .inl (if_neg hb)
  ·by_cases hb:b=a
   ·have z':=(if_pos hb).symm.trans z
    cases z'
    subst hb
    exact⟨ha,by rw[b_];exact hl,vs,_,rv,ha⟩
   have z':=(if_neg hb).symm.trans z
   cases z'
  by_cases hb:b=a
  ·exact hb
  exact absurd (if_neg hb) z
theorem AJ{l:Rm}{n k:Nat}{q:Nv}{loose:List Str}{XP:(Str->Option Nf)->NB->Prop}{YP:NA->NB->Prop}{d:DefRec}{K:Q5->Ng}{CX:NA->CXT}{sp:NA->Sp}{x:Str}
  (hn:l.most=some n) (hn2:n<=sizeLine) (hdf:d.params.defaults=[]) (hr:Room k Q0)
  (hY:∀(w:NA) (h:NB),YP w h->(K w.params).In h)
  (F:∀(w:NA) (mg:Str->Option Nf) (fa:Nh) (h:NB),(K w.params).In h->h.Ns Oh mg->mg d.name=some (.ref fa)->
   ∃ fd:NK,(∀(s:Ni) (u:Nf),RF s fd ⟨[u],[]⟩ [(x,u)])/\
    ∀ base:NB,(K w.params).In base->base.Ns Oh mg->FnOk l.prog w (K w.params) mg base (CX w) k fa fd [x] (sp w))
  (hsp:∀(w:NA) (H:Hp) (a:Nh) (ns:List Int),ns.length<=n->Fl H->SqL (K w.params) H a (ns.map V.int)->sp w [.ref a] H (fun v _=>v=.bl true) fun _ _ _=>False)
  (hCX:∀(w:NA) (H:Hp) (s:Ni) (e:Nf) (s':Ni),CX w [] H s (fun _ _ _=>False) e s'->False) :
  Ur q loose XP YP l.row.toRowW d [] (fun f vs=>Tw f vs):=by
 refine Att.qE hn hdf fun w s₀ s₁ mg mb fa o pm cd doc a vs ns G Y ho hd hcd hmg hobj hints hlen hg=>?_
 have KX:=hY w _ Y
 obtain⟨fd,hb,hF⟩:=F w mg fa _ KX G.T.g hmg
 exact yv KX G.T.g G.T.b G.T.builtins G.T.nolimit hg hobj hints (v_ hlen hn2) hr hF hb (fun H hO hS=>hsp w H a ns hlen hO hS) fun H e s'=>hCX w H s₁ e s'
noncomputable def cK(s:NZ):Arguments:=match s with
 | .FunctionDef _ a _ _ _ _ _ _ _ _=>a
 | _=>{ posonlyargs:=[],args:=[],vararg:=none,kwonlyargs:=[],kw_defaults:=[],kwarg:=none,defaults:=[] }
def bZ(s:NZ):List NZ:=match s with
 | .FunctionDef _ _ b _ _ _ _ _ _ _=>b
 | _=>[]
noncomputable def aj(s:NZ):Oo:=match s with
 | .FunctionDef _ _ _ _ _ _ sc _ _ _=>sc
 | _=>{ kind:=.function,names:=[],isGenerator:=false,isCoroutine:=false }
abbrev CX0:CXT:=fun _ _ _ _ _ _=>False
abbrev E0:XK:=fun _ _ _=>False
theorem Hr{X:Cx}:Passes CX0 X E0:=fun _ _ _ _ _ _ _ h=>h.elim
structure Fun (K:Ng) (x qual:Str) (st:NZ) (f:Nh) (fd:NK):Prop where
 ex:∃(oc:Nf) (od:Option Nh) (kV doc pm:Nf) (an:Option Nh) (cdv ct:Nf) (osl:Array (Option Nf)),
  fd=OU x qual (cK st) (bZ st) (aj st) .none kV doc pm an cdv ct/\K.lookup f=some ⟨oc,od,.func fd,osl⟩/\Qz K cdv qual=true
 kp:P_ K (.ref f)=true
section
variable{P:Nv}{w:NA}{K:Ng}{mg:Str->Option Nf}{base:NB}
theorem Fun.ok {x qual:Str}{st:NZ}{f:Nh}{fd:NK}{N ps:List Str}{k:Nat}{sp:Sp}(F:Fun K x qual st f fd)(S:FnScope N ps (aj st))(len:∀ vs H Q E,sp vs H Q E->vs.length=ps.length)
  (hbody:∀(cdv:Nf) (A:NH) (outer:List Env) (s:Ni) (H:Hp) (vs:List V) (Q:VK) (E:XK),Room k (A.deeper (Qq qual (aj st) s.heap.objs.size f cdv))->sp vs H Q E->
   ∃ t,PSs (sU CX0 P w K mg base N qual (aj st) f cdv A outer s H E).nox (bZ st) t/\t { nx:=fun _ H'=>Q .non H',rt:=Q } (start N vs) H):FnOk P w K mg base CX0 (k + 1) f fd ps sp:=by
 obtain⟨oc,od,kV,doc,pm,an,cdv,ct,osl,rfl,lk,hcd⟩:=F.ex
 refine Hg lk hcd S len fun A outer s H vs Q E hr hsp=>?_
 obtain⟨t,h,q⟩:=hbody cdv A outer s H vs Q E hr hsp
 exact⟨t,h.nox,q⟩
theorem Fun.binds {x qual:Str}{st:NZ}{f:Nh}{fd:NK}{ps:List Str}(F:Fun K x qual st f fd)
  (h:∀(kV doc pm:Nf) (an:Option Nh) (cdv ct:Nf) (us:List Nf),us.length=ps.length->U6 (OU x qual (cK st) (bZ st) (aj st) .none kV doc pm an cdv ct) ⟨us,[]⟩=pure (ps.zip us)):Binds K fd ps []:=by
 obtain⟨oc,od,kV,doc,pm,an,cdv,ct,osl,rfl,lk,hcd⟩:=F.ex
 exact .all (h kV doc pm an cdv ct)
theorem ui{x qual:Str}{st:NZ}{f:Nh}{oc:Nf}{od an:Option Nh}{osl:Array (Option Nf)}{kV doc pm cdv ct:Nf}(l:K.lookup f=some ⟨oc,od,.func (OU x qual (cK st) (bZ st) (aj st) .none kV doc pm an cdv ct),osl⟩)
  (c:Qz K cdv qual=true) (k:P_ K (.ref f)=true):Fun K x qual st f (OU x qual (cK st) (bZ st) (aj st) .none kV doc pm an cdv ct):=⟨⟨oc,od,kV,doc,pm,an,cdv,ct,osl,rfl,l,c⟩,k⟩
end
theorem fO{A:NH}{k:Nat}(hr:Room k A):A.units + 1 < cLine:=Jq (KP (by decide:1<=64) _) hr.units
section
variable{X:Cx}
theorem pv(i:Nat){x:Str}{pos:Pos}(hN:X.N[i]?=some x:=by rfl)(hv:Vis X.env.scope x:=by first | exact k_ rfl | exact l_ (k_ rfl) | exact l_ (l_ rfl))(hd:(x ==("__debug__":Str))=false:=by decide)
  (hcd:(x ==("__classdict__":Str))=false:=by decide):PE X (.Name x pos) (EJ i):=gf hN hv hd hcd
end
theorem Hw{A B:Prop}(h:B):if false=true then A else B:=by
 rw[if_neg B_]
 exact h
theorem Fq{A B:Prop}(h:A):if true=true then A else B:=by
 rw[if_pos rfl]
 exact h
def aP(H H':Hp):Prop:=∀ b o,H b=some o->H' b=some o
theorem aP.seq {K:Ng}{H H':Hp}{a:Nh}{xs:List V}(e:aP H H')(h:SqL K H a xs):SqL K H' a xs:=by
 rcases h with (h | ⟨o,h⟩) | h
 ·exact .inl (.inl (e _ _ h))
 ·exact .inl (.inr ⟨o,e _ _ h⟩)
 exact .inr h
end L2
namespace ZG
open PySem
def Sq(b:Bool)(h:NB)(l:Nh)(xs:Array Nf):Prop:=match b with
 | true=>h.IsTuple l xs
 | false=>h.IsList l xs
def Dr(b:Bool)(h:NB)(i l:Nh)(k:Nat):Prop:=match b with
 | true=>h.IsTupleIter i l k
 | false=>h.IsListIter i l k
theorem Sq.ext {b:Bool}{h h':NB}{l c:Nh}{xs:Array Nf}(x:Sq b h l xs)(k:PR c h h')(n:l≠c):Sq b h' l xs:=by
 cases b with
 | true=>exact VG (show h.IsTuple l xs from x) k n
 | false=>exact VP (show h.IsList l xs from x) k n
theorem Dr.ext {b:Bool}{h h':NB}{i l c:Nh}{k:Nat}(x:Dr b h i l k)(e:PR c h h')(n:i≠c):Dr b h' i l k:=by
 cases b with
 | true=>exact Vf (show h.IsTupleIter i l k from x) e n
 | false=>exact Vp (show h.IsListIter i l k from x) e n
theorem Dr.some {b:Bool}{h:NB}{i l:Nh}{k:Nat}(x:Dr b h i l k):∃ o,h.get? i=some o/\∀ v,o.data≠.cell v:=by
 cases b with
 | true=>obtain⟨o,e,_,d⟩:=(show h.IsTupleIter i l k from x);exact⟨o,e,fun v z=>by rw[d]at z;cases z⟩
 | false=>obtain⟨o,e,_,d⟩:=(show h.IsListIter i l k from x);exact⟨o,e,fun v z=>by rw[d]at z;cases z⟩
theorem Dr.at {b:Bool}{h h':NB}{i l:Nh}{k:Nat}(x:Dr b h i l k)(e:∀ o,h.get? i=Md o->h'.get? i=Md o):Dr b h' i l k:=by
 cases b with
 | true=>obtain⟨o,q,r⟩:=(show h.IsTupleIter i l k from x);exact⟨o,e o q,r⟩
 | false=>obtain⟨o,q,r⟩:=(show h.IsListIter i l k from x);exact⟨o,e o q,r⟩
theorem Sq.at {b:Bool}{h h':NB}{l:Nh}{xs:Array Nf}(x:Sq b h l xs)(e:∀ o,h.get? l=Md o->h'.get? l=Md o):Sq b h' l xs:=by
 cases b with
 | true=>obtain⟨o,q,r⟩:=(show h.IsTuple l xs from x);exact⟨o,e o q,r⟩
 | false=>obtain⟨o,q,r⟩:=(show h.IsList l xs from x);exact⟨o,e o q,r⟩
section
variable{prog:Nv}{w:NA}{A:NH}{E:Nf->Ni->Prop}{s:Ni}
theorem BN{i l:Nh}{k:Nat}{xs:Array Nf}{v:Nf}{Q:Nf->Ni->Prop}(d:s.heap.IsTupleIter i l k)(q:s.heap.IsTuple l xs)(hv:xs[k]?=some v)
  (r:∀ g,g.IsTupleIter i l (k + 1)->Oa i s.heap g->Q v { s with heap:=g }):Nl (Nq prog w) A (NW (.ref i)) Q E s:=by
 obtain⟨oi,hoi,ci,di⟩:=id d
 obtain⟨ol,hol,_,nl,dl⟩:=q
 unfold NW
 refine Nd (N0 (name:=N7 "__next__") d.typeIs OX (NX OX d.typeIs QI ?_ (QB _)))
 show Nl _ _ (RZ (.ref i) 0 >>= _) _ _ s
 refine Nd (Oi hoi di (x:=.ref l) rfl ?_)
 show Nl _ _ (if(NT l == NR)=true then _ else _) _ _ s
 rw[if_neg (show ¬((NT l == NR)=true)from B_)]
 show Nl _ _ (RZ (.ref i) 1 >>= _) _ _ s
 refine Nd (Oi hoi di (x:=.int k 0) rfl ?_)
 show Nl _ _ (P7 (.ref l) >>= _) _ _ s
 refine Nd (Og hol dl ?_)
 simp only[C_,hv]
 refine Nd (Ow hoi di (by simp) (Nj ⟨v,rfl,Nj (r _ ?_ (N1 ..))⟩))
 exact⟨_,NU _ hoi (OK (NV di _)),(Pp ..).trans ci,by rw[NV di];simp[Oj]⟩
theorem DO{i l:Nh}{k:Nat}{xs:Array Nf}{Q:Nf->Ni->Prop}(hh:A.handled=none)(d:s.heap.IsTupleIter i l k)(q:s.heap.IsTuple l xs)(hv:xs[k]?=none)
  (r:∀ g e,PR i s.heap g->(∃ o,g.get? e=some o/\o.cls=.type "StopIteration")->E (.ref e) { s with heap:=g }):Nl (Nq prog w) A (NW (.ref i)) Q E s:=by
 obtain⟨oi,hoi,ci,di⟩:=id d
 obtain⟨ol,hol,_,nl,dl⟩:=q
 unfold NW
 refine Nd (N0 (name:=N7 "__next__") d.typeIs OX (NX OX d.typeIs QI ?_ (QB _)))
 show Nl _ _ (RZ (.ref i) 0 >>= _) _ _ s
 refine Nd (Oi hoi di (x:=.ref l) rfl ?_)
 show Nl _ _ (if(NT l == NR)=true then _ else _) _ _ s
 rw[if_neg (show ¬((NT l == NR)=true)from B_)]
 show Nl _ _ (RZ (.ref i) 1 >>= _) _ _ s
 refine Nd (Oi hoi di (x:=.int k 0) rfl ?_)
 show Nl _ _ (P7 (.ref l) >>= _) _ _ s
 refine Nd (Og hol dl ?_)
 simp only[C_,hv]
 refine Nd (OZ (Nd (Ow hoi di (by simp) ?_)))
 show Nl _ _ (Q6 (.type "StopIteration") [] >>= _) _ _ _
 refine Nd ?_
 simp only[Q6,S_]
 refine Nd (NI ?_ (by size_fits))
 refine Nd (m:=OO _ _) (Pl (a:=NR) (by first | rfl | (simp only[OO];rfl)) ?_)
 refine NI ?_ (by size_fits)
 simp only[Ta]
 refine Nd (QQ ?_)
 first | rw[show A.in1.handled=none from hh] | rw[hh]
 refine Nd (Nj (RB ?_))
 exact r _ _ (((N1 ..).extBut.push _).push _) ⟨_,Np _ rfl,rfl⟩
theorem oM{b:Bool}{i l:Nh}{k:Nat}{xs:Array Nf}{v:Nf}{Q:Nf->Ni->Prop}(d:Dr b s.heap i l k)(q:Sq b s.heap l xs)(hv:xs[k]?=some v)
  (r:∀ g,Dr b g i l (k + 1)->Oa i s.heap g->Q v { s with heap:=g }):Nl (Nq prog w) A (NW (.ref i)) Q E s:=by
 cases b with
 | true=>exact BN d q hv r
 | false=>exact wpAny_nextOf_list_item d q hv r
theorem zG{b:Bool}{i l:Nh}{k:Nat}{xs:Array Nf}{Q:Nf->Ni->Prop}(hh:A.handled=none)(d:Dr b s.heap i l k)(q:Sq b s.heap l xs)(hv:xs[k]?=none)
  (r:∀ g e,PR i s.heap g->(∃ o,g.get? e=some o/\o.cls=.type "StopIteration")->E (.ref e) { s with heap:=g }):Nl (Nq prog w) A (NW (.ref i)) Q E s:=by
 cases b with
 | true=>exact DO hh d q hv r
 | false=>exact wpAny_nextOf_list_end hh d q hv r
theorem Fi{b:Bool}{l:Nh}{xs:Array Nf}{Q:Nf->Ni->Prop}(q:Sq b s.heap l xs)(r:∀ g,Dr b g s.heap.objs.size l 0->g.objs.size=s.heap.objs.size + 1->(∀ c o,s.heap.get? c=some o->g.get? c=some o)->Q (.ref s.heap.objs.size) { s with heap:=g }) :
  Nl (Nq prog w) A (Qj (.ref l)) Q E s:=by
 cases b with
 | true=>exact Ob q (r _ ⟨_,Np _ rfl,rfl,rfl⟩ (NY ..) fun c o e=>Nk _ e)
 | false=>exact OB q (r _ ⟨_,Np _ rfl,rfl,rfl⟩ (NY ..) fun c o e=>Nk _ e)
structure Off (z TI TO i1 i2 l1 l2:Nh):Prop where
 a1:TI≠z
 a2:TO≠z
 a3:i1≠z
 a4:i2≠z
 a5:TI≠TO
 a6:TI≠i1
 a7:TI≠i2
 a8:TO≠i1
 a9:TO≠i2
 b1:i1≠i2
 c1:l1≠z
 c2:l1≠TO
 c3:l1≠i1
 c4:l1≠i2
 e1:l2≠z
 e2:l2≠TO
 e3:l2≠i1
 e4:l2≠i2
theorem Gm{b1 b2:Bool}{z TI TO i1 i2 l1 l2:Nh}{k:Nat}{xs ys:Array Nf}{x y a b:Nf}{Q:Nf->Ni->Prop}(D:Off z TI TO i1 i2 l1 l2)
  (hz:Pu s.heap z TI TO .none) (hi:OE s.heap TI (.ref i1) (.ref i2)) (ho:OE s.heap TO a b)
  (d1:Dr b1 s.heap i1 l1 k) (d2:Dr b2 s.heap i2 l2 k) (q1:Sq b1 s.heap l1 xs) (q2:Sq b2 s.heap l2 ys) (hx:xs[k]?=some x) (hy:ys[k]?=some y)
  (r:∀ g,Pu g z TI TO (Oj s.heap.objs.size)->OE g TO x y->Dr b1 g i1 l1 (k + 1)->Dr b2 g i2 l2 (k + 1)->OE g s.heap.objs.size x y->g.objs.size=s.heap.objs.size + 1->
   (∀ c o,c≠z->c≠TO->c≠i1->c≠i2->s.heap.get? c=some o->g.get? c=some o)->Q (.ref s.heap.objs.size) { s with heap:=g }) :
  Nl (Nq prog w) A (Ox.«zip.__next__» ⟨[.ref z],[]⟩) (fun fin s'=>∃ v,fin=.done (.ret v)/\Q v s') E s:=by
 show Nl _ _ (RZ (.ref z) 2 >>= _) _ _ _
 refine Nd (Oi hz rfl (x:=.bool false) rfl ?_)
 show Nl _ _ (RZ (.ref z) 3 >>= _) _ _ _
 refine Nd (Oi hz rfl (x:=.ref TI) rfl (Nd (Og hi rfl ?_)))
 show Nl _ _ (Oy (.ref z) >>= _) _ _ _
 refine Nd ?_
 unfold Oy
 refine Nd (Oi hz rfl (x:=.none) rfl (Nj ?_))
 simp only[if_true]
 refine Nd (OZ (Nd (Oi hz rfl (x:=.ref TO) rfl (Nd (OV hz (by simp) fun g1 z1 s1=>?_)))))
 have z1:Pu g1 z TI TO .ellipsis:=z1
 refine Nd ?_
 simp only[LV,MO,L',Mh]
 refine Nd (Nd (QR ?_))
 show Nl _ _ (NW (.ref i1) >>= _) _ _ _
 refine Nd (oM (d1.ext s1.extBut D.a3) (q1.ext s1.extBut D.c1) hx fun g2 w2 s2=>Nj ?_)
 have o2:OE g2 TO a b:=s2.extBut _ _ D.a8 (s1.extBut _ _ D.a2 ho)
 refine Nd (Og o2 rfl (Nd (Qr o2 fun g3 o3 s3=>?_)))
 have o3:OE g3 TO x b:=o3
 refine Nd (Pm (Nj (Nd (Nd (QR ?_)))))
 show Nl _ _ (NW (.ref i2) >>= _) _ _ _
 refine Nd (oM (((d2.ext s1.extBut D.a4).ext s2.extBut D.b1.symm).ext s3.extBut D.a9.symm) (((q2.ext s1.extBut D.e1).ext s2.extBut D.e3).ext s3.extBut D.e2) hy fun g4 w4 s4=>Nj ?_)
 have o4:OE g4 TO x b:=s4.extBut _ _ D.a9 o3
 refine Nd (Og o4 rfl (Nd (Qr o4 fun g5 o5 s5=>?_)))
 have o5:OE g5 TO x y:=o5
 refine Nd (Pm (Nj (Nj (Nd (Og o5 rfl (Nd (T7 ?_)))))))
 have sz:g5.objs.size=s.heap.objs.size:=by rw[s5.1,s4.1,s3.1,s2.1,s1.1]
 have z5:Pu g5 z TI TO .ellipsis:=s5.extBut _ _ D.a2.symm (s4.extBut _ _ D.a4.symm (s3.extBut _ _ D.a2.symm (s2.extBut _ _ D.a3.symm z1)))
 have k5:∀ c o,c≠z->c≠TO->c≠i1->c≠i2->s.heap.get? c=some o->g5.get? c=some o:=fun c o n1 n2 n3 n4 e=>
  s5.extBut _ _ n2 (s4.extBut _ _ n4 (s3.extBut _ _ n2 (s2.extBut _ _ n3 (s1.extBut _ _ n1 e))))
 have w15:Dr b1 g5 i1 l1 (k + 1):=((w2.ext s3.extBut D.a8.symm).ext s4.extBut D.b1).ext s5.extBut D.a8.symm
 have w25:Dr b2 g5 i2 l2 (k + 1):=w4.ext s5.extBut D.a9.symm
 have zlt:z < g5.objs.size:=Nt z5
 show Nl _ _ (P8 (.ref z) (.ref g5.objs.size) >>= _) _ _ _
 refine Nd ?_
 unfold P8
 have z6:Pu (g5.push { cls:=.type "tuple",data:=.seq #[x,y] }) z TI TO .ellipsis:=Nk _ z5
 refine Nd (OV z6 (by simp) fun g7 z7 s7=>?_)
 have z7:Pu g7 z TI TO (Oj g5.objs.size):=z7
 refine OV z7 (by simp) fun g8 z8 s8=>?_
 have z8:Pu g8 z TI TO (Oj g5.objs.size):=z8
 have up:∀ c o,c≠z->g5.get? c=some o->g8.get? c=some o:=fun c o n e=>s8.extBut _ _ n (s7.extBut _ _ n (Nk _ e))
 have t8:OE g8 g5.objs.size x y:=s8.extBut _ _ (J4 zlt) (s7.extBut _ _ (J4 zlt) (Np _ rfl))
 have e8:g8.objs.size=g5.objs.size + 1:=by rw[s8.1,s7.1,NY]
 rw[sz]at z8 t8 e8
 refine Nj ⟨_,rfl,?_⟩
 show Q (.ref g5.objs.size) _
 rw[sz]
 exact r g8 z8 (up _ _ D.a2 o5) (w15.at fun o e=>up _ o D.a3 e) (w25.at fun o e=>up _ o D.a4 e) t8 e8 fun c o n1 n2 n3 n4 e=>up c o n1 (k5 c o n1 n2 n3 n4 e)
theorem zEnd{b1 b2:Bool}{z TI TO i1 i2 l1 l2:Nh}{k:Nat}{xs ys:Array Nf}{a b:Nf}{Q:Fin->Ni->Prop}(hh:A.handled=none)(D:Off z TI TO i1 i2 l1 l2)
  (hz:Pu s.heap z TI TO .none) (hi:OE s.heap TI (.ref i1) (.ref i2)) (ho:OE s.heap TO a b)
  (d1:Dr b1 s.heap i1 l1 k) (d2:Dr b2 s.heap i2 l2 k) (q1:Sq b1 s.heap l1 xs) (q2:Sq b2 s.heap l2 ys) (hn:xs[k]?=none\/ys[k]?=none)
  (r:∀ g e,(∀ c o,c≠z->c≠TO->c≠i1->c≠i2->s.heap.get? c=some o->g.get? c=some o)->(∃ o,g.get? e=some o/\o.cls=.type "StopIteration")->E (.ref e) { s with heap:=g }) :
  Nl (Nq prog w) A (Ox.«zip.__next__» ⟨[.ref z],[]⟩) Q E s:=by
 show Nl _ _ (RZ (.ref z) 2 >>= _) _ _ _
 refine Nd (Oi hz rfl (x:=.bool false) rfl ?_)
 show Nl _ _ (RZ (.ref z) 3 >>= _) _ _ _
 refine Nd (Oi hz rfl (x:=.ref TI) rfl (Nd (Og hi rfl ?_)))
 show Nl _ _ (Oy (.ref z) >>= _) _ _ _
 refine Nd ?_
 unfold Oy
 refine Nd (Oi hz rfl (x:=.none) rfl (Nj ?_))
 simp only[if_true]
 refine Nd (OZ (Nd (Oi hz rfl (x:=.ref TO) rfl (Nd (OV hz (by simp) fun g1 z1 s1=>?_)))))
 have z1:Pu g1 z TI TO .ellipsis:=z1
 refine Nd ?_
 simp only[LV,MO,L',Mh]
 refine Nd (Nd (QR ?_))
 show Nl _ _ (NW (.ref i1) >>= _) _ _ _
 cases hx:xs[k]? with
 | none=>
  refine Nd (zG hh (d1.ext s1.extBut D.a3) (q1.ext s1.extBut D.c1) hx fun g2 e s2 he=>?_)
  obtain⟨oe,hoe,ce⟩:=he
  have z2:Pu g2 z TI TO .ellipsis:=s2 _ _ D.a3.symm z1
  have ne:e≠z:=fun q=>by subst q;rw[z2]at hoe;cases hoe;simp at ce
  exact OV z2 (by simp) fun g3 _ s3=>r g3 e (fun c o n1 _ n3 _ q=>s3.extBut _ _ n1 (s2 _ _ n3 (s1.extBut _ _ n1 q))) ⟨oe,s3.extBut _ _ ne hoe,ce⟩
 | some x=>
  have hy:ys[k]?=none:=by
   rcases hn with h | h
   ·rw[hx]at h;cases h
   exact h
  refine Nd (oM (d1.ext s1.extBut D.a3) (q1.ext s1.extBut D.c1) hx fun g2 w2 s2=>Nj ?_)
  have o2:OE g2 TO a b:=s2.extBut _ _ D.a8 (s1.extBut _ _ D.a2 ho)
  refine Nd (Og o2 rfl (Nd (Qr o2 fun g3 o3 s3=>?_)))
  refine Nd (Pm (Nj (Nd (Nd (QR ?_)))))
  show Nl _ _ (NW (.ref i2) >>= _) _ _ _
  refine Nd (zG hh (((d2.ext s1.extBut D.a4).ext s2.extBut D.b1.symm).ext s3.extBut D.a9.symm) (((q2.ext s1.extBut D.e1).ext s2.extBut D.e3).ext s3.extBut D.e2) hy fun g4 e s4 he=>?_)
  obtain⟨oe,hoe,ce⟩:=he
  have z4:Pu g4 z TI TO .ellipsis:=s4 _ _ D.a4.symm (s3.extBut _ _ D.a2.symm (s2.extBut _ _ D.a3.symm z1))
  have ne:e≠z:=fun q=>by subst q;rw[z4]at hoe;cases hoe;simp at ce
  exact OV z4 (by simp) fun g5 _ s5=>r g5 e (fun c o n1 n2 n3 n4 q=>s5.extBut _ _ n1 (s4 _ _ n4 (s3.extBut _ _ n2 (s2.extBut _ _ n3 (s1.extBut _ _ n1 q))))) ⟨oe,s5.extBut _ _ ne hoe,ce⟩
theorem sG{b1 b2:Bool}{z TI TO i1 i2 l1 l2:Nh}{k:Nat}{xs ys:Array Nf}{x y a b:Nf}{Q:Option Nf->Ni->Prop}(D:Off z TI TO i1 i2 l1 l2)
  (hz:Pu s.heap z TI TO .none) (hi:OE s.heap TI (.ref i1) (.ref i2)) (ho:OE s.heap TO a b)
  (d1:Dr b1 s.heap i1 l1 k) (d2:Dr b2 s.heap i2 l2 k) (q1:Sq b1 s.heap l1 xs) (q2:Sq b2 s.heap l2 ys) (hx:xs[k]?=some x) (hy:ys[k]?=some y)
  (r:∀ g,Pu g z TI TO (Oj s.heap.objs.size)->OE g TO x y->Dr b1 g i1 l1 (k + 1)->Dr b2 g i2 l2 (k + 1)->OE g s.heap.objs.size x y->g.objs.size=s.heap.objs.size + 1->
   (∀ c o,c≠z->c≠TO->c≠i1->c≠i2->s.heap.get? c=some o->g.get? c=some o)->Q (some (.ref s.heap.objs.size)) { s with heap:=g }) :
  Nl (Nq prog w) A (OJ (.ref z)) Q E s:=by
 have hT:s.TypeIs (.ref z) "zip":=⟨_,hz,rfl⟩
 unfold OJ
 refine Nd (OG (N0 (name:=N7 "__next__") hT Qs (NX Qs hT Tb ?_ (SN _))))
 exact Gm D hz hi ho d1 d2 q1 q2 hx hy fun g p1 p2 p3 p4 p5 p6 p7=>Nj (r g p1 p2 p3 p4 p5 p6 p7)
theorem tQ{b1 b2:Bool}{z TI TO i1 i2 l1 l2:Nh}{k:Nat}{xs ys:Array Nf}{a b:Nf}{Q:Option Nf->Ni->Prop}(hh:A.handled=none)(D:Off z TI TO i1 i2 l1 l2)
  (hz:Pu s.heap z TI TO .none) (hi:OE s.heap TI (.ref i1) (.ref i2)) (ho:OE s.heap TO a b)
  (d1:Dr b1 s.heap i1 l1 k) (d2:Dr b2 s.heap i2 l2 k) (q1:Sq b1 s.heap l1 xs) (q2:Sq b2 s.heap l2 ys) (hn:xs[k]?=none\/ys[k]?=none)
  (r:∀ g,(∀ c o,c≠z->c≠TO->c≠i1->c≠i2->s.heap.get? c=some o->g.get? c=some o)->Q none { s with heap:=g }):Nl (Nq prog w) A (OJ (.ref z)) Q E s:=by
 have hT:s.TypeIs (.ref z) "zip":=⟨_,hz,rfl⟩
 unfold OJ
 refine Nd (OG (N0 (name:=N7 "__next__") hT Qs (NX Qs hT Tb (zEnd hh D hz hi ho d1 d2 q1 q2 hn fun g e k he=>?_) (SN _))))
 obtain⟨o,he,hc⟩:=he
 exact Nd (Pw (T:="StopIteration") (b:=true) ⟨o,he,hc⟩ QC (Nj (r _ k)))
end
def nm(b:Bool):String:=if b=true then "tuple_iterator" else "list_iterator"
abbrev Z1(h:NB)(b1:Bool)(l1:Nh):NB:=h.push { cls:=.type (nm b1),data:=.fields #[.ref l1,.int 0 0] }
abbrev Z2(h:NB)(b1 b2:Bool)(l1 l2:Nh):NB:=(Z1 h b1 l1).push { cls:=.type (nm b2),data:=.fields #[.ref l2,.int 0 0] }
abbrev Z3(h:NB)(b1 b2:Bool)(l1 l2:Nh):NB:=(Z2 h b1 b2 l1 l2).push { cls:=.type "tuple",data:=.seq #[.ref h.objs.size,.ref (Z1 h b1 l1).objs.size] }
abbrev Z4(h:NB)(b1 b2:Bool)(l1 l2:Nh):NB:=(Z3 h b1 b2 l1 l2).push { cls:=.type "tuple",data:=.seq #[.none,.none] }
abbrev Z5(h:NB)(b1 b2:Bool)(l1 l2:Nh):NB:=(Z4 h b1 b2 l1 l2).push { cls:=.type "zip",data:=.fields #[.none,.bool false,.bool false,.ref (Z2 h b1 b2 l1 l2).objs.size,.ref (Z3 h b1 b2 l1 l2).objs.size] }
set_option maxHeartbeats 4000000 in
theorem Bp(b1 b2:Bool)(l1 l2:Nh)(xs ys:Array Nf) :
  Meets (Ox.«zip.__new__» ⟨[.type "zip",.ref l1,.ref l2],[]⟩) (fun _ R s=>Sq b1 s.heap l1 xs/\Sq b2 s.heap l2 ys/\R (.ok (.ret (.ref (Z4 s.heap b1 b2 l1 l2).objs.size))) { s with heap:=Z5 s.heap b1 b2 l1 l2 }):=
 .of_wp fun prog w A R s h=>by
  obtain⟨hp,g,d,tk,os⟩:=s
  obtain⟨q1,q2,h⟩:=h
  have hsub:=sub_zip
  cases b1 with
  | false=>
   have p1:S3 (PU ⟨hp,g,d,tk,os⟩) l1 xs:=q1
   cases b2 with
   | false=>
    have p2:S3 (PU ⟨hp.push { cls:=.type "list_iterator",data:=.fields #[.ref l1,.int 0 0] },g,d,tk,os⟩) l2 ys:=Tc q2 _
    wp_walk using OB p1,OB p2
    exact⟨_,rfl,h⟩
   | true=>
    have p2:Q7 (PU ⟨hp.push { cls:=.type "list_iterator",data:=.fields #[.ref l1,.int 0 0] },g,d,tk,os⟩) l2 ys:=SO q2 _
    wp_walk using OB p1,Ob p2
    exact⟨_,rfl,h⟩
  | true=>
   have p1:Q7 (PU ⟨hp,g,d,tk,os⟩) l1 xs:=q1
   cases b2 with
   | false=>
    have p2:S3 (PU ⟨hp.push { cls:=.type "tuple_iterator",data:=.fields #[.ref l1,.int 0 0] },g,d,tk,os⟩) l2 ys:=Tc q2 _
    wp_walk using Ob p1,OB p2
    exact⟨_,rfl,h⟩
   | true=>
    have p2:Q7 (PU ⟨hp.push { cls:=.type "tuple_iterator",data:=.fields #[.ref l1,.int 0 0] },g,d,tk,os⟩) l2 ys:=SO q2 _
    wp_walk using Ob p1,Ob p2
    exact⟨_,rfl,h⟩
section
variable{prog:Nv}{w:NA}{A:NH}{E:Nf->Ni->Prop}{s:Ni}
theorem yd{b1 b2:Bool}{l1 l2:Nh}{xs ys:Array Nf}{Q:Nf->Ni->Prop}(q1:Sq b1 s.heap l1 xs)(q2:Sq b2 s.heap l2 ys)
  (r:∀ g,Pu g (s.heap.objs.size + 4) (s.heap.objs.size + 2) (s.heap.objs.size + 3) .none->OE g (s.heap.objs.size + 2) (.ref s.heap.objs.size) (.ref (s.heap.objs.size + 1))->OE g (s.heap.objs.size + 3) .none .none->
    Dr b1 g s.heap.objs.size l1 0->Dr b2 g (s.heap.objs.size + 1) l2 0->g.objs.size=s.heap.objs.size + 5->(∀ c o,s.heap.get? c=some o->g.get? c=some o)->Q (.ref (s.heap.objs.size + 4)) { s with heap:=g }) :
  Nl (Nq prog w) A (call (.type "zip") [.ref l1,.ref l2]) Q E s:=by
 refine U8 F.called_zip (by decide) (F.typeCall_zip_2 _ _) (F.newCall_zip_2 _ _) (fun obj=>F.args_object_init_3 obj _ _) F.entry_zip_new (Bp b1 b2 l1 l2 xs ys) ⟨q1,q2,?_⟩
 have z1:(Z1 s.heap b1 l1).objs.size=s.heap.objs.size + 1:=NY ..
 have z2:(Z2 s.heap b1 b2 l1 l2).objs.size=s.heap.objs.size + 2:=by rw[NY,z1]
 have z3:(Z3 s.heap b1 b2 l1 l2).objs.size=s.heap.objs.size + 3:=by rw[NY,z2]
 have z4:(Z4 s.heap b1 b2 l1 l2).objs.size=s.heap.objs.size + 4:=by rw[NY,z3]
 have z5:(Z5 s.heap b1 b2 l1 l2).objs.size=s.heap.objs.size + 5:=by rw[NY,z4]
 have u5:∀ c o,(Z4 s.heap b1 b2 l1 l2).get? c=some o->(Z5 s.heap b1 b2 l1 l2).get? c=some o:=fun c o e=>Nk _ e
 have u4:∀ c o,(Z3 s.heap b1 b2 l1 l2).get? c=some o->(Z5 s.heap b1 b2 l1 l2).get? c=some o:=fun c o e=>u5 c o (Nk _ e)
 have u3:∀ c o,(Z2 s.heap b1 b2 l1 l2).get? c=some o->(Z5 s.heap b1 b2 l1 l2).get? c=some o:=fun c o e=>u4 c o (Nk _ e)
 have u2:∀ c o,(Z1 s.heap b1 l1).get? c=some o->(Z5 s.heap b1 b2 l1 l2).get? c=some o:=fun c o e=>u3 c o (Nk _ e)
 have g5:(Z5 s.heap b1 b2 l1 l2).get? (Z4 s.heap b1 b2 l1 l2).objs.size=some _:=Np _ rfl
 have g4:=u5 (Z3 s.heap b1 b2 l1 l2).objs.size _ (Np _ rfl)
 have g3:=u4 (Z2 s.heap b1 b2 l1 l2).objs.size _ (Np _ rfl)
 have g2:=u3 (Z1 s.heap b1 l1).objs.size _ (Np _ rfl)
 have g1:=u2 s.heap.objs.size _ (Np _ rfl)
 show _/\_
 rw[z2,z3,z4]at g5
 rw[z1,z2]at g3
 rw[z3]at g4
 rw[z1]at g2
 rw[z4]
 refine⟨⟨_,g5,rfl⟩,r _ g5 g3 g4 ?_ ?_ z5 fun c o e=>u2 c o (Nk _ e)⟩
 ·cases b1 with
  | true=>exact⟨_,g1,rfl,rfl⟩
  | false=>exact⟨_,g1,rfl,rfl⟩
 cases b2 with
 | true=>exact⟨_,g2,rfl,rfl⟩
 | false=>exact⟨_,g2,rfl,rfl⟩
end
end ZG
namespace L2
open PySem PySem.Spec PyProof.Rows
noncomputable def cH(env:Env):List (Str × O6)->List (Str × Nh)->List (Str × Nh)
 | [],cs=>cs
 | x::r,cs=>cH env r (if(x.2 == OH)=true then(x.1,(env.cells.lookup x.1).getD 0)::cs else cs)
theorem l6{env:Env}(f:Str × O6->List (Str × Nh)->Sem (ForInStep (List (Str × Nh))))(hf:∀ n k cs,f (n,k) cs=if(k == OH)=true then(do let a <-cellOf env n;pure (NG ((n,a)::cs)))else pure (NG cs)) :
  ∀(names:List (Str × O6)) (cs:List (Str × Nh)),(∀ x∈names,x.2=.free->∃ c,env.cells.lookup x.1=some c)->forIn names cs f=pure (cH env names cs)
 | [],cs,_=>by rw[Mh];rfl
 | (n,k)::r,cs,h=>by
  rw[L',hf]
  have hr:∀ x∈r,x.2=.free->∃ c,env.cells.lookup x.1=some c:=fun x hx=>h x (n_ _ hx)
  by_cases e:(k == OH)=true
  ·obtain⟨c,hc⟩:=h (n,k) p_ (by simpa using e)
   have hc':env.cells.lookup n=some c:=hc
   rw[if_pos e]
   have q:cellOf env n=pure c:=by unfold cellOf;rw[hc']
   rw[q,pure_bind,pure_bind]
   show forIn r ((n,c)::cs) f=pure (cH env ((n,k)::r) cs)
   rw[l6 f hf r _ hr]
   unfold cH
   rw[if_pos e,hc']
   cases r <;> rfl
  rw[if_neg e,pure_bind]
  show forIn r cs f=pure (cH env ((n,k)::r) cs)
  rw[l6 f hf r _ hr]
  conv=>rhs;unfold cH
  rw[if_neg e]
theorem lK{sc:Oo}{env:Env}(h:∀ x∈sc.names,x.2=.free->∃ c,env.cells.lookup x.1=some c):closureFor sc env=pure (cH env sc.names []):=by
 unfold closureFor
 show(forIn sc.names [] _ >>= fun cs=>pure cs)=_
 rw[l6 (env:=env) _ (fun n k cs=>by cases e:k == OH <;> simp[e]) sc.names [] h]
 rfl
theorem qr{env:Env}:∀ {names:List (Str × O6)} {cs:List (Str × Nh)} {x:Str} {c:Nh},(∀ y∈names,y.2=.free->∃ c,env.cells.lookup y.1=some c)->(cH env names cs).lookup x=some c->
  (env.cells.lookup x=some c/\(x,OH)∈names)\/cs.lookup x=some c
 | [],cs,x,c,_,h=>.inr h
 | (n,k)::r,cs,x,c,hn,h=>by
  unfold cH at h
  have hr:∀ y∈r,y.2=.free->∃ c,env.cells.lookup y.1=some c:=fun y hy=>hn y (n_ _ hy)
  have hh:=qr hr h
  clear h
  rcases hh with⟨h1,h2⟩ | h
  ·exact .inl ⟨h1,n_ _ h2⟩
  by_cases e:(k == OH)=true
  ·rw[if_pos e]at h
   obtain⟨c',hc⟩:=hn (n,k) p_ (by simpa using e)
   have hc':env.cells.lookup n=some c':=hc
   rw[hc',KD]at h
   by_cases ex:(x == n)=true
   ·rw[ex]at h
    have ex':x=n:=by simpa using ex
    have ek:k=OH:=by simpa using e
    subst ex' ek
    have h':c'=c:=D_ h
    subst h'
    exact .inl ⟨hc',p_⟩
   have ex':(x == n)=false:=by simpa using ex
   rw[ex']at h
   exact .inr h
  rw[if_neg e]at h
  exact .inr h
theorem r9{env:Env}:∀ {names:List (Str × O6)} {cs:List (Str × Nh)} {x:Str} {c:Nh},(∀ y∈names,y.2=.free->∃ c,env.cells.lookup y.1=some c)->env.cells.lookup x=some c->cs.lookup x=some c->(cH env names cs).lookup x=some c
 | [],cs,x,c,_,_,h=>h
 | (n,k)::r,cs,x,c,hn,he,h=>by
  unfold cH
  refine r9 (fun y hy=>hn y (n_ _ hy)) he ?_
  by_cases e:(k == OH)=true
  ·rw[if_pos e,KD]
   by_cases ex:(x == n)=true
   ·rw[ex]
    have ex':x=n:=by simpa using ex
    subst ex'
    show some ((env.cells.lookup x).getD 0)=some c
    rw[he];rfl
   have ex':(x == n)=false:=by simpa using ex
   rw[ex']
   exact h
  rw[if_neg e]
  exact h
theorem pq{env:Env}:∀ {names:List (Str × O6)} {cs:List (Str × Nh)} {x:Str} {c:Nh},(∀ y∈names,y.2=.free->∃ c,env.cells.lookup y.1=some c)->env.cells.lookup x=some c->(x,OH)∈names->(cH env names cs).lookup x=some c
 | (n,k)::r,cs,x,c,hn,he,hm=>by
  have hr:∀ y∈r,y.2=.free->∃ c,env.cells.lookup y.1=some c:=fun y hy=>hn y (n_ _ hy)
  unfold cH
  rcases m_.mp hm with e | hm
  ·obtain⟨rfl,rfl⟩:=Prod.mk.inj e
   rw[if_pos (by rfl)]
   refine r9 hr he ?_
   rw[KD,beq_self_eq_true]
   show some ((env.cells.lookup x).getD 0)=some c
   rw[he];rfl
  exact pq hr he hm
noncomputable def lL(env:Env)(sc:Oo):Oo:={ sc with names:=sc.names.map fun x=>if(x.2 == .free && env.scope.kind == .function && env.kindOf x.1 == some .cell)=true then(x.1,.cell)else(x.1,x.2) }
theorem gM{f:Str × O6->Bool}(x:Str):∀ names:List (Str × O6),(names.map fun y=>if f y=true then(y.1,Wc)else(y.1,y.2)).lookup x=(names.lookup x).map fun k=>if f (x,k)=true then .cell else k
 | []=>rfl
 | (n,k)::r=>by
  rw[f_]
  by_cases ex:(x == n)=true
  ·have ex':x=n:=by simpa using ex
   subst ex'
   cases e:f (x,k) <;> simp[e,KD]
  have ex':(x == n)=false:=by simpa using ex
  have ih:=gM (f:=f) x r
  cases e:f (n,k) <;> simp only[e,if_true,if_false,Ji,KD,ex',ih]
theorem iM(env:Env)(sc:Oo)(x:Str):(lL env sc).names.lookup x=(sc.names.lookup x).map fun k=>if(k == .free && env.scope.kind == .function && env.kindOf x == some .cell)=true then .cell else k:=
 gM (f:=fun y=>(y.2 == .free && env.scope.kind == .function && env.kindOf y.1 == some .cell)) x sc.names
noncomputable def compEnv(env:Env)(sc:Oo)(L:Nh):Env:={ newEnv sc L env.globals (cH env sc.names []) env.qual none .none (some env) RS with scope:=lL env sc }
section
variable{M:Po}{A:NH}{E:Nf->Ni->Prop}{s:Ni}{env:Env}
theorem jf{e:Nz}{scope:Oo}{pos:Pos}{newAcc first:Sem Nf}{g:QS}{gs:List QS}{Q:Nf->Ni->Prop}
  (hcl:clausesOf e=g::gs) (hs:∀ x,Of g.iter env x=pure x)
  (hc:∀ x∈scope.names,x.2≠.cell) (hfr:∀ x∈scope.names,x.2=.free->∃ c,env.cells.lookup x.1=some c) (hkind:scope.kind=.function) (hnames:∀ x∈scope.names,x.2=.local->scope.names.lookup x.1=some .local)
  (h:Nl M A first (fun x s₁=>Nl M A (Qj x) (fun it s₂=>Nl M A newAcc (fun acc s₃=>
   ∀ h4,h4.Ns s₃.heap.objs.size (fun _=>none)->(∀ b o,s₃.heap.get? b=some o->h4.get? b=some o)->
    OL M A (.compStart e 0 it acc (compEnv env scope s₃.heap.objs.size)) (fun r s'=>∃ m,s'.heap.Ns s₃.heap.objs.size m/\∀ h',Oa s₃.heap.objs.size s'.heap h'->
     match r with | .ok _=>Q acc { s' with heap:=h' } | .error x=>False) { s₃ with heap:=h4 }) E s₂) E s₁) E s) :
  Nl M A (Qm e scope env pos newAcc false first) Q E s:=by
 unfold Qm
 rw[lK hfr,hcl]
 refine Nd (NN h (fun x s₁ h₁=>Nd (PD (Nd (Pl (hs x) (Nd (NJ (NN h₁ (fun it s₂ h₂=>
  Us (Nd (NN h₂ (fun acc s₃ h₃=>Nd (Nj (Nd ?_))) fun _ _ h'=>h')))
   fun _ _ h'=>h'))))))) fun _ _ h'=>h')
 refine R0 hc (fun x hx=>nomatch hx) (fun h4 hn4 hs4=>?_) hkind
 have h₄:=h₃ h4 hn4 fun b o e=>hs4.extBut b o (r_ (Nt e)) (Nk _ e)
 dsimp only
 have hv:∀ x∈(scope.names.filter fun x=>(x.2 == .local || x.2 == .cell) && x.1 !=(".0":Str)).reverse,x.2=.local->
   Tx (compEnv env scope s₃.heap.objs.size) x.1=some .local:=fun x hx hl=>by
  show(lL env scope).names.lookup x.1=some .local
  rw[iM,hnames x (Jv.mp (ML.mp hx)).1 hl]
  rfl
 refine NJ (Nd (OG (NJ (wpAny_run (OR h₄ fun r s' hr=>?_)))))
 obtain⟨m,hn,hr⟩:=hr
 cases r with
 | ok f=>exact Nd (NJ (Td (cenv:=compEnv env scope s₃.heap.objs.size) hkind _ s' m hv hn fun h' m' _ hs'=>Nj (hr h' hs')))
 | error x=>exact(hr s'.heap (.refl ..)).elim
end
section
variable{prog:Nv}{w:NA}{A:NH}{R:Sm->Ni->Prop}{s:Ni}
theorem jR{elt target iter:Nz}{ifs:List Nz}{scope:Oo}{pos:Pos}{it acc:Nf}{env:Env}(I:Nat->Ni->Prop)
  (turn:∀ n s,I n s->Nl (Nq prog w) A (OJ it) (fun r s₁=>match r with
   | none=>R (.ok .next) s₁
   | some v=>Nl (Nq prog w) A (Qp target it v) (fun _ s₁'=>Nl (Nq prog w) A (Qi target env v) (fun _ s₂=>
     Nl (Nq prog w) A (forIn ifs true fun c r=>if r=true then do let ok <-RD c env (NS c env);pure (NG ok)else pure (NG r)) (fun ok s₃=>
      if ok=true then Nl (Nq prog w) A (NS elt env) (fun x s₄=>
       Nl (Nq prog w) A (call (.builtin "list.append") [acc,x]) (fun _ s₅=>∃ m,m < n/\I m s₅) (fun _ _=>False) s₄) (fun _ _=>False) s₃
      else ∃ m,m < n/\I m s₃) (fun _ _=>False) s₂) (fun _ _=>False) s₁') (fun _ _=>False) s₁) (fun _ _=>False) s)
  (n:Nat) (h:I n s) :
  OL (Nq prog w) A (.compLoop (.ListComp elt [⟨target,iter,ifs,0⟩] scope pos) 0 it acc env) R s:=by
 refine codeAny_loop rfl I (fun n s hI=>?_) n h
 show Nl _ A ((compTurn (.ListComp elt [⟨target,iter,ifs,0⟩] scope pos) 0 it acc env).onRaise (fun x=>do noteFrame x env;theTreesLotGoes x)) _ _ s
 refine wpAny_noted ?_
 rw[compTurn_list]
 refine Nd (PD (Nd (NN (turn n s hI) (fun r s₁ h₁=>?_) fun _ _ h'=>h'.elim)))
 cases r with
 | none=>exact Nj h₁
 | some v=>
  refine Nd (NN h₁ (fun _ s₁' h₁'=>?_) fun _ _ h'=>h'.elim)
  refine Nd (NN h₁' (fun _ s₂ h₂=>Nd (NN h₂ (fun ok s₃ h₃=>?_) fun _ _ h'=>h'.elim)) fun _ _ h'=>h'.elim)
  cases ok with
  | false=>exact Nj ⟨rfl,h₃⟩
  | true=>
   exact Nd (Nd (NN h₃ (fun x s₄ h₄=>Nd (NN h₄ (fun _ s₅ h₅=>Nj (Nj ⟨rfl,h₅⟩)) fun _ _ h'=>h'.elim)) fun _ _ h'=>h'.elim))
end
noncomputable def aI(X:Cx)(N':List Str)(sc:Oo)(s3:Ni)(H3:Hp)(fp:List Nh):Cx where
 prog:=X.prog
 w:=X.w
 K:=X.K
 mg:=X.mg
 base:=X.base
 A:=X.A
 N:=N'
 s₀:=s3
 H₀:=H3
 env:=compEnv X.env sc s3.heap.objs.size
 outer:=X.stack
 stack:=X.stack
 ex:=fp
 calm:=true
 fn:=fun _=>false
 pn:=[]
 xe:=fun _ _=>False
noncomputable def dW(N:List Str)(esc sc:Oo)(N':List Str)(fr:List (Option Nat)):Bool:=
 sc.kind == .function && esc.kind == .function
 && sc.names.all (fun y=>(y.2 != .cell) && (y.2 != .free || esc.names.lookup y.1 == some .cell) && (y.2 != .local || sc.names.lookup y.1 == some .local))
 && fr.length == N'.length
 && (o_ N'.length).all (fun i=>match fr[i]? with
  | some (some j)=>match N'[i]? with
   | some x=>N[j]? == some x && sc.names.lookup x == some .free
   | none=>false
  | _=>true)
structure CompOk (N:List Str) (esc sc:Oo) (N':List Str) (fr:List (Option Nat)):Prop where
 kind:sc.kind=.function
 ekind:esc.kind=.function
 nocell:∀ x∈sc.names,x.2≠.cell
 free:∀ x∈sc.names,x.2=.free->esc.names.lookup x.1=some .cell
 names:∀ x∈sc.names,x.2=.local->sc.names.lookup x.1=some .local
 len:fr.length=N'.length
 at_:∀(i j:Nat) (x:Str),fr[i]?=some (some j)->N'[i]?=some x->N[j]?=some x/\sc.names.lookup x=some .free
theorem nJ{N:List Str}{esc sc:Oo}{N':List Str}{fr:List (Option Nat)}(h:dW N esc sc N' fr=true):CompOk N esc sc N' fr:=by
 unfold dW at h
 simp only[E_,beq_iff_eq,JB,Jh]at h
 obtain⟨⟨⟨⟨h1,h2⟩,h3⟩,h4⟩,h5⟩:=h
 refine⟨h1,h2,fun x hx=>?_,fun x hx e=>?_,fun x hx e=>?_,h4,fun i j x e1 e2=>?_⟩
 ·have:=(h3 x hx).1.1
  simpa using this
 ·have:=(h3 x hx).1.2
  rw[e]at this
  simpa using this
 ·have:=(h3 x hx).2
  rw[e]at this
  simpa using this
 have hi:i < N'.length:=(c_.mp e2).1
 have q:=h5 i hi
 rw[e1,e2]at q
 simpa using q
def bE(fr:List (Option Nat))(σ:St):St:=fr.map fun o=>match o with
 | some j=>(σ[j]?).join
 | none=>none
theorem rP{X:Cx}{pins:List (Nh × Obj)}{σ:St}{H3:Hp}{s3:Ni}{sc:Oo}{N':List Str}{fr:List (Option Nat)}{fp:List Nh}{h4:NB}(I:Inv X pins σ H3 s3)(C:CompOk X.N X.env.scope sc N' fr)(hc:X.calm=true)
  (hfp:∀ b∈fp,iH X pins H3 b) (hfo:∀ b∈fp,∃ o,s3.heap.get? b=some o) (hn:h4.Ns s3.heap.objs.size (fun _=>none)) (hk:∀ b o,s3.heap.get? b=some o->h4.get? b=some o) :
  Inv (aI X N' sc s3 H3 fp) [] (bE fr σ) H3 { s3 with heap:=h4 }:=by
 have hfr:∀ x∈sc.names,x.2=.free->∃ c,X.env.cells.lookup x.1=some c:=fun x hx e=>I.ok.has x.1 (.inl (C.free x hx e))
 have clo:∀ {x c},(cH X.env sc.names []).lookup x=some c->X.env.cells.lookup x=some c:=fun{x c} e=>by
  rcases qr hfr e with⟨h1,_⟩ | h
  ·exact h1
  cases h
 have nfs:∀ b∈fp,b ∉ frs X.stack:=fun b hb z=>by
  obtain⟨_,h1,h2,_⟩:=hfp b hb
  rcases m_.mp (I.sV b z)with e | e
  ·exact h1 e
  exact h2 e
 have hfresh:H3 s3.heap.objs.size=none:=I.hok.fresh (d_ _)
 refine⟨⟨I.ok.mod,C.kind,I.ok.glob,I.ok.blt,d_ _,fun x y c e1 e2=>I.ok.inj x y c (clo e1) (clo e2),fun x hx=>?_,fun x c z=>(nomatch z),fun _=>I.ok.hd hc,I.ok.frames,.inl rfl,fun b hb=>⟨?_,fun x c e=>?_⟩,fun b o e=>I.bs b o e,v_ I.ok.bsz I.sz,fun b o e hb=>?_,nfs,I.stack,I.uY⟩,
  rfl,I.bare,Un.kept hk,⟨_,hn,fun i x v e1 e2 e3=>?_⟩,fun x c e=>?_,hfresh,fun x c e=>I.freeC x c (clo e),fun p hp=>(nomatch hp),I.hok.kept hk,?_⟩
 ·have hx:(lL X.env sc).names.lookup x=some .cell\/(lL X.env sc).names.lookup x=some .free:=hx
  rw[iM]at hx
  cases e:sc.names.lookup x with
  | none=>rw[e]at hx;rcases hx with z | z <;> cases z
  | some k=>
   have hm:(x,k)∈sc.names:=OD e
   have hk:k=.free:=by
    rw[e]at hx
    cases k with
    | free=>rfl
    | cell=>exact absurd rfl (C.nocell _ hm)
    | _=>rcases hx with z | z <;>(simp at z)
   subst hk
   obtain⟨c,hc'⟩:=hfr _ hm rfl
   exact⟨c,pq hfr hc' hm⟩
 ·obtain⟨o,ho⟩:=hfo b hb
  exact r_ (Nt ho)
 ·exact(hfp b hb).2.2.2.2.1 x c (clo e)
 ·obtain⟨e1,_⟩:=I.ok.bs b o e
  rcases(hfp b hb).2.2.2.1 with z | z
  ·exact I.ok.noex b o e z
  exact absurd (x_ (Nt e1) z) (JZ _)
 ·have e2:(bE fr σ)[i]?=some (some v):=e2
  unfold bE at e2
  rw[A']at e2
  cases ef:fr[i]? with
  | none=>rw[ef]at e2;cases e2
  | some o=>
   rw[ef]at e2
   cases o with
   | none=>cases e2
   | some j=>
    have e2':(σ[j]?).join=some v:=by simpa using e2
    have e2'':σ[j]?=some (some v):=by
     cases q:σ[j]? with
     | none=>rw[q]at e2';cases e2'
     | some z=>rw[q]at e2';exact congrArg some e2'
    obtain⟨hN,hfrx⟩:=C.at_ i j x ef e1
    have hm:(x,OH)∈sc.names:=OD hfrx
    have hcell:=C.free _ hm rfl
    obtain⟨m,_,hl⟩:=I.loc
    obtain⟨u,r,l⟩:=hl j x v hN e2'' (.inr (.inl hcell))
    refine⟨u,r,.inr ⟨.inl ?_,?_⟩⟩
    ·show(lL X.env sc).names.lookup x=some .cell
     rw[iM,hfrx]
     have h1:X.env.kindOf x=some .cell:=hcell
     have h2:X.env.scope.kind=.function:=C.ekind
     simp[h1,h2]
    rcases l with⟨k,_⟩ | ⟨_,c,ec,ic⟩
    ·have h1:X.env.kindOf x=some .cell:=hcell
     rw[h1]at k;cases k
    obtain⟨o,ho,hd⟩:=ic
    exact⟨c,pq hfr ec hm,o,hk c o ho,hd⟩
 ·obtain⟨v,o,ho,hd⟩:=I.cell x c (clo e)
  exact⟨v,o,hk c o ho,hd⟩
 unfold bE
 rw[b_]
 exact C.len
noncomputable def PTs(X:Cx)(ifs:List Nz)(t:TT):Prop:=
 ∀(pins:List (Nh × Obj)) (s:Ni) (σ:St) (H:Hp) (Q:Bool->Hp->Prop),Inv X pins σ H s->t σ H Q->
  Nl (Nq X.prog X.w) X.A (forIn ifs true fun c r=>if r=true then do let ok <-RD c X.env (NS c X.env);pure (NG ok)else pure (NG r)) (TP X pins σ Q) X.xe s
def ES:TT:=fun _ H Q=>Q true H
theorem vP{X:Cx}:PTs X [] ES:=fun pins s σ H Q I h=>wpAny_tests_nil ⟨H,I,h⟩
theorem Cb{X:Cx}{c:Nz}{t:TT}(h:PT X c t):PTs X [c] t:=fun pins s σ H Q I q=>wpAny_tests_one (h pins s σ H Q I q)
noncomputable def Cz(J:It)(fr:List (Option Nat))(g:Ni->Hp->List Nh->TG)(tt:Ni->Hp->List Nh->TT)(te:Ni->Hp->List Nh->TE)(σ:St)(H1:Hp)(Q:VK):Prop:=∀ p,H1 p=none->∀ s3 H3' fp,∃ W:Nat->Nat->St->Hp->Prop,(∃ m,W 0 m (bE fr σ) (upd H1 p (.lst [])))/\∀ i m σ' H',W i m σ' H'->
 (J.stop i H'/\Q (.ref p) H')\/(J.go i H'/\∀ x H2,J.yld i H' x H2->g s3 H3' fp x σ' H2 fun σ2 H3=>tt s3 H3' fp σ2 H3 fun b H4=>
  if b=true then te s3 H3' fp σ2 H4 fun v H5=>∃ ys,H5 p=some (.lst ys)/\ys.length < sizeLine/\∃ m',m' < m/\W (i + 1) m' σ2 (upd H5 p (.lst (ys++[v])))else ∃ m',m' < m/\W (i + 1) m' σ2 H4)
noncomputable def uU(wi:TI)(fr:List (Option Nat))(g:Ni->Hp->List Nh->TG)(tt:Ni->Hp->List Nh->TT)(te:Ni->Hp->List Nh->TE):TE:=fun σ H Q=>wi σ H fun J H1=>Cz J fr g tt te σ H1 Q
theorem Bo{X:Cx}(N':List Str)(fr:List (Option Nat)){elt target iter:Nz}{ifs:List Nz}{sc:Oo}{pos:Pos}{wi:TI}{g:Ni->Hp->List Nh->TG}{tt:Ni->Hp->List Nh->TT}{te:Ni->Hp->List Nh->TE}(hc:X.calm=true)(C:dW X.N X.env.scope sc N' fr=true)
  (hi:PI X target iter wi) (hg:∀ s3 H3 fp,PG (aI X N' sc s3 H3 fp) target (g s3 H3 fp)) (ht:∀ s3 H3 fp,PTs (aI X N' sc s3 H3 fp) ifs (tt s3 H3 fp)) (he:∀ s3 H3 fp,PE (aI X N' sc s3 H3 fp) elt (te s3 H3 fp))
  (hs:∀ x,Of iter X.env x=pure x:=by intro _;rfl):PE X (.ListComp elt [⟨target,iter,ifs,0⟩] sc pos) (uU wi fr g tt te):=by
 have C:=nJ C
 intro pins s σ H Q I h
 rw[eval_ListComp]
 have hfr:∀ x∈sc.names,x.2=.free->∃ c,X.env.cells.lookup x.1=some c:=fun x hx e=>I.ok.has x.1 (.inl (C.free x hx e))
 refine jf (g:=⟨target,iter,ifs,0⟩) (gs:=[]) rfl hs C.nocell hfr C.kind C.names ?_
 show Nl _ _ (NS iter X.env) _ _ s
 refine thn (hi pins s σ H _ I h) fun v s1 h1=>thn h1 fun itv s2 h2=>?_
 obtain⟨it,fp,tn,J,H2,e,I2,T,st2,f2,k2⟩:=h2
 subst e
 refine PH ?_ (by show 0<=sizeLine;decide)
 have hf:H2 s2.heap.objs.size=none:=I2.hok.fresh (d_ _)
 obtain⟨W,⟨m0,w0⟩,turn⟩:=k2 _ hf { s2 with heap:=s2.heap.push { cls:=.type "list",data:=.seq ([]:List Nf).toArray } } (upd H2 s2.heap.objs.size (.lst [])) fp
 have kp:∀ b u,s2.heap.get? b=some u->(s2.heap.push { cls:=.type "list",data:=.seq ([]:List Nf).toArray }).get? b=some u:=fun b u e=>Nk _ e
 have I3:Inv X pins σ (upd H2 s2.heap.objs.size (.lst [])) { s2 with heap:=s2.heap.push { cls:=.type "list",data:=.seq ([]:List Nf).toArray } }:=
  I2.laid (t':=s2.toks) kp (d_ _) ⟨G_ _,[],0,.nil,Np _ rfl⟩
 have obj2:=T.obj 0 s2.heap st2
 have fpne:∀ b∈fp,b≠s2.heap.objs.size:=fun b hb=>by
  obtain⟨o,ho,_⟩:=obj2 b hb
  exact r_ (Nt ho)
 have f3:∀ b∈fp,iH X pins (upd H2 s2.heap.objs.size (.lst [])) b:=fun b hb=>⟨by rw[au (fpne b hb)];exact(f2 b hb).1,(f2 b hb).2⟩
 have st3:=T.keep 0 s2.heap _ st2 fun b hb o e=>kp b o e
 have obj3:=T.obj 0 _ st3
 intro h4 hn4 hk4
 have st4:=T.keep 0 _ h4 st3 fun b hb o e=>hk4 b o e
 have I4:=rP (N':=N') (fr:=fr) (fp:=fp) I3 C hc f3 (fun b hb=>let ⟨o,ho,_⟩:=obj3 b hb;⟨o,ho⟩) hn4 hk4
 have stat:∀ {H':Hp},(∀ b∈fp,H' b=none)->∀ b∈fp,iH (aI X N' sc { s2 with heap:=s2.heap.push { cls:=.type "list",data:=.seq ([]:List Nf).toArray } } (upd H2 s2.heap.objs.size (.lst [])) fp) [] H' b:=fun hn b hb=>
  ⟨hn b hb,(I4.ok.exf b hb).1,I4.ok.exfs b hb,.inl hb,(I4.ok.exf b hb).2,fun p hp=>(nomatch hp)⟩
 have loop:OL (Nq X.prog X.w) X.A (.compLoop (.ListComp elt [⟨target,iter,ifs,0⟩] sc pos) 0 (.ref it) (.ref s2.heap.objs.size) (compEnv X.env sc (s2.heap.push { cls:=.type "list",data:=.seq ([]:List Nf).toArray }).objs.size))
   (fun r s'=>∃ m,s'.heap.Ns (s2.heap.push { cls:=.type "list",data:=.seq ([]:List Nf).toArray }).objs.size m/\∀ h',Oa (s2.heap.push { cls:=.type "list",data:=.seq ([]:List Nf).toArray }).objs.size s'.heap h'->
    match r with | .ok _=>EP X pins σ Q (.ref s2.heap.objs.size) { s' with heap:=h' } | .error x=>False) { s2 with heap:=h4 }:=by
  refine jR (fun n s'=>∃ i σ' H',Inv (aI X N' sc { s2 with heap:=s2.heap.push { cls:=.type "list",data:=.seq ([]:List Nf).toArray } } (upd H2 s2.heap.objs.size (.lst [])) fp) [] σ' H' s'/\tn i s'.heap/\(∀ b∈fp,H' b=none)/\W i n σ' H') ?_ m0
   ⟨0,_,_,I4,st4,fun b hb=>(f3 b hb).1,w0⟩
  rintro n s5 ⟨i,σ5,H5,I5,st5,fr5,w5⟩
  rcases turn i n σ5 H5 w5 with⟨stop,q⟩ | ⟨go,step⟩
  ·refine thn (T.done (aI X N' sc _ _ fp) rfl rfl rfl rfl i [] s5 σ5 H5 (fun _ _=>False) I5 (stat fr5) st5 stop) ?_
   rintro r s6 ⟨hr,I6⟩
   subst hr
   obtain⟨m6,hn6,_⟩:=id I6.loc
   refine⟨m6,hn6,fun h' hs'=>?_⟩
   have hL:H5 (s2.heap.push { cls:=.type "list",data:=.seq ([]:List Nf).toArray }).objs.size=none:=I6.free
   have hok':HOk X.prog X.w H5 h':=fun b u e=>by
    refine(I6.hok b u e).dI (fun c v hc q=>(hs'.2 c ?_).trans q) (fun _ q=>q) fun _ _ q=>q
    rintro rfl
    rcases hc with rfl | hc
    ·rw[hL]at e;cases e
    rw[hL]at hc;cases hc
   have ub:=I6.base
   have lt:∀ b o,(s2.heap.push { cls:=.type "list",data:=.seq ([]:List Nf).toArray }).get? b=some o->b≠(s2.heap.push { cls:=.type "list",data:=.seq ([]:List Nf).toArray }).objs.size:=fun b o e=>r_ (Nt e)
   have un:Un (frs X.stack) fp (upd H2 s2.heap.objs.size (.lst [])) H5 (s2.heap.push { cls:=.type "list",data:=.seq ([]:List Nf).toArray }) h':=
    ⟨fun b o e n hb hx=>(hs'.2 b (lt b o e)).trans (ub.keep b o e n hb hx),fun b o e n hb hx=>let ⟨sl,z⟩:=ub.slot b o e n hb hx;⟨sl,(hs'.2 b (lt b o e)).trans z⟩,ub.free,
     fun b o e hx=>let ⟨o',z⟩:=ub.there b o e hx;⟨o',(hs'.2 b (lt b o e)).trans z⟩,ub.tups,ub.frzs,ub.tbls⟩
   refine⟨.ref s2.heap.objs.size,H5,I3.Cw (s':={ s6 with heap:=h' }) (ch:=fp) I6.os un hok' I6.bare (fun b hb=>?_),rfl,q⟩
   obtain⟨_,g1,g2,g3,g4,g5⟩:=f3 b hb
   exact⟨g3,g1,g4,g5⟩
  refine thn (T.item (aI X N' sc _ _ fp) rfl rfl rfl rfl i [] s5 σ5 H5 (fun _ _=>False) I5 (stat fr5) st5 go) ?_
  rintro r s6 ⟨u,hr,h6⟩
  subst hr
  refine thn h6 ?_
  rintro _ s7 ⟨x,H7,I7,r7,y7,st7,fr7⟩
  have I7':=I7.pinned (stat fr7) (T.obj _ _ st7)
  have again:∀ {σ8:St} {H8:Hp} {s8:Ni},Inv (aI X N' sc { s2 with heap:=s2.heap.push { cls:=.type "list",data:=.seq ([]:List Nf).toArray } } (upd H2 s2.heap.objs.size (.lst [])) fp) ([]++ju fp s7.heap) σ8 H8 s8->(∃ m',m' < n/\W (i + 1) m' σ8 H8)->
    ∃ m,m < n/\∃ i σ' H',Inv (aI X N' sc { s2 with heap:=s2.heap.push { cls:=.type "list",data:=.seq ([]:List Nf).toArray } } (upd H2 s2.heap.objs.size (.lst [])) fp) [] σ' H' s8/\tn i s8.heap/\(∀ b∈fp,H' b=none)/\W i m σ' H':=fun{σ8 H8 s8} I8 ⟨m',hm,w8⟩=>by
   refine⟨m',hm,i + 1,σ8,H8,I8.eY,T.keep _ _ _ st7 fun b hb o e=>(I8.pin (b,o) (s_ _ (s_ _ (bV hb e)))).1,fun b hb=>?_,w8⟩
   obtain⟨o,e,d⟩:=T.obj _ _ st7 b hb
   exact(I8.pin (b,o) (s_ _ (s_ _ (bV hb e)))).2.1
  refine thn (hg _ _ fp _ s7 σ5 H7 x u _ I7' r7 (step x H7 y7)) ?_
  rintro _ s8 ⟨σ8,H8,I8,q8⟩
  refine thn (ht _ _ fp _ s8 σ8 H8 _ I8 q8) ?_
  rintro ok s9 ⟨H9,I9,q9⟩
  cases ok with
  | false=>exact again I9 q9
  | true=>
   refine thn (he _ _ fp _ s9 σ8 H9 _ I9 q9) ?_
   rintro y s10 ⟨v,H10,I10,r10,ys,hys,hl,q10⟩
   refine thn (jj _ s10 σ8 H10 (.ref s2.heap.objs.size) [v] (.ref s2.heap.objs.size) [y] (fun _ H'=>∃ m',m' < n/\W (i + 1) m' σ8 H') I10 rfl (.cons r10 .nil) ⟨_,ys,v,rfl,rfl,hys,hl,q10⟩) ?_
   rintro z s11 ⟨_,H11,I11,_,q11⟩
   exact again I11 q11
 refine RC loop ?_
 exact T.self X.A 0 _ _ _ st4 loop
def SqG(b:Bool)(K:Ng)(H:Hp)(a:Nh)(xs:List V):Prop:=match b with
 | true=>SqT K H a xs
 | false=>SqL K H a xs
section
variable{X:Cx}{pins:List (Nh × Obj)}{σ:St}{H:Hp}{s:Ni}
theorem Inv.sq (I:Inv X pins σ H s){b:Bool}{a:Nh}{xs:List V}(h:SqG b X.K H a xs):∃ its:List Nf,Vals xs its/\ZG.Sq b s.heap a its.toArray/\xs.length<=sizeLine:=by
 cases b with
 | true=>exact I.tuple h
 | false=>
  obtain⟨its,r,p,z⟩:=I.list h
  exact⟨its,r,p.isList,z⟩
theorem Inv.u6 (I:Inv X pins σ H s){b:Bool}{a:Nh}{xs ys:List V}(h:SqG b X.K H a xs)(h':SqG b X.K H a ys):xs=ys:=by
 cases b with
 | true=>exact I.ff h h'
 | false=>exact I.ml h h'
theorem Inv.Dh (I:Inv X pins σ H s){a b:Nh}{u:HO}(h:Rd H a u)(f:iH X pins H b):a≠b:=by
 rintro rfl
 rcases h with h | ⟨o,h⟩
 ·rw[f.1]at h;cases h
 rw[f.1]at h;cases h
theorem Inv.Gy (I:Inv X pins σ H s){a b:Nh}{o:Obj}(h:X.K.lookup a=some o)(f:iH X pins H b):a≠b:=by
 rintro rfl
 have e:X.base.get? a=some o:=I.ok.mod.kin a o h
 rcases f.2.2.2.1 with z | z
 ·exact I.ok.noex a o e z
 exact absurd (x_ (Nt (I.ok.bs a o e).1) z) (JZ _)
theorem Inv.bP (I:Inv X pins σ H s){b:Bool}{a c:Nh}{xs:List V}(h:SqG b X.K H a xs)(f:iH X pins H c):a≠c:=by
 cases b with
 | true=>
  rcases h with h | ⟨o,its,n,hk,_⟩
  ·exact I.Dh h f
  ·exact I.Gy hk f
 | false=>
  rcases h with h | ⟨o,its,n,hk,_⟩
  ·exact I.Dh h f
  exact I.Gy hk f
end
noncomputable def Itz(K:Ng)(b1:Bool)(a1:Nh)(b2:Bool)(a2:Nh):It:=
  ⟨fun i H=>∃ xs ys x y,SqG b1 K H a1 xs/\SqG b2 K H a2 ys/\xs[i]?=some x/\ys[i]?=some y,
   fun i H v H'=>∃ p x y,H p=none/\v=.ref p/\H'=upd H p (.tup [x,y])/\(∀ xs,SqG b1 K H a1 xs->xs[i]?=some x)/\∀ ys,SqG b2 K H a2 ys->ys[i]?=some y,
   fun i H=>∃ xs ys,SqG b1 K H a1 xs/\SqG b2 K H a2 ys/\(xs.length<=i\/ys.length<=i)⟩
structure Off5 (z TI TO i1 i2:Nh):Prop where
 a1:TI≠z
 a2:TO≠z
 a3:i1≠z
 a4:i2≠z
 a5:TI≠TO
 a6:TI≠i1
 a7:TI≠i2
 a8:TO≠i1
 a9:TO≠i2
 b1:i1≠i2
theorem zV{P:Nv}{w:NA}{K:Ng}{es:List Nz}{x1:Nat}{tp:Pos}(b1:Bool)(a1:Nh)(b2:Bool)(a2 z TI TO i1 i2:Nh)(D:Off5 z TI TO i1 i2) :
  Turn P w K (.Tuple es x1 tp) (Itz K b1 a1 b2 a2) [z,TI,TO,i1,i2] z (fun i h=>Pu h z TI TO .none/\OE h TI (.ref i1) (.ref i2)/\(∃ a b,OE h TO a b)/\ZG.Dr b1 h i1 a1 i/\ZG.Dr b2 h i2 a2 i) where
 mem:=by simp
 obj:=fun i h st b hb=>by
  obtain⟨hz,hi,⟨a,c,ho⟩,d1,d2⟩:=st
  have hb:b=z\/b=TI\/b=TO\/b=i1\/b=i2:=by simpa using hb
  rcases hb with rfl | rfl | rfl | rfl | rfl
  ·exact⟨_,hz,fun v e=>by cases (show Ru _=QH v from e)⟩
  ·exact⟨_,hi,fun v e=>by cases (show U7 _ _=QH v from e)⟩
  ·exact⟨_,ho,fun v e=>by cases (show U7 _ _=QH v from e)⟩
  ·exact d1.some
  exact d2.some
 keep:=fun i h h' st k=>by
  obtain⟨hz,hi,⟨a,c,ho⟩,d1,d2⟩:=st
  exact⟨k z (by simp) _ hz,k TI (by simp) _ hi,⟨a,c,k TO (by simp) _ ho⟩,d1.at fun o e=>k i1 (by simp) o e,d2.at fun o e=>k i2 (by simp) o e⟩
 item:=by
  intro X hP hw hK hc i pins s σ H E I hf st hg
  subst hP hw hK
  obtain⟨xs,ys,x,y,q1,q2,hx,hy⟩:=hg
  obtain⟨its,rv,p1,z1⟩:=I.sq q1
  obtain⟨jts,sv,p2,z2⟩:=I.sq q2
  obtain⟨u,hu,ru⟩:=rv.get hx
  obtain⟨v,hv,rw'⟩:=sv.get hy
  obtain⟨hz,hi,⟨a,c,ho⟩,d1,d2⟩:=st
  have fz:=hf z (by simp)
  have fTI:=hf TI (by simp)
  have fTO:=hf TO (by simp)
  have f1:=hf i1 (by simp)
  have f2:=hf i2 (by simp)
  have DD:ZG.Off z TI TO i1 i2 a1 a2:=⟨D.a1,D.a2,D.a3,D.a4,D.a5,D.a6,D.a7,D.a8,D.a9,D.b1,I.bP q1 fz,I.bP q1 fTO,I.bP q1 f1,I.bP q1 f2,I.bP q2 fz,I.bP q2 fTO,I.bP q2 f1,I.bP q2 f2⟩
  refine ZG.sG DD hz hi ho d1 d2 p1 p2 (by simpa using hu) (by simpa using hv) fun g gz gO g1 g2 gT gs gk=>⟨_,rfl,?_⟩
  refine wpAny_letOwnedTupleGo_zip (s:={ s with heap:=g }) gz fun h' hz' hs'=>?_
  have hfresh:H s.heap.objs.size=none:=I.hok.fresh (d_ _)
  have zT:s.heap.objs.size≠z:=J4 (Nt hz)
  have kp:∀ b o,b ∉ [z,TI,TO,i1,i2]->s.heap.get? b=some o->h'.get? b=some o:=fun b o hb e=>by
   have n:b≠z/\b≠TI/\b≠TO/\b≠i1/\b≠i2:=by simpa using hb
   exact hs'.extBut _ _ n.1 (gk b o n.1 n.2.2.1 n.2.2.2.1 n.2.2.2.2 e)
  have hT:h'.get? s.heap.objs.size=some { cls:=.type "tuple",data:=.seq #[u,v] }:=hs'.extBut _ _ zT gT
  have notfp:∀ b o,H b=some o->b ∉ [z,TI,TO,i1,i2]:=fun b o e hb=>by
   have:=(hf b hb).1
   rw[e]at this;cases this
  have ne:∀ b o,s.heap.get? b=some o->b≠s.heap.objs.size:=fun b o e=>r_ (Nt e)
  have nt:∀ b o,H b=some o->b≠s.heap.objs.size:=fun b o e=>aY e hfresh
  have I1:Inv X pins σ (upd H s.heap.objs.size (.tup [x,y])) { s with heap:=h' }:=by
   refine I.step (g':=s.gens) (d':=s.drawn) (t':=s.toks) (ch:=[z,TI,TO,i1,i2]) (fun b hb=>?_) (fun b o _ _ hc e _=>kp b o hc e) (fun b o _ _ hc e _=>⟨o.slots,kp b o hc e⟩)
    (fun b o _ e n=>by rw[au (ne b o e)];exact n) (fun b o hc e=>⟨o,kp b o hc e⟩) (fun b zs e=>by rw[au (nt b _ e)];exact e) (fun b o u e=>by rw[au (nt b _ e)];exact e)
    (fun b ps e=>⟨#[],by rw[au (nt b _ e),e];simp⟩) (fun m hm=>?_) (fun b o e=>?_) I.bare
   ·obtain⟨g0,g1,g2,g3,g4,g5⟩:=hf b hb
    exact⟨g3,g1,g4,g5⟩
   ·obtain⟨o,es,ep,ho',r⟩:=hm
    exact⟨o,es,ep,kp _ o (fun hb=>(hf _ hb).2.1 rfl) ho',r⟩
   by_cases hb:b=s.heap.objs.size
   ·subst hb
    rw[ay]at e
    cases e
    exact⟨by show 2<=sizeLine;decide,[u,v],.cons ru (.cons rw' .nil),_,hT,rfl,_,rfl⟩
   rw[au hb]at e
   refine(I.hok b o e).dI (fun c' w' hc' q=>kp c' w' ?_ q) (fun c' q=>by rw[au (nt c' _ q)];exact q) fun c' zs q=>by rw[au (nt c' _ q)];exact q
   rcases hc' with rfl | hc'
   ·exact notfp _ _ e
   exact notfp _ _ hc'
  refine⟨.ref s.heap.objs.size,_,I1,rfl,⟨s.heap.objs.size,x,y,hfresh,rfl,rfl,fun zs hq=>by rw[I.u6 hq q1];exact hx,fun zs hq=>by rw[I.u6 hq q2];exact hy⟩,?_,fun b hb=>?_⟩
  ·exact⟨hz',hs'.extBut _ _ D.a1 (gk _ _ D.a1 D.a5 D.a6 D.a7 hi),⟨_,_,hs'.extBut _ _ D.a2 gO⟩,g1.ext hs'.extBut D.a3,g2.ext hs'.extBut D.a4⟩
  have hb0:=(hf b hb).1
  have hb':b=z\/b=TI\/b=TO\/b=i1\/b=i2:=by simpa using hb
  have hlt:∃ o,s.heap.get? b=some o:=by
   rcases hb' with rfl | rfl | rfl | rfl | rfl
   ·exact⟨_,hz⟩
   ·exact⟨_,hi⟩
   ·exact⟨_,ho⟩
   ·obtain⟨o,e,_⟩:=d1.some;exact⟨o,e⟩
   obtain⟨o,e,_⟩:=d2.some;exact⟨o,e⟩
  obtain⟨o,e⟩:=hlt
  rw[au (ne b o e)]
  exact hb0
 done:=by
  intro X hP hw hK hc i pins s σ H E I hf st hg
  subst hP hw hK
  obtain⟨xs,ys,q1,q2,hn⟩:=hg
  obtain⟨its,rv,p1,z1⟩:=I.sq q1
  obtain⟨jts,sv,p2,z2⟩:=I.sq q2
  obtain⟨hz,hi,⟨a,c,ho⟩,d1,d2⟩:=st
  have fz:=hf z (by simp)
  have fTI:=hf TI (by simp)
  have fTO:=hf TO (by simp)
  have f1:=hf i1 (by simp)
  have f2:=hf i2 (by simp)
  have DD:ZG.Off z TI TO i1 i2 a1 a2:=⟨D.a1,D.a2,D.a3,D.a4,D.a5,D.a6,D.a7,D.a8,D.a9,D.b1,I.bP q1 fz,I.bP q1 fTO,I.bP q1 f1,I.bP q1 f2,I.bP q2 fz,I.bP q2 fTO,I.bP q2 f1,I.bP q2 f2⟩
  have l1:=rv.length
  have l2:=sv.length
  refine ZG.tQ (I.ok.hd hc) DD hz hi ho d1 d2 p1 p2 (hn.elim (fun z=>.inl (by simp;omega)) fun z=>.inr (by simp;omega)) fun g gk=>⟨rfl,?_⟩
  have kp:∀ b o,b ∉ [z,TI,TO,i1,i2]->s.heap.get? b=some o->g.get? b=some o:=fun b o hb e=>by
   have n:b≠z/\b≠TI/\b≠TO/\b≠i1/\b≠i2:=by simpa using hb
   exact gk b o n.1 n.2.2.1 n.2.2.2.1 n.2.2.2.2 e
  have notfp:∀ b o,H b=some o->b ∉ [z,TI,TO,i1,i2]:=fun b o e hb=>by
   have:=(hf b hb).1
   rw[e]at this;cases this
  refine I.step (g':=s.gens) (d':=s.drawn) (t':=s.toks) (ch:=[z,TI,TO,i1,i2]) (fun b hb=>?_) (fun b o _ _ hc e _=>kp b o hc e) (fun b o _ _ hc e _=>⟨o.slots,kp b o hc e⟩)
   (fun b o _ e n=>n) (fun b o hc e=>⟨o,kp b o hc e⟩) (fun b zs e=>e) (fun b o u e=>e) (fun b ps e=>⟨#[],by rw[e];simp⟩) (fun m hm=>?_) (fun b o e=>?_) I.bare
  ·obtain⟨g0,g1,g2,g3,g4,g5⟩:=hf b hb
   exact⟨g3,g1,g4,g5⟩
  ·obtain⟨o,es,ep,ho',r⟩:=hm
   exact⟨o,es,ep,kp _ o (fun hb=>(hf _ hb).2.1 rfl) ho',r⟩
  refine(I.hok b o e).dI (fun c' w' hc' q=>kp c' w' ?_ q) (fun c' q=>q) fun c' zs q=>q
  rcases hc' with rfl | hc'
  ·exact notfp _ _ e
  exact notfp _ _ hc'
 self:=fun _ _ _ _ _ st h=>Te st.1 h
noncomputable def Iy(K:Ng)(ta:TA):TI:=fun σ H R=>ta σ H fun vs H1=>∃ b1 a1 b2 a2,vs=[.ref a1,.ref a2]/\(∃ xs,SqG b1 K H1 a1 xs)/\(∃ ys,SqG b2 K H1 a2 ys)/\R (Itz K b1 a1 b2 a2) H1
theorem FC{X:Cx}{es:List Nz}{x1:Nat}{tp:Pos}{a b:Nz}{ta:TA}{p pos:Pos}(hg:Gl X "zip")(hm:X.mg "zip"=none)(ha:PA X [a,b] ta)(hs:NF [a,b] X.env=[(false,NS a X.env),(false,NS b X.env)]:=by rfl)(hs2:NF [b] X.env=[(false,NS b X.env)]:=by rfl) :
  PI X (.Tuple es x1 tp) (.Call (.Name "zip" p) [a,b] [] pos) (Iy X.K ta):=by
 intro pins s σ H R I h
 refine Vy (cp I hg hm boot_zip (OQ (thn (ha pos pins s σ H _ I h) fun us s1 ⟨vs,H1,I1,r1,q1⟩=>?_) (by rw[hs,hs2]) (by rw[hs2];rfl)))
 obtain⟨b1,a1,b2,a2,e,⟨xs,q1⟩,⟨ys,q2⟩,q⟩:=q1
 subst e
 cases r1 with
 | cons r rr=>
  cases rr with
  | cons r' rr=>
   cases rr
   cases r
   cases r'
   obtain⟨its,rv,p1,z1⟩:=I1.sq q1
   obtain⟨jts,sv,p2,z2⟩:=I1.sq q2
   refine ZG.yd p1 p2 fun g gz gi go g1 g2 gs gk=>Te (s:={ s1 with heap:=g }) gz ?_
   have I2:Inv X pins σ H1 { s1 with heap:=g }:=I1.kept (t':=s1.toks) gk
   refine⟨_,_,_,_,H1,rfl,I2,zV b1 a1 b2 a2 _ (s1.heap.objs.size + 2) (s1.heap.objs.size + 3) s1.heap.objs.size (s1.heap.objs.size + 1) ?_,⟨gz,gi,⟨_,_,go⟩,g1,g2⟩,fun b hb=>?_,q⟩
   ·constructor <;>(show(_:Nat)≠_) <;> omega
   have hb':s1.heap.objs.size<=b:=by
    have z:b=s1.heap.objs.size + 4\/b=s1.heap.objs.size + 2\/b=s1.heap.objs.size + 3\/b=s1.heap.objs.size\/b=s1.heap.objs.size + 1:=by simpa using hb
    rcases z with z | z | z | z | z <;> rw[z] <;>(show(_:Nat)<=_) <;> omega
   exact I1.tF hb' (I1.hok.fresh hb')
def bools(bs:List Bool):List V:=bs.map V.bl
theorem wc{bs:List Bool}{us:List Nf}(r:Vals (bools bs) us){i:Nat}{u:Nf}(h:us[i]?=some u):∃ b,bs[i]?=some b/\u=.bool b:=by
 have hl:=r.length
 have hi:i < us.length:=(c_.mp h).1
 have hb:i < bs.length:=by rw[<-hl]at hi;simpa[bools]using hi
 have e:(bools bs)[i]?=some (.bl bs[i]):=by unfold bools;rw[A',a_ hb];rfl
 obtain⟨u',h',ru⟩:=r.get e
 rw[h]at h'
 cases h'
 exact⟨bs[i],a_ hb,ru⟩
theorem ug(bs:List Bool):((o_ bs.length).all fun i=>(bs[i]?).getD true)=bs.all id:=by
 have e:bs=(o_ bs.length).map fun i=>(bs[i]?).getD true:=by
  apply List.ext_getElem
  ·simp
  intro i h1 h2;simp[h1]
 conv=>rhs;rw[e,K5]
 rfl
section
variable{X:Cx}
theorem qN(hc:X.calm=true):bh X (.builtin "all") (fun xs H Q=>∃ a bs,xs=[.ref a]/\SqL X.K H a (bools bs)/\Q (.bl (bs.all id)) H):=by
 intro pins s σ H xs us Q I r h
 obtain⟨a,bs,rfl,hq,q⟩:=h
 obtain⟨u,rfl,ru⟩:=vals1 r
 cases ru
 obtain⟨its,rv,p,z⟩:=I.list hq
 have hl:=p.isList
 have hlt:a < s.heap.objs.size:=by obtain⟨_,e,_⟩:=hl;exact Nt e
 have hlen:its.toArray.size=bs.length:=by rw[q_,<-rv.length];simp[bools]
 refine call_all_walk (OB hl ⟨s.heap.objs.size,[s.heap.objs.size,a],[s.heap.objs.size],its.toArray.size,_,_,fun i=>(bs[i]?).getD true,rfl,R1 (A:=X.A.in1) (I.ok.hd hc) _ a (r_ hlt) its.toArray,⟨⟨_,Np _ rfl,rfl,rfl⟩,hl.push _⟩,fun i v s' Q' E' hP hQ=>?_,fun h' tk hk=>?_⟩)
 ·obtain⟨b,e,rfl⟩:=wc rv (i:=i) (u:=v) (by simpa using hP)
  simp only[e,Option.getD_some]at hQ
  exact OA hQ
 rw[hlen,ug]
 exact⟨.bl (bs.all id),H,I.kept (t':=tk) (LSm.kept_iter hk),rfl,q⟩
end
inductive Ty where
 | non | bl | int | str | lst | tup | dct
 deriving DecidableEq
noncomputable def Ty.nm:Ty->String
 | .non=>"NoneType"
 | .bl=>"bool"
 | .int=>"int"
 | .str=>"str"
 | .lst=>"list"
 | .tup=>"tuple"
 | .dct=>"dict"
def isA(t c:Ty):Bool:=decide (t=c) || (decide (t=.bl) && decide (c=.int))
inductive TyG (K:Ng) (H:Hp):V->Ty->Prop where
 | non:TyG K H .non .non
 | bl (b:Bool):TyG K H (.bl b) .bl
 | int (i:Int):TyG K H (.int i) .int
 | str (x:Str):TyG K H (.str x) .str
 | lst {a:Nh} {xs:List V} (h:SqL K H a xs):TyG K H (.ref a) .lst
 | tup {a:Nh} {xs:List V} (h:SqT K H a xs):TyG K H (.ref a) .tup
 | dct {a:Nh} {kvs:List (Key × V)} (h:Rd H a (.dK kvs)):TyG K H (.ref a) .dct
theorem uy(K:Ng)(t c:Ty):PySem.W.kitOne K (.type t.nm) (.type c.nm)=some (isA t c):=by
 cases t <;> cases c <;> kernel_rfl
theorem uS(K:Ng)(t:Ty):∀ cs:List Ty,T8 K (.type t.nm) (cs.map fun c=>Ol c.nm)=some (cs.any (isA t))
 | []=>rfl
 | c::r=>by
  rw[f_,J0]
  unfold T8
  rw[uy]
  cases isA t c with
  | true=>rfl
  | false=>exact uS K t r
section
variable{X:Cx}{pins:List (Nh × Obj)}{σ:St}{H:Hp}{s:Ni}{A:NH}{E:Nf->Ni->Prop}{Q:Nf->Ni->Prop}
theorem Vals.tys:∀ {cs:List Ty} {us:List Nf},Vals (cs.map fun c=>V.ty c.nm) us->us=cs.map fun c=>Ol c.nm
 | [],_,.nil=>rfl
 | c::r,_,.cons h t=>by
  have e:_=Ol c.nm:=h
  rw[f_,<-Vals.tys t,e]
noncomputable def v5(K:Ng)(H:Hp)(y:V)(cs:List Ty):Prop:=(∃ c,y=.ty c.nm/\cs=[c])\/∃ p,y=.ref p/\H p=some (.tup (cs.map fun c=>V.ty c.nm))
theorem zR{x y:V}{u v:Nf}{t:Ty}{cs:List Ty}(I:Inv X pins σ H s)(rx:RelV x u)(ry:RelV y v)(ty:TyG X.K H x t)(ka:v5 X.K H y cs)(h:∀ tk,Q (.bool (cs.any (isA t))) { s with toks:=tk }) :
  Nl (Nq X.prog X.w) A (call (.builtin "isinstance") [u,v]) Q E s:=by
 have go:∀ {P:NB->Prop},PySem.W.KitX X.K u (.type t.nm) P->P s.heap->u≠.builtin "__main__.__loader__#opaque"->Nl (Nq X.prog X.w) A (call (.builtin "isinstance") [u,v]) Q E s:=fun{P} Z p hx=>by
  rcases ka with⟨c,rfl,rfl⟩ | ⟨q,rfl,hq⟩
  ·cases (show v=Ol c.nm from ry)
   have e:([c].any (isA t))=isA t c:=by simp
   exact PySem.W.kia_one Z I.kIn p (uy X.K t c) hx (fun tk=>by rw[<-e];exact h tk)
  cases (show v=NT q from ry)
  obtain⟨_,its,rv,o,ho,hc,n,hd⟩:=(show aZ X.prog X.w H s.heap q (.tup _)from I.hok q _ hq)
  have e:=rv.tys
  subst e
  obtain⟨c,dd,dt,sl⟩:=o
  cases (show c=_ from hc)
  cases (show dt=_ from hd)
  exact PySem.W.kia_tup Z I.kIn p ho (uS X.K t cs) hx h
 cases ty with
 | non=>cases (show u=NR from rx);exact go PySem.W.kitx_none O1 (fun z=>nomatch z)
 | bl y=>cases (show u=Tn y from rx);exact go PySem.W.kitx_bool O1 (fun z=>nomatch z)
 | int i=>obtain⟨t,q⟩:=(show ∃ t,u=Pf i t from rx);cases q;exact go PySem.W.kitx_int O1 (fun z=>nomatch z)
 | str y=>obtain⟨t,q⟩:=(show ∃ t,u=Sf y t from rx);cases q;exact go PySem.W.kitx_str O1 (fun z=>nomatch z)
 | @lst a xs hq=>
  cases (show u=NT a from rx)
  obtain⟨_,_,p,_⟩:=I.list hq
  obtain⟨o,h1,h2,_⟩:=p.isList
  exact go PySem.W.kitx_list ⟨o,h1,h2⟩ (fun z=>nomatch z)
 | @tup a xs hq=>
  cases (show u=NT a from rx)
  obtain⟨_,_,p,_⟩:=I.tuple hq
  obtain⟨o,h1,h2,_⟩:=p
  exact go PySem.W.kitx_tuple ⟨o,h1,h2⟩ (fun z=>nomatch z)
 | @dct a kvs hq=>
  cases (show u=NT a from rx)
  obtain⟨_,_,vs,_,p⟩:=(show aZ X.prog X.w H s.heap a (.dK kvs)from hq.ok I.hok)
  obtain⟨o,es,ep,h1,h2,_⟩:=p
  exact go PySem.W.kitx_dict ⟨o,h1,h2.1⟩ (fun z=>nomatch z)
theorem aS:bh X (.builtin "isinstance") (fun xs H Q=>∃ x y t cs,xs=[x,y]/\TyG X.K H x t/\v5 X.K H y cs/\Q (.bl (cs.any (isA t))) H):=by
 intro pins s σ H xs us Q I r h
 obtain⟨x,y,t,cs,rfl,ty,ka,q⟩:=h
 cases r with
 | cons r rr=>
  cases rr with
  | cons r' rr=>
   cases rr
   exact zR I r r' ty ka fun tk=>⟨.bl (cs.any (isA t)),H,I.tok tk,rfl,q⟩
end
inductive Dt where
 | int (i:Int) | bl (b:Bool) | str (x:Str) | non | lst (ds:List Dt) | tup (ds:List Dt)
mutual
def Has(K:Ng)(H:Hp):Dt->V->Prop
 | .int i,v=>v=.int i
 | .bl b,v=>v=.bl b
 | .str x,v=>v=.str x
 | .non,v=>v=.non
 | .lst ds,v=>∃ a xs,v=.ref a/\SqL K H a xs/\ax K H ds xs
 | .tup ds,v=>∃ a xs,v=.ref a/\SqT K H a xs/\ax K H ds xs
def ax(K:Ng)(H:Hp):List Dt->List V->Prop
 | [],xs=>xs=[]
 | d::r,xs=>∃ x t,xs=x::t/\Has K H d x/\ax K H r t
end
mutual
def dpt:Dt->Nat
 | .lst ds=>bo ds + 1
 | .tup ds=>bo ds + 1
 | _=>0
def bo:List Dt->Nat
 | []=>0
 | d::r=>max (dpt d) (bo r)
end
mutual
def eqD:Dt->Dt->Bool
 | .int a,.int b=>a == b
 | .int a,.bl b=>a ==(if b then 1 else 0)
 | .bl a,.int b=>(if a then 1 else 0) == b
 | .bl a,.bl b=>a == b
 | .str a,.str b=>a == b
 | .non,.non=>true
 | .lst xs,.lst ys=>eqL xs ys
 | .tup xs,.tup ys=>eqL xs ys
 | _,_=>false
def eqL:List Dt->List Dt->Bool
 | [],[]=>true
 | x::xs,y::ys=>eqD x y && eqL xs ys
 | _,_=>false
end
mutual
theorem eS:∀ d:Dt,eqD d d=true
 | .int a=>by simp[eqD]
 | .bl a=>by simp[eqD]
 | .str a=>by simp[eqD]
 | .non=>by simp[eqD]
 | .lst xs=>by rw[eqD];exact kQ xs
 | .tup xs=>by rw[eqD];exact kQ xs
theorem kQ:∀ ds:List Dt,eqL ds ds=true
 | []=>by simp[eqL]
 | d::r=>by rw[eqL,eS d,kQ r];rfl
end
theorem ax.len {K:Ng}{H:Hp}:∀ {ds:List Dt} {xs:List V},ax K H ds xs->ds.length=xs.length
 | [],xs,h=>by rw[ax]at h;rw[h];rfl
 | d::r,xs,h=>by
  rw[ax]at h
  obtain⟨x,t,rfl,_,ht⟩:=h
  rw[i_,i_,ax.len ht]
theorem ax.get {K:Ng}{H:Hp}:∀ {ds:List Dt} {xs:List V} {i:Nat} {d:Dt} {x:V},ax K H ds xs->ds[i]?=some d->xs[i]?=some x->Has K H d x
 | [],xs,i,d,x,h,e,_=>by simp at e
 | c::r,xs,0,d,x,h,e,f=>by
  rw[ax]at h
  obtain⟨y,t,rfl,hy,ht⟩:=h
  simp at e f
  subst e f
  exact hy
 | c::r,xs,i + 1,d,x,h,e,f=>by
  rw[ax]at h
  obtain⟨y,t,rfl,hy,ht⟩:=h
  exact ax.get ht (i:=i) (by simpa using e) (by simpa using f)
theorem SqL.same {K:Ng}{H H':Hp}{a:Nh}{xs:List V}(e:aP H H')(h:SqL K H a xs):SqL K H' a xs:=e.seq h
theorem SqT.same {K:Ng}{H H':Hp}{a:Nh}{xs:List V}(e:aP H H')(h:SqT K H a xs):SqT K H' a xs:=by
 rcases h with (h | ⟨o,h⟩) | h
 ·exact .inl (.inl (e _ _ h))
 ·exact .inl (.inr ⟨o,e _ _ h⟩)
 exact .inr h
theorem SqG.same {b:Bool}{K:Ng}{H H':Hp}{a:Nh}{xs:List V}(e:aP H H')(h:SqG b K H a xs):SqG b K H' a xs:=by
 cases b with
 | true=>exact SqT.same e h
 | false=>exact SqL.same e h
mutual
theorem Has.same {K:Ng}{H H':Hp}(e:aP H H'):∀ {d:Dt} {v:V},Has K H d v->Has K H' d v
 | .int i,v,h=>by rw[Has]at h ⊢;exact h
 | .bl i,v,h=>by rw[Has]at h ⊢;exact h
 | .str i,v,h=>by rw[Has]at h ⊢;exact h
 | .non,v,h=>by rw[Has]at h ⊢;exact h
 | .lst ds,v,h=>by
  rw[Has]at h ⊢
  obtain⟨a,xs,hv,hs,hl⟩:=h
  exact⟨a,xs,hv,SqL.same e hs,ax.same e hl⟩
 | .tup ds,v,h=>by
  rw[Has]at h ⊢
  obtain⟨a,xs,hv,hs,hl⟩:=h
  exact⟨a,xs,hv,SqT.same e hs,ax.same e hl⟩
theorem ax.same {K:Ng}{H H':Hp}(e:aP H H'):∀ {ds:List Dt} {xs:List V},ax K H ds xs->ax K H' ds xs
 | [],xs,h=>by rw[ax]at h ⊢;exact h
 | d::r,xs,h=>by
  rw[ax]at h ⊢
  obtain⟨x,t,hx,h1,h2⟩:=h
  exact⟨x,t,hx,Has.same e h1,ax.same e h2⟩
end
theorem ax.append {K:Ng}{H:Hp}:∀ {ds es:List Dt} {xs ys:List V},ax K H ds xs->ax K H es ys->ax K H (ds++es) (xs++ys)
 | [],es,xs,ys,h,g=>by rw[ax]at h;subst h;exact g
 | d::r,es,xs,ys,h,g=>by
  rw[ax]at h
  obtain⟨x,t,rfl,h1,h2⟩:=h
  show ax K H (d::(r++es)) (x::(t++ys))
  rw[ax]
  exact⟨x,t++ys,rfl,h1,ax.append h2 g⟩
theorem i7{K:Ng}{H:Hp}:ax K H [] []:=by rw[ax]
theorem jy{K:Ng}{H:Hp}{d:Dt}{r:List Dt}{x:V}{t:List V}(h:Has K H d x)(g:ax K H r t):ax K H (d::r) (x::t):=by rw[ax];exact⟨x,t,rfl,h,g⟩
def di(ns:List Int):List Dt:=ns.map Dt.int
theorem nq{K:Ng}{H:Hp}:∀ ns:List Int,ax K H (di ns) (ns.map V.int)
 | []=>i7
 | n::r=>jy (by rw[Has]) (nq r)
theorem rK{K:Ng}{H:Hp}{p:Nh}{ns:List Int}(h:SqL K H p (ns.map V.int)):Has K H (.lst (di ns)) (.ref p):=by rw[Has];exact⟨p,_,rfl,h,nq ns⟩
theorem nK:∀ ns:List Int,bo (di ns)=0
 | []=>by simp[di,bo]
 | n::r=>by
  have ih:=nK r
  show bo (Dt.int n::di r)=0
  simp[bo,dpt,ih]
theorem iD:∀ {ds:List Dt} {i:Nat} {d:Dt},ds[i]?=some d->dpt d<=bo ds
 | [],i,d,e=>by simp at e
 | c::r,0,d,e=>by simp at e;subst e;rw[bo];exact Nat.le_max_left _ _
 | c::r,i + 1,d,e=>by
  have q:dpt d<=bo r:=iD (i:=i) (by simpa using e)
  rw[bo]
  exact v_ q (Nat.le_max_right _ _)
theorem jC:∀(ds es:List Dt),ds.length=es.length->((o_ ds.length).all fun j=>eqD (ds.getD j .non) (es.getD j .non))=eqL ds es
 | [],[],_=>by simp[eqL]
 | [],e::r,h=>by simp at h
 | d::r,[],h=>by simp at h
 | d::r,e::t,h=>by
  have h':r.length=t.length:=by simpa using h
  rw[eqL,<-jC r t h',i_,Me,LJ,K5]
  rfl
theorem oz:∀ {ds es:List Dt},eqL ds es=true->ds.length=es.length
 | [],[],_=>rfl
 | [],e::r,h=>by simp[eqL]at h
 | d::r,[],h=>by simp[eqL]at h
 | d::r,e::t,h=>by
  rw[eqL,E_]at h
  rw[i_,i_,oz h.2]
theorem qP:∀(ds es:List Dt),(((o_ (min ds.length es.length)).all fun j=>eqD (ds.getD j .non) (es.getD j .non)) && ds.length == es.length)=eqL ds es:=by
 intro ds es
 by_cases h:ds.length=es.length
 ·rw[<-jC ds es h,h,M1]
  simp
 have:eqL ds es=false:=JD.mpr fun z=>h (oz z)
 rw[this]
 have:(ds.length == es.length)=false:=by simpa using h
 rw[this,MT]
section
variable{X:Cx}{pins:List (Nh × Obj)}{σ:St}{H:Hp}{s:Ni}
theorem qu(n:Nat){A:NH}(hA:A.units + 1 + n < cLine + 1)(I:Inv X pins σ H s){ds es:List Dt}{xs ys:List V}{its jts:List Nf}(h1:ax X.K H ds xs)(h2:ax X.K H es ys)(r1:Vals xs its)(r2:Vals ys jts)
  (rec:∀ d e x y u v,d∈ds->e∈es->Has X.K H d x->Has X.K H e y->RelV x u->RelV y v->Py A.in1 s u v (eqD d e)) :
  ∀ j (g1:j < its.toArray.size) (g2:j < jts.toArray.size),Py A.in1 s its.toArray[j] jts.toArray[j] (eqD (ds.getD j .non) (es.getD j .non)):=by
 intro j g1 g2
 have l1:=r1.length
 have l2:=r2.length
 have m1:=h1.len
 have m2:=h2.len
 have g1':j < its.length:=by simpa using g1
 have g2':j < jts.length:=by simpa using g2
 have a1:j < xs.length:=by lia
 have a2:j < ys.length:=by lia
 have b1:j < ds.length:=by lia
 have b2:j < es.length:=by lia
 obtain⟨u,hu,ru⟩:=r1.get (a_ a1)
 obtain⟨v,hv,rv⟩:=r2.get (a_ a2)
 rw[a_ g1']at hu
 rw[a_ g2']at hv
 cases hu
 cases hv
 have e1:ds.getD j .non=ds[j]:=by simp[C',b1]
 have e2:es.getD j .non=es[j]:=by simp[C',b2]
 rw[e1,e2]
 have:=rec ds[j] es[j] xs[j] ys[j] its[j] jts[j] (JN b1) (JN b2) (h1.get (a_ b1) (a_ a1)) (h2.get (a_ b2) (a_ a2)) ru rv
 simpa using this
theorem uG{ds:List Dt}{d:Dt}(h:d∈ds):dpt d<=bo ds:=by
 obtain⟨i,hi⟩:=List.getElem?_of_mem h
 exact iD hi
mutual
theorem Has.inj (I:Inv X pins σ H s):∀ {d e:Dt} {x:V},Has X.K H d x->Has X.K H e x->d=e
 | .int a,.int b,x,h1,h2=>by
  rw[Has]at h1
  rw[Has]at h2
  rw[h1]at h2
  cases h2
  rfl
 | .int a,.bl b,x,h1,h2=>by
  rw[Has]at h1
  rw[Has]at h2
  rw[h1]at h2
  cases h2
 | .int a,.str b,x,h1,h2=>by
  rw[Has]at h1
  rw[Has]at h2
  rw[h1]at h2
  cases h2
 | .int a,.non,x,h1,h2=>by
  rw[Has]at h1
  rw[Has]at h2
  rw[h1]at h2
  cases h2
 | .int a,.lst b,x,h1,h2=>by
  rw[Has]at h1
  rw[Has]at h2
  obtain⟨p,xs,e,s1,l1⟩:=h2
  rw[h1]at e
  cases e
 | .int a,.tup b,x,h1,h2=>by
  rw[Has]at h1
  rw[Has]at h2
  obtain⟨p,xs,e,s1,l1⟩:=h2
  rw[h1]at e
  cases e
 | .bl a,.int b,x,h1,h2=>by
  rw[Has]at h1
  rw[Has]at h2
  rw[h1]at h2
  cases h2
 | .bl a,.bl b,x,h1,h2=>by
  rw[Has]at h1
  rw[Has]at h2
  rw[h1]at h2
  cases h2
  rfl
 | .bl a,.str b,x,h1,h2=>by
  rw[Has]at h1
  rw[Has]at h2
  rw[h1]at h2
  cases h2
 | .bl a,.non,x,h1,h2=>by
  rw[Has]at h1
  rw[Has]at h2
  rw[h1]at h2
  cases h2
 | .bl a,.lst b,x,h1,h2=>by
  rw[Has]at h1
  rw[Has]at h2
  obtain⟨p,xs,e,s1,l1⟩:=h2
  rw[h1]at e
  cases e
 | .bl a,.tup b,x,h1,h2=>by
  rw[Has]at h1
  rw[Has]at h2
  obtain⟨p,xs,e,s1,l1⟩:=h2
  rw[h1]at e
  cases e
 | .str a,.int b,x,h1,h2=>by
  rw[Has]at h1
  rw[Has]at h2
  rw[h1]at h2
  cases h2
 | .str a,.bl b,x,h1,h2=>by
  rw[Has]at h1
  rw[Has]at h2
  rw[h1]at h2
  cases h2
 | .str a,.str b,x,h1,h2=>by
  rw[Has]at h1
  rw[Has]at h2
  rw[h1]at h2
  cases h2
  rfl
 | .str a,.non,x,h1,h2=>by
  rw[Has]at h1
  rw[Has]at h2
  rw[h1]at h2
  cases h2
 | .str a,.lst b,x,h1,h2=>by
  rw[Has]at h1
  rw[Has]at h2
  obtain⟨p,xs,e,s1,l1⟩:=h2
  rw[h1]at e
  cases e
 | .str a,.tup b,x,h1,h2=>by
  rw[Has]at h1
  rw[Has]at h2
  obtain⟨p,xs,e,s1,l1⟩:=h2
  rw[h1]at e
  cases e
 | .non,.int b,x,h1,h2=>by
  rw[Has]at h1
  rw[Has]at h2
  rw[h1]at h2
  cases h2
 | .non,.bl b,x,h1,h2=>by
  rw[Has]at h1
  rw[Has]at h2
  rw[h1]at h2
  cases h2
 | .non,.str b,x,h1,h2=>by
  rw[Has]at h1
  rw[Has]at h2
  rw[h1]at h2
  cases h2
 | .non,.non,x,h1,h2=>rfl
 | .non,.lst b,x,h1,h2=>by
  rw[Has]at h1
  rw[Has]at h2
  obtain⟨p,xs,e,s1,l1⟩:=h2
  rw[h1]at e
  cases e
 | .non,.tup b,x,h1,h2=>by
  rw[Has]at h1
  rw[Has]at h2
  obtain⟨p,xs,e,s1,l1⟩:=h2
  rw[h1]at e
  cases e
 | .lst a,.int b,x,h1,h2=>by
  rw[Has]at h1
  rw[Has]at h2
  obtain⟨p,xs,rfl,s1,l1⟩:=h1
  cases h2
 | .lst a,.bl b,x,h1,h2=>by
  rw[Has]at h1
  rw[Has]at h2
  obtain⟨p,xs,rfl,s1,l1⟩:=h1
  cases h2
 | .lst a,.str b,x,h1,h2=>by
  rw[Has]at h1
  rw[Has]at h2
  obtain⟨p,xs,rfl,s1,l1⟩:=h1
  cases h2
 | .lst a,.non,x,h1,h2=>by
  rw[Has]at h1
  rw[Has]at h2
  obtain⟨p,xs,rfl,s1,l1⟩:=h1
  cases h2
 | .lst a,.lst b,x,h1,h2=>by
  rw[Has]at h1
  rw[Has]at h2
  obtain⟨p,xs,rfl,s1,l1⟩:=h1
  obtain⟨q,ys,e,s2,l2⟩:=h2
  cases e
  have e:=I.ml s1 s2
  subst e
  rw[ax.inj I l1 l2]
 | .lst a,.tup b,x,h1,h2=>by
  rw[Has]at h1
  rw[Has]at h2
  obtain⟨p,xs,rfl,s1,l1⟩:=h1
  obtain⟨q,ys,e,s2,l2⟩:=h2
  cases e
  obtain⟨_,_,pl,_⟩:=I.list s1
  obtain⟨_,_,pt,_⟩:=I.tuple s2
  obtain⟨o1,g1,c1,_⟩:=pl.isList
  obtain⟨o2,g2,c2,_⟩:=pt
  rw[g1]at g2
  cases g2
  rw[c1]at c2
  exact absurd c2 (by decide)
 | .tup a,.int b,x,h1,h2=>by
  rw[Has]at h1
  rw[Has]at h2
  obtain⟨p,xs,rfl,s1,l1⟩:=h1
  cases h2
 | .tup a,.bl b,x,h1,h2=>by
  rw[Has]at h1
  rw[Has]at h2
  obtain⟨p,xs,rfl,s1,l1⟩:=h1
  cases h2
 | .tup a,.str b,x,h1,h2=>by
  rw[Has]at h1
  rw[Has]at h2
  obtain⟨p,xs,rfl,s1,l1⟩:=h1
  cases h2
 | .tup a,.non,x,h1,h2=>by
  rw[Has]at h1
  rw[Has]at h2
  obtain⟨p,xs,rfl,s1,l1⟩:=h1
  cases h2
 | .tup a,.lst b,x,h1,h2=>by
  rw[Has]at h1
  rw[Has]at h2
  obtain⟨p,xs,rfl,s1,l1⟩:=h1
  obtain⟨q,ys,e,s2,l2⟩:=h2
  cases e
  obtain⟨_,_,pl,_⟩:=I.list s2
  obtain⟨_,_,pt,_⟩:=I.tuple s1
  obtain⟨o1,g1,c1,_⟩:=pl.isList
  obtain⟨o2,g2,c2,_⟩:=pt
  rw[g1]at g2
  cases g2
  rw[c1]at c2
  exact absurd c2 (by decide)
 | .tup a,.tup b,x,h1,h2=>by
  rw[Has]at h1
  rw[Has]at h2
  obtain⟨p,xs,rfl,s1,l1⟩:=h1
  obtain⟨q,ys,e,s2,l2⟩:=h2
  cases e
  have e:=I.ff s1 s2
  subst e
  rw[ax.inj I l1 l2]
theorem ax.inj (I:Inv X pins σ H s):∀ {ds es:List Dt} {xs:List V},ax X.K H ds xs->ax X.K H es xs->ds=es
 | [],[],xs,h1,h2=>rfl
 | [],e::r,xs,h1,h2=>by
  rw[ax]at h1
  rw[ax]at h2
  obtain⟨y,t,e,_,_⟩:=h2
  rw[h1]at e
  cases e
 | d::r,[],xs,h1,h2=>by
  rw[ax]at h1
  rw[ax]at h2
  obtain⟨y,t,e,_,_⟩:=h1
  rw[h2]at e
  cases e
 | d::r,e::q,xs,h1,h2=>by
  rw[ax]at h1
  rw[ax]at h2
  obtain⟨x,t,rfl,g1,g2⟩:=h1
  obtain⟨y,w,z,k1,k2⟩:=h2
  cases z
  rw[Has.inj I g1 k1,ax.inj I g2 k2]
end
theorem m8{A:NH}{a b:Nh}{k:Bool}(h:Tz A s (.ref a) (.ref b) k)(hk:a=b->k=true):Py A s (.ref a) (.ref b) k:=by
 by_cases e:a=b
 ·rw[hk e,e]
  exact Tj _
 exact VQ e h
noncomputable def Rz(s:Ni):Dt->Nf->Prop
 | .int a,u=>∃ t,u=.int a t
 | .bl a,u=>u=.bool a
 | .str a,u=>∃ t,u=.str a t
 | .non,u=>u=.none
 | .lst _,u=>∃ p its,u=.ref p/\s.heap.IsList p its
 | .tup _,u=>∃ p its,u=.ref p/\s.heap.IsTuple p its
def knd:Dt->Nat
 | .lst _=>4
 | .tup _=>5
 | _=>0
theorem vg(I:Inv X pins σ H s){d:Dt}{x:V}{u:Nf}(h:Has X.K H d x)(r:RelV x u):Rz s d u:=by
  cases d <;> rw[Has]at h <;> first
    | (obtain⟨p,xs,rfl,s1,_⟩:=h
       cases r
       first
         | (obtain⟨_,_,pl,_⟩:=I.list s1;exact⟨_,_,rfl,pl.isList⟩)
         | (obtain⟨_,_,pl,_⟩:=I.tuple s1;exact⟨_,_,rfl,pl⟩))
    | (subst h;exact r)
theorem vH{A:NH}{d e:Dt}{u v:Nf}(hu:A.units < cLine)(h1:Rz s d u)(h2:Rz s e v)(n:knd d≠knd e\/knd d=0):Tz A s u v (eqD d e)/\U9 A s u v (!eqD d e)/\Py A s u v (eqD d e):=by
 cases d with
 | int a=>
  obtain⟨_,rfl⟩:=h1
  cases e with
  | int b=>obtain⟨_,rfl⟩:=h2;simp only[eqD];exact⟨.int_int _ _ _ _,.int_int _ _ _ _,.int_int _ _ _ _⟩
  | bl b=>cases h2;simp only[eqD];exact⟨.int_bool _ _ _,.int_bool _ _ _,.int_bool _ _ _⟩
  | str b=>obtain⟨_,rfl⟩:=h2;simp only[eqD];exact⟨.int_str _ _ _ _,.int_str _ _ _ _,.int_str _ _ _ _⟩
  | non=>cases h2;simp only[eqD];exact⟨.int_none _ _,.int_none _ _,.int_none _ _⟩
  | lst b=>obtain⟨_,_,rfl,hb⟩:=h2;simp only[eqD];exact⟨.int_list _ _ hb hu,.int_list _ _ hb hu,.int_list _ _ hb hu⟩
  | tup b=>obtain⟨_,_,rfl,hb⟩:=h2;simp only[eqD];exact⟨.int_tuple _ _ hb hu,.int_tuple _ _ hb hu,.int_tuple _ _ hb hu⟩
 | bl a=>
  cases h1
  cases e with
  | int b=>obtain⟨_,rfl⟩:=h2;simp only[eqD];exact⟨.bool_int _ _ _,.bool_int _ _ _,.bool_int _ _ _⟩
  | bl b=>cases h2;simp only[eqD];exact⟨.bool_bool _ _,.bool_bool _ _,.bool_bool _ _⟩
  | str b=>obtain⟨_,rfl⟩:=h2;simp only[eqD];exact⟨.bool_str _ _ _,.bool_str _ _ _,.bool_str _ _ _⟩
  | non=>cases h2;simp only[eqD];exact⟨.bool_none _,.bool_none _,.bool_none _⟩
  | lst b=>obtain⟨_,_,rfl,hb⟩:=h2;simp only[eqD];exact⟨.bool_list _ hb hu,.bool_list _ hb hu,.bool_list _ hb hu⟩
  | tup b=>obtain⟨_,_,rfl,hb⟩:=h2;simp only[eqD];exact⟨.bool_tuple _ hb hu,.bool_tuple _ hb hu,.bool_tuple _ hb hu⟩
 | str a=>
  obtain⟨_,rfl⟩:=h1
  cases e with
  | int b=>obtain⟨_,rfl⟩:=h2;simp only[eqD];exact⟨.str_int _ _ _ _,.str_int _ _ _ _,.str_int _ _ _ _⟩
  | bl b=>cases h2;simp only[eqD];exact⟨.str_bool _ _ _,.str_bool _ _ _,.str_bool _ _ _⟩
  | str b=>obtain⟨_,rfl⟩:=h2;simp only[eqD];exact⟨.str_str _ _ _ _,.str_str _ _ _ _,.str_str _ _ _ _⟩
  | non=>cases h2;simp only[eqD];exact⟨.str_none _ _,.str_none _ _,.str_none _ _⟩
  | lst b=>obtain⟨_,_,rfl,hb⟩:=h2;simp only[eqD];exact⟨.str_list _ _ hb hu,.str_list _ _ hb hu,.str_list _ _ hb hu⟩
  | tup b=>obtain⟨_,_,rfl,hb⟩:=h2;simp only[eqD];exact⟨.str_tuple _ _ hb hu,.str_tuple _ _ hb hu,.str_tuple _ _ hb hu⟩
 | non=>
  cases h1
  cases e with
  | int b=>obtain⟨_,rfl⟩:=h2;simp only[eqD];exact⟨.none_int _ _,.none_int _ _,.none_int _ _⟩
  | bl b=>cases h2;simp only[eqD];exact⟨.none_bool _,.none_bool _,.none_bool _⟩
  | str b=>obtain⟨_,rfl⟩:=h2;simp only[eqD];exact⟨.none_str _ _,.none_str _ _,.none_str _ _⟩
  | non=>cases h2;simp only[eqD];exact⟨.none_none,.none_none,.same _⟩
  | lst b=>obtain⟨_,_,rfl,hb⟩:=h2;simp only[eqD];exact⟨.none_list hb hu,.none_list hb hu,.none_list hb hu⟩
  | tup b=>obtain⟨_,_,rfl,hb⟩:=h2;simp only[eqD];exact⟨.none_tuple hb hu,.none_tuple hb hu,.none_tuple hb hu⟩
 | lst a=>
  obtain⟨_,_,rfl,hl⟩:=h1
  cases e with
  | int b=>obtain⟨_,rfl⟩:=h2;simp only[eqD];exact⟨.list_int _ _ hl hu,.list_int _ _ hl hu,.list_int _ _ hl hu⟩
  | bl b=>cases h2;simp only[eqD];exact⟨.list_bool _ hl hu,.list_bool _ hl hu,.list_bool _ hl hu⟩
  | str b=>obtain⟨_,rfl⟩:=h2;simp only[eqD];exact⟨.list_str _ _ hl hu,.list_str _ _ hl hu,.list_str _ _ hl hu⟩
  | non=>cases h2;simp only[eqD];exact⟨.list_none hl hu,.list_none hl hu,.list_none hl hu⟩
  | lst b=>simp[knd]at n
  | tup b=>obtain⟨_,_,rfl,hb⟩:=h2;simp only[eqD];exact⟨.list_tuple hl hb hu,.list_tuple hl hb hu,.list_tuple hl hb hu⟩
 | tup a=>
  obtain⟨_,_,rfl,hl⟩:=h1
  cases e with
  | int b=>obtain⟨_,rfl⟩:=h2;simp only[eqD];exact⟨.tuple_int _ _ hl hu,.tuple_int _ _ hl hu,.tuple_int _ _ hl hu⟩
  | bl b=>cases h2;simp only[eqD];exact⟨.tuple_bool _ hl hu,.tuple_bool _ hl hu,.tuple_bool _ hl hu⟩
  | str b=>obtain⟨_,rfl⟩:=h2;simp only[eqD];exact⟨.tuple_str _ _ hl hu,.tuple_str _ _ hl hu,.tuple_str _ _ hl hu⟩
  | non=>cases h2;simp only[eqD];exact⟨.tuple_none hl hu,.tuple_none hl hu,.tuple_none hl hu⟩
  | lst b=>obtain⟨_,_,rfl,hb⟩:=h2;simp only[eqD];exact⟨.tuple_list hl hb hu,.tuple_list hl hb hu,.tuple_list hl hb hu⟩
  | tup b=>simp[knd]at n
theorem oo(I:Inv X pins σ H s):∀(n:Nat) (A:NH) (d e:Dt) (x y:V) (u v:Nf),dpt d<=n->A.units + n < cLine->Has X.K H d x->Has X.K H e y->RelV x u->RelV y v->
  Tz A s u v (eqD d e)/\U9 A s u v (!eqD d e)/\Py A s u v (eqD d e):=by
 intro n
 induction n with
 | zero=>
  intro A d e x y u v hd hA h1 h2 r1 r2
  exact vH (by lia) (vg I h1 r1) (vg I h2 r2) (.inr (by cases d <;> first | rfl | (rw[dpt]at hd;lia)))
 | succ n ih=>
  intro A d e x y u v hd hA h1 h2 r1 r2
  have hu:A.units < cLine:=by lia
  by_cases k:knd d≠knd e\/knd d=0
  ·exact vH hu (vg I h1 r1) (vg I h2 r2) k
  cases d <;> cases e <;> try (exfalso;simp[knd]at k;done)
  ·rename_i a b
   have h1k:=h1
   rw[Has]at h1
   obtain⟨p,xs,rfl,s1,l1⟩:=h1
   cases (show u=NT p from r1)
   obtain⟨its,rv1,pl1,z1⟩:=I.list s1
   have hl:=pl1.isList
   have hd':bo a<=n:=by rw[dpt]at hd;lia
   have h2k:=h2
   rw[Has]at h2
   obtain⟨q,ys,rfl,s2,l2⟩:=h2
   cases (show v=NT q from r2)
   obtain⟨jts,rv2,pl2,z2⟩:=I.list s2
   have hb:=pl2.isList
   have recc:=qu n (A:=A) (by lia) I l1 l2 rv1 rv2 fun d e x y u v hm hm' g1 g2 k1 k2=>(ih A.in1 d e x y u v (v_ (uG hm) hd') (by show A.units + 1 + n < cLine;lia) g1 g2 k1 k2).2.2
   have m1:=l1.len
   have m2:=l2.len
   have v1:=rv1.length
   have v2:=rv2.length
   have self:p=q->eqD (.lst a) (.lst b)=true:=fun z=>by subst z;rw[Has.inj I h1k h2k];exact eS _
   have ee:eqD (.lst a) (.lst b)=eqL a b:=by rw[eqD]
   by_cases hs:its.toArray.size=jts.toArray.size
   ·have hs':a.length=b.length:=by simp at hs;lia
    have hn:its.toArray.size=a.length:=by simp;lia
    have k1:=V4 hl hb hs hu recc
    have k2:=VR hl hb hs hu recc
    rw[hn,jC a b hs',<-ee]at k1 k2
    exact⟨k1,k2,m8 k1 self⟩
   have hs':¬ a.length=b.length:=by simp at hs;lia
   have hz:(its.toArray.size != jts.toArray.size)=true:=by simpa using hs
   have ef:eqD (.lst a) (.lst b)=false:=by rw[ee];exact JD.mpr fun z=>hs' (oz z)
   have k1:=U_ hl hb hz hu
   have k2:=Ut hl hb hz hu
   rw[<-ef]at k1
   refine⟨k1,?_,m8 k1 self⟩
   rw[ef]
   exact k2
  rename_i a b
  have h1k:=h1
  rw[Has]at h1
  obtain⟨p,xs,rfl,s1,l1⟩:=h1
  cases (show u=NT p from r1)
  obtain⟨its,rv1,pl1,z1⟩:=I.tuple s1
  have hl:s.heap.IsTuple p its.toArray:=pl1
  have hd':bo a<=n:=by rw[dpt]at hd;lia
  have h2k:=h2
  rw[Has]at h2
  obtain⟨q,ys,rfl,s2,l2⟩:=h2
  cases (show v=NT q from r2)
  obtain⟨jts,rv2,pl2,z2⟩:=I.tuple s2
  have hb:s.heap.IsTuple q jts.toArray:=pl2
  have recc:=qu n (A:=A) (by lia) I l1 l2 rv1 rv2 fun d e x y u v hm hm' g1 g2 k1 k2=>(ih A.in1 d e x y u v (v_ (uG hm) hd') (by show A.units + 1 + n < cLine;lia) g1 g2 k1 k2).2.2
  have m1:=l1.len
  have m2:=l2.len
  have v1:=rv1.length
  have v2:=rv2.length
  have self:p=q->eqD (.tup a) (.tup b)=true:=fun z=>by subst z;rw[Has.inj I h1k h2k];exact eS _
  have ee:eqD (.tup a) (.tup b)=eqL a b:=by rw[eqD]
  have hn:its.toArray.size=a.length:=by simp;lia
  have hn':jts.toArray.size=b.length:=by simp;lia
  have k1:=VU hl hb hu recc
  have k2:=VH hl hb hu recc
  rw[hn,hn',qP a b,<-ee]at k1 k2
  exact⟨k1,k2,m8 k1 self⟩
end
section
variable{X:Cx}
noncomputable def GK(K:Ng)(A:NH)(neg:Bool):R2:=fun x y H Q=>∃ d e,Has K H d x/\Has K H e y/\A.units + dpt d < cLine/\Q (.bl (if neg then !eqD d e else eqD d e)) H
theorem yc:OpR X (NO .Eq) (GK X.K X.A false):=by
 intro pins s σ H x y v u Q I rx ry h
 obtain⟨d,e,h1,h2,hA,q⟩:=h
 exact(oo I (dpt d) X.A d e x y v u (d_ _) hA h1 h2 rx ry).1 _ _ _ _ ⟨.bl (eqD d e),H,I,rfl,q⟩
theorem DK:OpR X (NO .NotEq) (GK X.K X.A true):=by
 intro pins s σ H x y v u Q I rx ry h
 obtain⟨d,e,h1,h2,hA,q⟩:=h
 exact(oo I (dpt d) X.A d e x y v u (d_ _) hA h1 h2 rx ry).2.1 _ _ _ _ ⟨.bl (!eqD d e),H,I,rfl,q⟩
end
structure Cal (P:Nv) (w:NA) (K:Ng) (mg:Str->Option Nf) (base:NB) (k:Nat) (x:Str) (ps:List Str) (sp:Sp):Prop where
 ex:∃(f:Nh) (fd:NK),FnOk P w K mg base CX0 k f fd ps sp/\mg x=some (.ref f)/\P_ K (.ref f)=true/\Binds K fd ps []
theorem zW{X:Cx}{j k:Nat}{x:Str}{ps:List Str}{sp:Sp}{e:Nz}{es:List Nz}{t:TA}{p pos:Pos}(D:Cal X.prog X.w X.K X.mg X.base j x ps sp)(hr:Room k X.A)(hg:Gl X x)(ha:PA X (e::es) t)(hjk:j<=k:=by omega)(hdb:(x ==("__debug__":Str))=false:=by decide)
  (he:NF (e::es) X.env=(false,NS e X.env)::NF es X.env:=by rfl) (hpl:(Pt pos (NF es X.env)).any (·.1)=false:=by rfl):PE X (.Call (.Name x p) (e::es) [] pos) (A5 sp [] E0 t):=by
 obtain⟨f,fd,F,hm,hk,hb⟩:=D.ex
 exact Aq F (hr.mono hjk) hg hm hk hb .nil Hr ha hdb he hpl
theorem Cal.imp {P:Nv}{w:NA}{K:Ng}{mg:Str->Option Nf}{base:NB}{k:Nat}{x:Str}{ps:List Str}{sp sp':Sp}(D:Cal P w K mg base k x ps sp)(h:∀ vs H Q E,sp' vs H Q E->sp vs H Q E):Cal P w K mg base k x ps sp':=by
 obtain⟨f,fd,F,r⟩:=D.ex
 exact⟨f,fd,F.imp h,r⟩
structure Dfn (K:Ng) (mg:Str->Option Nf) (x:Str) (st:NZ) (ps:List Str):Prop where
 ex:∃(f:Nh) (fd:NK),Fun K x x st f fd/\mg x=some (.ref f)/\Binds K fd ps []
theorem Dfn.cal {P:Nv}{w:NA}{K:Ng}{mg:Str->Option Nf}{base:NB}{k:Nat}{x:Str}{st:NZ}{ps:List Str}{sp:Sp}(D:Dfn K mg x st ps)(h:∀ f fd,Fun K x x st f fd->FnOk P w K mg base CX0 k f fd ps sp):Cal P w K mg base k x ps sp:=by
 obtain⟨f,fd,F,hm,hb⟩:=D.ex
 exact⟨f,fd,h f fd F,hm,F.kp,hb⟩
theorem aP.bz {H:Hp}:aP H H:=fun _ _ e=>e
theorem aP.trans' {H H1 H2:Hp}(a:aP H H1)(b:aP H1 H2):aP H H2:=fun c o e=>b c o (a c o e)
theorem aV{H:Hp}{p:Nh}(h:H p=none)(o:HO):aP H (upd H p o):=fun b u q=>by rw[au (aY q h)];exact q
theorem aP.none {H H':Hp}(a:aP H H'){p:Nh}(h:H' p=none):H p=none:=by
 cases e:H p with
 | none=>rfl
 | some o=>rw[a p o e]at h;cases h
def Kp(a c:Nh)(H H':Hp):Prop:=∀ b o,H b=some o->b≠a->b≠c->H' b=some o
theorem uD{n:Nat}{i:Int}(h0:0<=i)(h1:i < (n:Int)):ixN n i=some i.toNat:=by
 unfold ixN
 rw[if_pos h0,if_pos h1]
theorem Cn{α:Type}{xs:List α}{i:Int}{v:α}(h0:0<=i)(hv:xs[i.toNat]?=some v):atI xs i=some v:=by
 have h1:i.toNat < xs.length:=(c_.mp hv).1
 unfold atI
 rw[uD h0 (by omega)]
 exact hv
theorem A0{ns:List Int}{i:Int}(h0:0<=i)(h1:i < (ns.length:Int)):atI (ns.map V.int) i=some (.int (ns.getD i.toNat 0)):=by
 have h2:i.toNat < ns.length:=by omega
 refine Cn h0 ?_
 rw[A',a_ h2,C',a_ h2]
 rfl
theorem Du{K:Ng}{b:Bool}{H:Hp}{p:Nh}{xs:List V}{i:Int}{v:V}{Q:VK}(h:SqG b K H p xs)(hv:atI xs i=some v)(q:Q v H):rIx K (.ref p) (.int i) H Q:=by
 cases b with
 | true=>exact .inr (.inl ⟨p,xs,i,v,rfl,rfl,h,hv,q⟩)
 | false=>exact .inl ⟨p,xs,i,v,rfl,rfl,h,hv,q⟩
theorem bJ{A B:Prop}{b:Bool}(hb:b=false)(h:B):if b=true then A else B:=by rw[hb];exact Hw h
theorem lH{A B:Prop}{b:Bool}(hb:b=true)(h:A):if b=true then A else B:=by rw[hb];exact Fq h
theorem rg{Q:VK}{b:Bool}{H:Hp}(hb:b=true)(q:Q (.bl true) H):Q (.bl b) H:=by rw[hb];exact q
theorem HD{A B:Prop}{b:Bool}(h1:b=true->A)(h2:b=false->B):if b=true then A else B:=by
 cases b with
 | true=>exact Fq (h1 rfl)
 | false=>exact Hw (h2 rfl)
def isT:HO->Bool
 | .tup _=>true
 | .frz _ (.tup _)=>true
 | _=>false
def qT(H H':Hp):Prop:=∀ b o,H b=some o->isT o=true->H' b=some o
theorem wk{H:Hp}{p:Nh}{o o':HO}(h:H p=some o)(ht:isT o=false):qT H (upd H p o'):=fun b u e t=>by
 have n:b≠p:=fun z=>by
  subst z
  rw[h]at e
  cases e
  rw[ht]at t
  cases t
 rw[au n]
 exact e
mutual
def rV:Dt->Bool
 | .lst _=>false
 | .tup ds=>jV ds
 | _=>true
def jV:List Dt->Bool
 | []=>true
 | d::r=>rV d && jV r
end
theorem SqT.jS {K:Ng}{H H':Hp}{a:Nh}{xs:List V}(e:qT H H')(h:SqT K H a xs):SqT K H' a xs:=by
 rcases h with (h | ⟨o,h⟩) | h
 ·exact .inl (.inl (e _ _ h rfl))
 ·exact .inl (.inr ⟨o,e _ _ h rfl⟩)
 exact .inr h
mutual
theorem Has.jS {K:Ng}{H H':Hp}(e:qT H H'):∀ {d:Dt} {v:V},rV d=true->Has K H d v->Has K H' d v
 | .int i,v,_,h=>by rw[Has]at h ⊢;exact h
 | .bl i,v,_,h=>by rw[Has]at h ⊢;exact h
 | .str i,v,_,h=>by rw[Has]at h ⊢;exact h
 | .non,v,_,h=>by rw[Has]at h ⊢;exact h
 | .lst ds,v,t,h=>by simp[rV]at t
 | .tup ds,v,t,h=>by
  rw[rV]at t
  rw[Has]at h ⊢
  obtain⟨a,xs,hv,hs,hl⟩:=h
  exact⟨a,xs,hv,SqT.jS e hs,ax.jS e t hl⟩
theorem ax.jS {K:Ng}{H H':Hp}(e:qT H H'):∀ {ds:List Dt} {xs:List V},jV ds=true->ax K H ds xs->ax K H' ds xs
 | [],xs,_,h=>by rw[ax]at h ⊢;exact h
 | d::r,xs,t,h=>by
  rw[jV,E_]at t
  rw[ax]at h ⊢
  obtain⟨x,t',hx,h1,h2⟩:=h
  exact⟨x,t',hx,Has.jS e t.1 h1,ax.jS e t.2 h2⟩
end
theorem xr{ds:List Dt}(h:∀ d∈ds,rV d=true):jV ds=true:=by
 induction ds with
 | nil=>rw[jV]
 | cons d r ih=>rw[jV,h d p_,ih fun x hx=>h x (n_ _ hx)];rfl
theorem jJ{d:Nat->Dt}(keep:Nat->Bool)(i:Nat):((o_ (i + 1)).filter keep).map d=((o_ i).filter keep).map d++(if keep i=true then [d i]else []):=by
 rw[Kh,Ki,z_]
 cases h:keep i <;> simp[h]
theorem rE{K:Ng}{J:It}{fr:List (Option Nat)}{g:Ni->Hp->List Nh->TG}{tt:Ni->Hp->List Nh->TT}{te:Ni->Hp->List Nh->TE}{σ:St}{H1:Hp}{Q:VK}(Ok:St->Prop)(n:Nat)(hn:n < sizeLine)(d:Nat->Dt)(keep:Nat->Bool)(hd:∀ i,rV (d i)=true)(h0:Ok (bE fr σ))
  (hgo:∀ i H',aP H1 H'->i < n->J.go i H') (hst:∀ H',aP H1 H'->J.stop n H')
  (turn:∀ s3 H3' fp i σ' H',i < n->Ok σ'->aP H1 H'->∀ x H2,J.yld i H' x H2->∀(Nx:St->Hp->Prop) (Ap:St->V->Hp->Prop),(keep i=false->∀ σ2 H4,Ok σ2->aP H' H4->Nx σ2 H4)->(keep i=true->∀ σ2 v H5,Ok σ2->aP H' H5->Has K H5 (d i) v->Ap σ2 v H5)->
   g s3 H3' fp x σ' H2 fun σ2 H3=>tt s3 H3' fp σ2 H3 fun b H4=>if b=true then te s3 H3' fp σ2 H4 (fun v H5=>Ap σ2 v H5)else Nx σ2 H4)
  (fin:∀ p acc H',H1 p=none->aP H1 H'->H' p=some (.lst acc)->ax K H' (((o_ n).filter keep).map d) acc->Q (.ref p) H') :
  Cz J fr g tt te σ H1 Q:=by
 intro p hp s3 H3' fp
 have tall:∀ i,jV (((o_ i).filter keep).map d)=true:=fun i=>xr fun x hx=>by
  obtain⟨j,_,rfl⟩:=B'.mp hx
  exact hd j
 refine⟨fun i m σ' H'=>m=n - i/\i<=n/\Ok σ'/\aP H1 H'/\∃ acc,H' p=some (.lst acc)/\ax K H' (((o_ i).filter keep).map d) acc,⟨n,by simp,G_ _,h0,aV hp _,[],ay,i7⟩,?_⟩
 rintro i m σ' H' ⟨rfl,hi,ok,sm,acc,hacc,hl⟩
 by_cases hlt:i < n
 ·refine .inr ⟨hgo i H' sm hlt,fun x H2 hy=>?_⟩
  refine turn s3 H3' fp i σ' H' hlt ok sm x H2 hy (fun σ2 H4=>∃ m',m' < n - i/\m'=n - (i + 1)/\i + 1<=n/\Ok σ2/\aP H1 H4/\∃ acc,H4 p=some (.lst acc)/\ax K H4 (((o_ (i + 1)).filter keep).map d) acc) (fun σ2 v H5=>_) (fun hk σ2 H4 ok2 s4=>?_) (fun hk σ2 v H5 ok2 s5 hv=>?_)
  ·refine⟨n - (i + 1),by lia,rfl,hlt,ok2,sm.trans' s4,acc,s4 _ _ hacc,?_⟩
   rw[jJ,hk]
   simpa using ax.same s4 hl
  have h5:H5 p=some (.lst acc):=s5 _ _ hacc
  have len:acc.length<=i:=by
   have e:=hl.len
   have e2:(((o_ i).filter keep).map d).length<=i:=by
    rw[b_]
    exact v_ (Ky _ _) (by rw[u_];exact d_ _)
   lia
  have ts:qT H5 (upd H5 p (.lst (acc++[v]))):=wk h5 rfl
  refine⟨acc,h5,by lia,n - (i + 1),by lia,rfl,hlt,ok2,fun b o e=>?_,acc++[v],ay,?_⟩
  ·rw[au (aY e hp)]
   exact s5 b o (sm b o e)
  rw[jJ,hk]
  exact ax.append (ax.jS ts (tall i) (ax.same s5 hl)) (jy (Has.jS ts (hd i) hv) i7)
 have e:i=n:=by lia
 subst e
 exact .inl ⟨hst H' sm,fin p acc H' hp sm hacc hl⟩
theorem sD{X:Cx}{N ps:List Str}{esc:Oo}(S:FnScope N ps esc)(N':List Str)(fr:List (Option Nat))(nd:N'.Nodup){elt target iter:Nz}{ifs:List Nz}{sc:Oo}{pos:Pos}{wi:TI}{g:Ni->Hp->List Nh->TG}{tt:Ni->Hp->List Nh->TT}{te:Ni->Hp->List Nh->TE}(C:dW N esc sc N' fr=true)
  (hi:PI X target iter wi) (hg:∀ s3 H3 fp,PG (aI X N' sc s3 H3 fp) target (g s3 H3 fp)) (ht:∀ s3 H3 fp,PTs (aI X N' sc s3 H3 fp) ifs (tt s3 H3 fp)) (he:∀ s3 H3 fp,PE (aI X N' sc s3 H3 fp) elt (te s3 H3 fp))
  (hc:X.calm=true:=by rfl) (hN:X.N=N:=by rfl) (hS:X.env.scope=esc:=by rfl) (hs:∀ x,Of iter X.env x=pure x:=by intro _;rfl):PE X (.ListComp elt [⟨target,iter,ifs,0⟩] sc pos) (uU wi fr g tt te):=
 Bo N' fr hc (by rw[hN,hS];exact C) hi hg ht he hs
theorem qX{σ:St}{H:Hp}{A B:Hp->Prop}(h:A H):ES σ H (fun b H4=>if b=true then A H4 else B H4):=by
 unfold ES
 exact Fq h
theorem gn{K:Ng}{H:Hp}:∀ {bs:List Bool} {xs:List V},ax K H (bs.map Dt.bl) xs->xs=bools bs
 | [],xs,h=>by
  have h:ax K H [] xs:=h
  rw[ax]at h;exact h
 | n::r,xs,h=>by
  have h:ax K H (Dt.bl n::r.map Dt.bl) xs:=h
  rw[ax]at h
  obtain⟨x,t,rfl,h1,h2⟩:=h
  rw[Has]at h1
  rw[h1,gn h2]
  rfl
def Its(K:Ng)(b:Bool)(a:Nh):It:=match b with
 | true=>Itt K a
 | false=>Itl K a
def iSq(K:Ng)(tl:TE):TI:=fun σ H R=>tl σ H fun x H1=>∃ b a xs,x=.ref a/\SqG b K H1 a xs/\R (Its K b a) H1
theorem G3{X:Cx}{tg l:Nz}{tl:TE}(hl:PE X l tl):PI X tg l (iSq X.K tl):=by
 intro pins s σ H R I h
 refine thn (hl pins s σ H _ I h) ?_
 rintro v s1 ⟨x,H1,I1,r1,q1⟩
 obtain⟨b,a,xs,rfl,hq,q⟩:=q1
 cases r1
 cases b with
 | true=>
  obtain⟨its,rv,p,hz⟩:=I1.tuple hq
  refine Ob (show s1.heap.IsTuple a its.toArray from p) ⟨s1.heap.objs.size,[s1.heap.objs.size],_,_,H1,rfl,I1.kept (t':=s1.toks) fun b o e=>Nk _ e,ud a _,⟨_,Np _ rfl,rfl,rfl⟩,fun b hb=>?_,q⟩
  have e:b=s1.heap.objs.size:=by simpa using hb
  subst e
  exact I1.tF (d_ _) (I1.hok.fresh (d_ _))
 | false=>
  obtain⟨its,rv,p,hz⟩:=I1.list hq
  refine OB p.isList ⟨s1.heap.objs.size,[s1.heap.objs.size],_,_,H1,rfl,I1.kept (t':=s1.toks) fun b o e=>Nk _ e,wV a _,⟨_,Np _ rfl,rfl,rfl⟩,fun b hb=>?_,q⟩
  have e:b=s1.heap.objs.size:=by simpa using hb
  subst e
  exact I1.tF (d_ _) (I1.hok.fresh (d_ _))
theorem Bg{K:Ng}{b:Bool}{a:Nh}{xs:List V}{H1 H' H2:Hp}{i:Nat}{v:V}(h1:SqG b K H1 a xs)(s:aP H1 H')(h:(Its K b a).yld i H' v H2):H2=H'/\xs[i]?=some v:=by
 cases b with
 | true=>exact⟨h.1,h.2 xs (SqG.same s h1)⟩
 | false=>exact⟨h.1,h.2 xs (SqG.same s h1)⟩
theorem DW{K:Ng}{b:Bool}{a:Nh}{xs:List V}{H1:Hp}(h1:SqG b K H1 a xs){n:Nat}(hx:xs.length=n):∀ i H',aP H1 H'->i < n->(Its K b a).go i H':=fun i H' s hi=>by
 cases b with
 | true=>exact⟨xs,xs[i]'(by lia),SqT.same s h1,a_ _⟩
 | false=>exact⟨xs,xs[i]'(by lia),SqL.same s h1,a_ _⟩
theorem A8{K:Ng}{b:Bool}{a:Nh}{xs:List V}{H1:Hp}(h1:SqG b K H1 a xs){n:Nat}(hx:xs.length=n):∀ H',aP H1 H'->(Its K b a).stop n H':=fun H' s=>by
 cases b with
 | true=>exact⟨xs,SqT.same s h1,by lia⟩
 | false=>exact⟨xs,SqL.same s h1,by lia⟩
theorem yg{K:Ng}{b1 b2:Bool}{a1 a2:Nh}{xs ys:List V}{H1:Hp}(h1:SqG b1 K H1 a1 xs)(h2:SqG b2 K H1 a2 ys){n:Nat}(hx:xs.length=n)(hy:ys.length=n):∀ i H',aP H1 H'->i < n->(Itz K b1 a1 b2 a2).go i H':=fun i H' s hi=>
 ⟨xs,ys,xs[i]'(by lia),ys[i]'(by lia),SqG.same s h1,SqG.same s h2,a_ _,a_ _⟩
theorem qI{K:Ng}{b1 b2:Bool}{a1 a2:Nh}{xs ys:List V}{H1:Hp}(h1:SqG b1 K H1 a1 xs)(h2:SqG b2 K H1 a2 ys){n:Nat}(hx:xs.length=n)(hy:ys.length=n):∀ H',aP H1 H'->(Itz K b1 a1 b2 a2).stop n H':=fun H' s=>
 ⟨xs,ys,SqG.same s h1,SqG.same s h2,.inl (by lia)⟩
theorem uT{K:Ng}{b1 b2:Bool}{a1 a2:Nh}{xs ys:List V}{H1 H' H2:Hp}{i:Nat}{v:V}(h1:SqG b1 K H1 a1 xs)(h2:SqG b2 K H1 a2 ys)(s:aP H1 H')(h:(Itz K b1 a1 b2 a2).yld i H' v H2) :
  ∃ p x y,v=.ref p/\aP H' H2/\H2 p=some (.tup [x,y])/\xs[i]?=some x/\ys[i]?=some y:=by
 obtain⟨p,x,y,hp,rfl,rfl,g1,g2⟩:=h
 exact⟨p,x,y,rfl,aV hp _,ay,g1 xs (SqG.same s h1),g2 ys (SqG.same s h2)⟩
def New(o:HO)(H:Hp)(Q:VK):Prop:=∀ p H',H p=none->aP H H'->H' p=some o->Q (.ref p) H'
theorem New.at {o:HO}{H:Hp}{Q:VK}(h:New o H Q){p:Nh}(hp:H p=none):Q (.ref p) (upd H p o):=h p _ hp (aV hp o) ay
section
variable{X:Cx}{es:List Nz}{t:TA}{pos:Pos}
def Gx(t:TA):TE:=fun σ H Q=>t σ H fun xs H1=>xs.length<=sizeLine/\New (.tup xs) H1 Q
def Gq(t:TA):TE:=fun σ H Q=>t σ H fun xs H1=>xs.length<=sizeLine/\New (.lst xs) H1 Q
theorem Ck{x1}(h:PA X es t):PE X (.Tuple es x1 pos) (Gx t):=by
 intro pins s σ H Q I hq
 refine wpAny_Tuple_spliced (thn (h pos pins s σ H _ I hq) fun us s1 ⟨xs,H1,I1,r,z,q⟩=>⟨by rw[<-r.length];exact z,?_⟩)
 refine⟨.ref s1.heap.objs.size,upd H1 s1.heap.objs.size (.tup xs),I1.laid (t':=s1.toks) (fun b u e=>Nk _ e) (d_ _) ⟨z,us,r,⟨_,Np _ rfl,rfl,_,rfl⟩⟩,rfl,q.at (I1.hok.fresh (d_ _))⟩
theorem BO(h:PA X es t):PE X (.List es pos) (Gq t):=by
 intro pins s σ H Q I hq
 refine Sl (thn (h pos pins s σ H _ I hq) fun us s1 ⟨xs,H1,I1,r,z,q⟩=>⟨by rw[<-r.length];exact z,?_⟩)
 refine⟨.ref s1.heap.objs.size,upd H1 s1.heap.objs.size (.lst xs),I1.laid (t':=s1.toks) (fun b u e=>Nk _ e) (d_ _) ⟨z,us,0,r,Np _ rfl⟩,rfl,q.at (I1.hok.fresh (d_ _))⟩
theorem bh.imp {f:Nf}{r r':List V->Hp->VK->Prop}(h:bh X f r)(k:∀ vs H Q,r' vs H Q->r vs H Q):bh X f r':=fun pins s σ H xs us Q I rv q=>h pins s σ H xs us Q I rv (k _ _ _ q)
theorem OpR.imp {f:Nf->Nf->Sem Nf}{r r':R2}(h:OpR X f r)(k:∀ x y H Q,r' x y H Q->r x y H Q):OpR X f r':=fun pins s σ H x y v u Q I rx ry q=>h pins s σ H x y v u Q I rx ry (k _ _ _ _ q)
theorem u9:bh X (.type "list") (fun xs H Q=>∃ b p ys,xs=[.ref p]/\SqG b X.K H p ys/\New (.lst ys) H Q):=i6.imp fun vs H Q ⟨b,p,ys,e,h,q⟩=>by
 refine⟨p,ys,e,?_,fun l hl=>q.at hl⟩
 cases b with
 | true=>exact .inr h
 | false=>exact .inl h
theorem sg:bh X (.type "tuple") (fun xs H Q=>∃ p ys,xs=[.ref p]/\SqL X.K H p ys/\New (.tup ys) H Q):=mU.imp fun vs H Q ⟨p,ys,e,h,q⟩=>⟨p,ys,e,.inl ⟨h,fun l hl=>q.at hl⟩⟩
theorem wb:bh X (.builtin "len") (fun xs H Q=>∃ b p ys,xs=[.ref p]/\SqG b X.K H p ys/\Q (.int ys.length) H):=cu.imp fun vs H Q ⟨b,p,ys,e,h,q⟩=>by
 refine⟨p,ys,e,?_,q⟩
 cases b with
 | true=>exact .inr h
 | false=>exact .inl h
def IW(K:Ng):R2:=fun x y H Q=>∃ b p xs i v,x=.ref p/\y=.int i/\SqG b K H p xs/\atI xs i=some v/\Q v H
theorem Il:IxR X (IW X.K):=fun value slice pins s σ H x y v u Q I rx ry ⟨b,p,xs,i,z,e1,e2,hq,ha,q⟩ hs=>by
 subst e1 e2
 exact F2 value slice pins s σ H (.ref p) (.int i) v u Q I rx ry (Du hq ha q) hs
end
def v9(ns:List Int)(r:Int):Prop:=r∈ns/\∀ x∈ns,r<=x
theorem d5:∀ {ns:List Int} {us:List Nf},Vals (ns.map V.int) us->∃ ps:List (Int × Tok),us=ps.map (fun p=>Pf p.1 p.2)/\ps.map (·.1)=ns
 | [],_,.nil=>⟨[],rfl,rfl⟩
 | n::r,_,.cons h t=>by
  obtain⟨ps,e1,e2⟩:=d5 t
  obtain⟨tk,e⟩:=h
  exact⟨(n,tk)::ps,by rw[e,e1];rfl,by rw[<-e2];rfl⟩
theorem iF{ps:List (Int × Tok)}{ns:List Int}(e:ps.map (·.1)=ns){i:Nat}(hi:i < ns.length):Rn ps.toArray i=ns[i]:=by
 subst e
 have h2:i < ps.length:=by simpa using hi
 simp[Rn,h2]
section
variable{X:Cx}
theorem wa(hc:X.calm=true):bh X (.builtin "min") (fun xs H Q=>∃ a ns,xs=[.ref a]/\SqL X.K H a (ns.map V.int)/\ns≠[]/\∀ r,v9 ns r->Q (.int r) H):=by
 intro pins s σ H xs us Q I r h
 obtain⟨a,ns,rfl,hq,hne,q⟩:=h
 obtain⟨u,rfl,ru⟩:=vals1 r
 cases ru
 obtain⟨its,rv,p,z⟩:=I.list hq
 obtain⟨ps,e1,e2⟩:=d5 rv
 subst e1
 have hl:s.heap.IsList a (O8 ps.toArray):=by
  have e:O8 ps.toArray=(ps.map fun p=>Pf p.1 p.2).toArray:=by simp[O8]
  rw[e];exact p.isList
 have hlen:ps.length=ns.length:=by rw[<-e2];simp
 have hpos:0 < ns.length:=JQ fun z=>hne (Je z)
 refine min_intList (I.ok.hd hc) hl (by simp;lia) fun v h' tk hv hk=>?_
 obtain⟨tv,rfl⟩:=S4 hv
 obtain⟨b1,b2⟩:=argBest_lt (Rn ps.toArray) (ps.toArray.size - 1)
 have hi:Ot (fun i j=>decide (Rn ps.toArray i < Rn ps.toArray j)) (ps.toArray.size - 1) < ns.length:=by simp at b1 ⊢;lia
 refine⟨.int _,H,I.kept (t':=tk) hk,⟨tv,rfl⟩,q _ ⟨?_,fun x hx=>?_⟩⟩
 ·rw[iF e2 hi];exact JN hi
 obtain⟨j,hj,rfl⟩:=Jp.mp hx
 have:=b2 j (by simp;lia)
 rw[iF e2 hj]at this
 exact this
theorem wo(hc:X.calm=true):bh X (.builtin "min") (fun xs H Q=>∃ i j k,xs=[.int i,.int j,.int k]/\∀ r,r<=i->r<=j->r<=k->(r=i\/r=j\/r=k)->Q (.int r) H):=by
 intro pins s σ H xs us Q I r h
 obtain⟨i,j,k,rfl,q⟩:=h
 cases r with
 | cons r1 rr=>
  cases rr with
  | cons r2 rr=>
   cases rr with
   | cons r3 rr=>
    cases rr
    obtain⟨t1,rfl⟩:=r1
    obtain⟨t2,rfl⟩:=r2
    obtain⟨t3,rfl⟩:=r3
    refine min_three_ints (I.ok.hd hc) fun h' tk hk=>?_
    have fin:∀(r:Int) (t:Tok),r<=i->r<=j->r<=k->(r=i\/r=j\/r=k)->EP X pins σ Q (.int r t) { s with heap:=h',toks:=tk }:=fun r t a b c d=>⟨.int r,H,I.kept (t':=tk) hk,⟨t,rfl⟩,q r a b c d⟩
    split
    ·split
     ·exact fin _ _ (by lia) (by lia) (by lia) (by lia)
     exact fin _ _ (by lia) (by lia) (by lia) (by lia)
    split
    ·exact fin _ _ (by lia) (by lia) (by lia) (by lia)
    exact fin _ _ (by lia) (by lia) (by lia) (by lia)
end
section
variable{X:Cx}{a b c d:Nz}{ta tb tc td:TE}{pos:Pos}
theorem Ae:SlR X (fun x lo hi H Q=>∃ a xs,x=.ref a/\SqL X.K H a xs/\New (.lst (eL xs lo hi)) H Q):=fun pins s σ H x v vl vu lo hi sl Q I rx hs pl pu ⟨a,xs,e,h,q⟩=>vI pins s σ H x v vl vu lo hi sl Q I rx hs pl pu ⟨a,xs,e,h,fun p hp=>q.at hp⟩
theorem vX:SlR X (fun x lo hi H Q=>∃ a xs,x=.ref a/\SqT X.K H a xs/\¬(HT.sIx xs.length 0 lo=0/\HT.sIx xs.length xs.length hi=xs.length)/\New (.tup (eL xs lo hi)) H Q):=fun pins s σ H x v vl vu lo hi sl Q I rx hs pl pu ⟨a,xs,e,h,hw,q⟩=>Fy pins s σ H x v vl vu lo hi sl Q I rx hs pl pu ⟨a,xs,e,h,hw,fun p hp=>q.at hp⟩
end
structure Put (H:Hp) (p:Nh) (o:HO) (H':Hp):Prop where
 at_:H' p=some o
 else_:∀ b,b≠p->H' b=H b
theorem Put.up {H:Hp}{p:Nh}{o:HO}:Put H p o (upd H p o):=⟨ay,fun b h=>au h⟩
section
variable{X:Cx}
theorem sZ.imp {t t':Bh}(h:sZ X t)(k:∀ o i v H Q,t' o i v H Q->t o i v H Q):sZ X t':=fun pins s σ H o i v ov iv u Q I r1 r2 r3 q=>h pins s σ H o i v ov iv u Q I r1 r2 r3 (k _ _ _ _ _ q)
theorem wC:sZ X (fun o i v H Q=>∃ p xs k j,o=.ref p/\i=.int k/\H p=some (.lst xs)/\ixN xs.length k=some j/\∀ H',Put H p (.lst (xs.set j v)) H'->Q H'):=set_list.imp fun o i v H Q ⟨p,xs,k,j,e1,e2,h,hj,q⟩=>⟨p,xs,k,j,e1,e2,h,hj,q _ Put.up⟩
end
section
variable{M:Po}{A:NH}{E:Nf->Ni->Prop}{s:Ni}{env:Env}
theorem iZ{e:Nz}{scope:Oo}{pos:Pos}{newAcc first:Sem Nf}{g:QS}{gs:List QS}{u:Nf->Sem Unit}{Q:Nf->Ni->Prop}
  (hcl:clausesOf e=g::gs) (hs:∀ x,Of g.iter env x=pure x)
  (hc:∀ x∈scope.names,x.2≠.cell) (hfr:∀ x∈scope.names,x.2=.free->∃ c,env.cells.lookup x.1=some c) (hkind:scope.kind=.function) (hnames:∀ x∈scope.names,x.2=.local->scope.names.lookup x.1=some .local)
  (h:Nl M A first (fun x s₁=>Nl M A (Qj x) (fun it s₂=>Nl M A newAcc (fun acc s₃=>
   ∀ h4,h4.Ns s₃.heap.objs.size (fun _=>none)->(∀ b o,s₃.heap.get? b=some o->h4.get? b=some o)->
    OL M A (.compStart e 0 it acc (L2.compEnv env scope s₃.heap.objs.size)) (fun r s'=>match r with
     | .ok _=>Nl M A (u acc) (fun _ s''=>∃ m,s''.heap.Ns s₃.heap.objs.size m/\∀ h',Oa s₃.heap.objs.size s''.heap h'->Q .none { s'' with heap:=h' }) E s'
     | .error x=>False) { s₃ with heap:=h4 }) E s₂) E s₁) E s) :
  Nl M A (Qm e scope env pos newAcc false first (some u)) Q E s:=by
 unfold Qm
 rw[lK hfr,hcl]
 refine Nd (NN h (fun x s₁ h₁=>Nd (PD (Nd (Pl (hs x) (Nd (NJ (NN h₁ (fun it s₂ h₂=>
  Us (Nd (NN h₂ (fun acc s₃ h₃=>Nd (Nj (Nd ?_))) fun _ _ h'=>h'))) fun _ _ h'=>h'))))))) fun _ _ h'=>h')
 refine R0 hc (fun x hx=>nomatch hx) (fun h4 hn4 hs4=>?_) hkind
 have h₄:=h₃ h4 hn4 fun b o e=>hs4.extBut b o (r_ (Nt e)) (Nk _ e)
 dsimp only
 have hv:∀ x∈(scope.names.filter fun x=>(x.2 == .local || x.2 == .cell) && x.1 !=(".0":Str)).reverse,x.2=.local->
   Tx (L2.compEnv env scope s₃.heap.objs.size) x.1=some .local:=fun x hx hl=>by
  show(lL env scope).names.lookup x.1=some .local
  rw[iM,hnames x (Jv.mp (ML.mp hx)).1 hl]
  rfl
 have hv':∀ x∈(scope.names.filter fun x=>(x.2 == .local || x.2 == .cell) && x.1 !=(".0":Str)).reverse.drop 1++(scope.names.filter fun x=>(x.2 == .local || x.2 == .cell) && x.1 !=(".0":Str)).reverse.take 1,
   x.2=.local->Tx (L2.compEnv env scope s₃.heap.objs.size) x.1=some .local:=fun x hx hl=>
  (F'.mp hx).elim (fun z=>hv x (KG z) hl) fun z=>hv x (JJ z) hl
 refine NJ (Nd (OG (NJ (wpAny_run (OR h₄ fun r s' hr=>?_)))))
 cases r with
 | ok f=>
  refine Nd (OZ (Nd (NJ (NN hr (fun _ s'' hr'=>?_) fun _ _ h'=>h'))))
  obtain⟨m,hn,hr'⟩:=hr'
  exact Nd (Td (cenv:=L2.compEnv env scope s₃.heap.objs.size) hkind _ s'' m hv' hn fun h' m' _ hs'=>Nj (hr' h' hs'))
 | error x=>exact hr.elim
end
theorem vB{X:Cx}{N ps:List Str}{esc:Oo}(S:FnScope N ps esc){i:Nat}{x:Str}{pos pos':Pos}(N':List Str)(fr:List (Option Nat))(nd:N'.Nodup){elt target iter:Nz}{ifs:List Nz}{sc:Oo}{pos2:Pos}{wi:TI}{g:Ni->Hp->List Nh->TG}{tt:Ni->Hp->List Nh->TT}{te:Ni->Hp->List Nh->TE}(C:dW N esc sc N' fr=true)
  (hi:X.N[i]?=some x) (hx:Loc X.env.scope x) (hit:PI X target iter wi) (hg:∀ s3 H3 fp,PG (aI X N' sc s3 H3 fp) target (g s3 H3 fp)) (ht:∀ s3 H3 fp,PTs (aI X N' sc s3 H3 fp) ifs (tt s3 H3 fp)) (he:∀ s3 H3 fp,PE (aI X N' sc s3 H3 fp) elt (te s3 H3 fp))
  (hsw:P0 (.ListComp elt [⟨target,iter,ifs,0⟩] sc pos2) (some (.Name x pos')) pos.line X.env=pure true) (hf:X.fn x=true:=by rfl)
  (hc:X.calm=true:=by rfl) (hN:X.N=N:=by rfl) (hS:X.env.scope=esc:=by rfl) (hs:∀ x,Of iter X.env x=pure x:=by intro _;rfl):PS X (.Assign [.Name x pos'] (.ListComp elt [⟨target,iter,ifs,0⟩] sc pos2) pos) (C4 (uU wi fr g tt te) (uW i)):=by
 have C:CompOk X.N X.env.scope sc N' fr:=nJ (by rw[hN,hS];exact C)
 have hNd:X.N.Nodup:=by rw[hN];exact S.nd
 intro pins s σ H D I h
 rw[exec_Assign_Name_used _ _ _ _ hsw]
 refine Nd (PD (Nd ?_))
 show Nl _ X.A (do let _ <-Qm (.ListComp elt [⟨target,iter,ifs,0⟩] sc pos2) sc X.env _ (Vx []) false (NS iter X.env) (some (Qi (.Name x pos') X.env))) _ _ s
 have hfr:∀ x∈sc.names,x.2=.free->∃ c,X.env.cells.lookup x.1=some c:=fun x hx e=>I.ok.has x.1 (.inl (C.free x hx e))
 refine Nd (NN (iZ (g:=⟨target,iter,ifs,0⟩) (gs:=[]) (Q:=fun _ s'=>SP X pins D .next s') rfl hs C.nocell hfr C.kind C.names ?_) (fun _ s' hq=>Nj (Nj hq)) fun _ _ e=>e)
 refine thn (hit pins s σ H _ I h) fun v s1 h1=>thn h1 fun itv s2 h2=>?_
 obtain⟨it,fp,tn,J,H2,e,I2,T,st2,f2,k2⟩:=h2
 subst e
 refine PH ?_ (by show 0<=sizeLine;decide)
 have hfree:H2 s2.heap.objs.size=none:=I2.hok.fresh (d_ _)
 obtain⟨W,⟨m0,w0⟩,turn⟩:=k2 _ hfree { s2 with heap:=s2.heap.push { cls:=.type "list",data:=.seq ([]:List Nf).toArray } } (upd H2 s2.heap.objs.size (.lst [])) fp
 have kp:∀ b u,s2.heap.get? b=some u->(s2.heap.push { cls:=.type "list",data:=.seq ([]:List Nf).toArray }).get? b=some u:=fun b u e=>Nk _ e
 have I3:Inv X pins σ (upd H2 s2.heap.objs.size (.lst [])) { s2 with heap:=s2.heap.push { cls:=.type "list",data:=.seq ([]:List Nf).toArray } }:=
  I2.laid (t':=s2.toks) kp (d_ _) ⟨G_ _,[],0,.nil,Np _ rfl⟩
 have obj2:=T.obj 0 s2.heap st2
 have fpne:∀ b∈fp,b≠s2.heap.objs.size:=fun b hb=>by
  obtain⟨o,ho,_⟩:=obj2 b hb
  exact r_ (Nt ho)
 have f3:∀ b∈fp,iH X pins (upd H2 s2.heap.objs.size (.lst [])) b:=fun b hb=>⟨by rw[au (fpne b hb)];exact(f2 b hb).1,(f2 b hb).2⟩
 have st3:=T.keep 0 s2.heap _ st2 fun b hb o e=>kp b o e
 have obj3:=T.obj 0 _ st3
 intro h4 hn4 hk4
 have st4:=T.keep 0 _ h4 st3 fun b hb o e=>hk4 b o e
 have I4:=rP (N':=N') (fr:=fr) (fp:=fp) I3 C hc f3 (fun b hb=>let ⟨o,ho,_⟩:=obj3 b hb;⟨o,ho⟩) hn4 hk4
 have stat:∀ {H':Hp},(∀ b∈fp,H' b=none)->∀ b∈fp,iH (aI X N' sc { s2 with heap:=s2.heap.push { cls:=.type "list",data:=.seq ([]:List Nf).toArray } } (upd H2 s2.heap.objs.size (.lst [])) fp) [] H' b:=fun hn b hb=>
  ⟨hn b hb,(I4.ok.exf b hb).1,I4.ok.exfs b hb,.inl hb,(I4.ok.exf b hb).2,fun p hp=>(nomatch hp)⟩
 have loop:OL (Nq X.prog X.w) X.A (.compLoop (.ListComp elt [⟨target,iter,ifs,0⟩] sc pos2) 0 (.ref it) (.ref s2.heap.objs.size) (L2.compEnv X.env sc (s2.heap.push { cls:=.type "list",data:=.seq ([]:List Nf).toArray }).objs.size))
   (fun r s'=>match r with
    | .ok _=>Nl (Nq X.prog X.w) X.A (Qi (.Name x pos') X.env (.ref s2.heap.objs.size)) (fun _ s''=>∃ m,s''.heap.Ns (s2.heap.push { cls:=.type "list",data:=.seq ([]:List Nf).toArray }).objs.size m/\∀ h',Oa (s2.heap.push { cls:=.type "list",data:=.seq ([]:List Nf).toArray }).objs.size s''.heap h'->SP X pins D .next { s'' with heap:=h' }) X.xe s'
    | .error x=>False) { s2 with heap:=h4 }:=by
  refine jR (fun n s'=>∃ i σ' H',Inv (aI X N' sc { s2 with heap:=s2.heap.push { cls:=.type "list",data:=.seq ([]:List Nf).toArray } } (upd H2 s2.heap.objs.size (.lst [])) fp) [] σ' H' s'/\tn i s'.heap/\(∀ b∈fp,H' b=none)/\W i n σ' H') ?_ m0
   ⟨0,_,_,I4,st4,fun b hb=>(f3 b hb).1,w0⟩
  rintro n s5 ⟨j,σ5,H5,I5,st5,fr5,w5⟩
  rcases turn j n σ5 H5 w5 with⟨stop,q⟩ | ⟨go,step⟩
  ·refine thn (T.done (aI X N' sc _ _ fp) rfl rfl rfl rfl j [] s5 σ5 H5 (fun _ _=>False) I5 (stat fr5) st5 stop) ?_
   rintro r s6 ⟨hr,I6⟩
   subst hr
   obtain⟨m6,hn6,_⟩:=id I6.loc
   have hL:H5 (s2.heap.push { cls:=.type "list",data:=.seq ([]:List Nf).toArray }).objs.size=none:=I6.free
   have I7:Inv X pins σ H5 s6:=I3.Cw (s':=s6) (ch:=fp) I6.os I6.base I6.hok I6.bare (fun b hb=>by
    obtain⟨_,g1,g2,g3,g4,g5⟩:=f3 b hb
    exact⟨g3,g1,g4,g5⟩)
   have Lne:(s2.heap.push { cls:=.type "list",data:=.seq ([]:List Nf).toArray }).objs.size≠X.env.locals:=J4 I3.lt
   have cne:∀ y c,X.env.cells.lookup y=some c->c≠(s2.heap.push { cls:=.type "list",data:=.seq ([]:List Nf).toArray }).objs.size:=fun y c e=>by
    obtain⟨v',z⟩:=I3.cell y c e
    exact r_ z.lt
   refine SJ (nY (v:=.ref s2.heap.objs.size) I7 hNd hi hx rfl (fun s8 I8 ⟨a8,sb8,ha8⟩=>?_) (.inl hf))
   refine⟨m6,hn6.sameBut sb8 (fun z=>ha8.elim (fun w'=>Lne (z.trans w')) fun w'=>cne _ _ w' z.symm),fun h' hs'=>⟨_,H5,?_,q⟩⟩
   refine I8.turned (it:=(s2.heap.push { cls:=.type "list",data:=.seq ([]:List Nf).toArray }).objs.size) (t':=s8.toks) (fun b o hb e=>(hs'.2 b hb).trans e) hL Lne (.inr I3.sz) cne fun p hp z=>?_
   have lt:=Nt (I3.pin p hp).1
   rw[z]at lt
   exact JZ _ lt
  refine thn (T.item (aI X N' sc _ _ fp) rfl rfl rfl rfl j [] s5 σ5 H5 (fun _ _=>False) I5 (stat fr5) st5 go) ?_
  rintro r s6 ⟨u,hr,h6⟩
  subst hr
  refine thn h6 ?_
  rintro _ s7 ⟨y,H7,I7,r7,y7,st7,fr7⟩
  have I7':=I7.pinned (stat fr7) (T.obj _ _ st7)
  have again:∀ {σ8:St} {H8:Hp} {s8:Ni},Inv (aI X N' sc { s2 with heap:=s2.heap.push { cls:=.type "list",data:=.seq ([]:List Nf).toArray } } (upd H2 s2.heap.objs.size (.lst [])) fp) ([]++ju fp s7.heap) σ8 H8 s8->(∃ m',m' < n/\W (j + 1) m' σ8 H8)->
    ∃ m,m < n/\∃ i σ' H',Inv (aI X N' sc { s2 with heap:=s2.heap.push { cls:=.type "list",data:=.seq ([]:List Nf).toArray } } (upd H2 s2.heap.objs.size (.lst [])) fp) [] σ' H' s8/\tn i s8.heap/\(∀ b∈fp,H' b=none)/\W i m σ' H':=fun{σ8 H8 s8} I8 ⟨m',hm,w8⟩=>by
   refine⟨m',hm,j + 1,σ8,H8,I8.eY,T.keep _ _ _ st7 fun b hb o e=>(I8.pin (b,o) (s_ _ (s_ _ (bV hb e)))).1,fun b hb=>?_,w8⟩
   obtain⟨o,e,d⟩:=T.obj _ _ st7 b hb
   exact(I8.pin (b,o) (s_ _ (s_ _ (bV hb e)))).2.1
  refine thn (hg _ _ fp _ s7 σ5 H7 y u _ I7' r7 (step y H7 y7)) ?_
  rintro _ s8 ⟨σ8,H8,I8,q8⟩
  refine thn (ht _ _ fp _ s8 σ8 H8 _ I8 q8) ?_
  rintro ok s9 ⟨H9,I9,q9⟩
  cases ok with
  | false=>exact again I9 q9
  | true=>
   refine thn (he _ _ fp _ s9 σ8 H9 _ I9 q9) ?_
   rintro y s10 ⟨v,H10,I10,r10,ys,hys,hl,q10⟩
   refine thn (jj _ s10 σ8 H10 (.ref s2.heap.objs.size) [v] (.ref s2.heap.objs.size) [y] (fun _ H'=>∃ m',m' < n/\W (j + 1) m' σ8 H') I10 rfl (.cons r10 .nil) ⟨_,ys,v,rfl,rfl,hys,hl,q10⟩) ?_
   rintro z s11 ⟨_,H11,I11,_,q11⟩
   exact again I11 q11
 refine RC loop ?_
 exact T.self X.A 0 _ _ _ st4 loop
section
variable{X:Cx}
theorem MtM.imp {id:String}{r r':V->List V->Hp->VK->Prop}(h:MtM X id r)(k:∀ x xs H Q,r' x xs H Q->r x xs H Q):MtM X id r':=fun pins s σ H x xs v us Q I r1 r2 q=>h pins s σ H x xs v us Q I r1 r2 (k _ _ _ _ q)
theorem uh:MtM X "list.append" (fun x vs H Q=>∃ l xs y,x=.ref l/\vs=[y]/\H l=some (.lst xs)/\xs.length < sizeLine/\∀ H',Put H l (.lst (xs++[y])) H'->Q .non H'):=jj.imp fun x vs H Q ⟨l,xs,y,e1,e2,h1,hz,q⟩=>⟨l,xs,y,e1,e2,h1,hz,q _ Put.up⟩
end
end L2
namespace ZG
open PySem
theorem zI{prog:Nv}{w:NA}{A:NH}(hh:A.handled=none)(b:Bool)(it l:Nh)(hne:l≠it)(items:Array Nf) :
  Draws prog w A it [it,l] items.size (fun i v=>items[i]?=some v) (fun i h=>Dr b h it l i/\Sq b h l items) where
 live:=fun _ _ st=>let ⟨o,ho,_⟩:=st.1.some;⟨o,ho⟩
 frame:=fun _ _ _ st hk=>⟨st.1.at fun o e=>hk it (by simp) o e,st.2.at fun o e=>hk l (by simp) o e⟩
 item:=fun i s Q E hi st hQ=>by
  refine oM st.1 st.2 (v:=items[i]) (by simp[hi]) fun h' hit' hs'=>?_
  exact hQ _ h' s.toks (by simp[hi]) ⟨hit',st.2.ext hs'.extBut hne⟩ hs'
 done:=fun s Q E st hE=>zG hh st.1 st.2 (by simp) hE
set_option maxHeartbeats 1000000 in
theorem wM(l:Nh)(items:Array Nf)(n:Nat)(dct:Option Nh)(sl:Array (Option Nf)) :
  Meets (Ox.«enumerate.__new__» ⟨[.type "enumerate",.ref l],[]⟩) (fun _ R s=>s.heap.get? l=some { cls:=.type "tuple",dict:=dct,data:=.seq items n,slots:=sl }/\
   R (.ok (.ret (.ref (s.heap.push { cls:=.type "tuple_iterator",data:=.fields #[.ref l,.int 0 0] }).objs.size)))
    { s with heap:=(s.heap.push { cls:=.type "tuple_iterator",data:=.fields #[.ref l,.int 0 0] }).push { cls:=.type "enumerate",data:=.fields #[.none,.bool false,.ref s.heap.objs.size,Oj 0,.none,.none] } }):=
 .of_wp fun prog w A R s h=>by
  obtain⟨hp,g,d,tk,os⟩:=s;obtain⟨hl,h⟩:=h
  have hsub:=sub_enumerate
  have hL:Q7 (PU ⟨hp,g,d,tk,os⟩) l items:=⟨_,hl,rfl,n,rfl⟩
  wp_walk using O9 hl
  refine wpAny_stack_any fun st=>Nj ?_
  split
  ·rename_i c _ _ _ _ _
   cases (c == Ol "enumerate")
   ·wp_walk using O9 hl,Ob hL
    exact⟨_,rfl,h⟩
   wp_walk using O9 hl,Ob hL
   exact⟨_,rfl,h⟩
  wp_walk using O9 hl,Ob hL
  exact⟨_,rfl,h⟩
section
variable{prog:Nv}{w:NA}{A:NH}{E:Nf->Ni->Prop}{s:Ni}
theorem tM{l:Nh}{items:Array Nf}{Q:Nf->Ni->Prop}(hL:s.heap.IsTuple l items)
  (h:∀ h',U' h' (s.heap.objs.size + 1) s.heap.objs.size 0 .none->h'.IsTupleIter s.heap.objs.size l 0->h'.objs.size=s.heap.objs.size + 2->
   (∀ b o,s.heap.get? b=some o->h'.get? b=some o)->Q (.ref (s.heap.objs.size + 1)) { s with heap:=h' }) :
  Nl (Nq prog w) A (call (.type "enumerate") [.ref l]) Q E s:=by
 obtain⟨⟨c,dct,dt,sl⟩,hl,hc,n,hd⟩:=hL
 replace hc:c=.type "tuple":=hc
 replace hd:dt=.seq items n:=hd
 subst hc hd
 refine U8 F.called_enumerate (by decide) (F.typeCall_enumerate_1 _) (F.newCall_enumerate_1 _) (fun obj=>F.args_object_init_2 obj _) F.entry_enumerate_new
  (wM l items n dct sl) ⟨hl,?_⟩
 have hz:(s.heap.push { cls:=.type "tuple_iterator",data:=.fields #[.ref l,.int 0 0] }).objs.size=s.heap.objs.size + 1:=NY ..
 show _/\_
 rw[hz]
 have he:U' ((s.heap.push { cls:=.type "tuple_iterator",data:=.fields #[.ref l,.int 0 0] }).push
   { cls:=.type "enumerate",data:=.fields #[.none,.bool false,.ref s.heap.objs.size,Oj 0,.none,.none] }) (s.heap.objs.size + 1) s.heap.objs.size 0 .none:=by
  have:=Np (s.heap.push { cls:=.type "tuple_iterator",data:=.fields #[.ref l,.int 0 0] })
   (o:={ cls:=.type "enumerate",data:=.fields #[.none,.bool false,.ref s.heap.objs.size,Oj 0,.none,.none] }) rfl
  rw[hz]at this;exact this
 refine⟨⟨_,he,rfl⟩,h _ he ⟨_,Nk _ (Np _ rfl),rfl,rfl⟩ (by rw[NY,hz]) fun b o x=>Nk _ (Nk _ x)⟩
theorem uj{b:Bool}{l:Nh}{items:Array Nf}{Q:Nf->Ni->Prop}(hL:Sq b s.heap l items)
  (h:∀ h',U' h' (s.heap.objs.size + 1) s.heap.objs.size 0 .none->Dr b h' s.heap.objs.size l 0->h'.objs.size=s.heap.objs.size + 2->
   (∀ b o,s.heap.get? b=some o->h'.get? b=some o)->Q (.ref (s.heap.objs.size + 1)) { s with heap:=h' }) :
  Nl (Nq prog w) A (call (.type "enumerate") [.ref l]) Q E s:=by
 cases b with
 | true=>exact tM hL h
 | false=>exact call_enumerate_list hL h
end
end ZG
namespace L2
open PySem PySem.Spec PyProof.Rows
noncomputable def Ite(K:Ng)(b:Bool)(a:Nh):It:=
  ⟨fun i H=>∃ xs x,SqG b K H a xs/\xs[i]?=some x,
   fun i H v H'=>∃ p x,H p=none/\v=.ref p/\H'=upd H p (.tup [.int i,x])/\∀ xs,SqG b K H a xs->xs[i]?=some x,
   fun i H=>∃ xs,SqG b K H a xs/\xs.length=i⟩
theorem xc{P:Nv}{w:NA}{K:Ng}{es:List Nz}{x1:Nat}{tp:Pos}(b:Bool)(a e it:Nh)(D:e≠it) :
  Turn P w K (.Tuple es x1 tp) (Ite K b a) [e,it] e (fun i h=>(∃ old,U' h e it i old)/\ZG.Dr b h it a i) where
 mem:=by simp
 obj:=fun i h st c hb=>by
  obtain⟨⟨old,he⟩,d⟩:=st
  have hb:c=e\/c=it:=by simpa using hb
  rcases hb with rfl | rfl
  ·exact⟨_,he,fun v z=>by cases (show Ru _=QH v from z)⟩
  exact d.some
 keep:=fun i h h' st k=>by
  obtain⟨⟨old,he⟩,d⟩:=st
  exact⟨⟨old,k e (by simp) _ he⟩,d.at fun o z=>k it (by simp) o z⟩
 item:=by
  intro X hP hw hK hc i pins s σ H E I hf st hg
  subst hP hw hK
  obtain⟨xs,x,q1,hx⟩:=hg
  obtain⟨its,rv,p1,z1⟩:=I.sq q1
  obtain⟨u,hu,ru⟩:=rv.get hx
  obtain⟨⟨old,he⟩,d⟩:=st
  have fe:=hf e (by simp)
  have fi:=hf it (by simp)
  have nai:=I.bP q1 fi
  have nae:=I.bP q1 fe
  have hlt:i < its.toArray.size:=by
   have:=(c_.mp hu).1
   simpa using this
  refine wpAny_pyNext_enum_itemD (ZG.zI (A:=X.A.in1) (I.ok.hd hc) b it a nai its.toArray) he ⟨d,p1⟩ hlt D (by simp[D,nae.symm]) fun y h1 tk hP hO hst hT hsz hk=>⟨_,rfl,?_⟩
  have ey:y=u:=by
   have e1:its.toArray[i]?=some u:=by simpa using hu
   rw[e1]at hP
   exact(D_ hP).symm
  subst ey
  refine wpAny_letOwnedTupleGo_enum (s:={ s with heap:=h1,toks:=tk + 1 }) hO fun h' he' hs'=>?_
  have hfresh:H s.heap.objs.size=none:=I.hok.fresh (d_ _)
  have eT:s.heap.objs.size≠e:=J4 (Nt he)
  have kp:∀ c o,c ∉ [e,it]->s.heap.get? c=some o->h'.get? c=some o:=fun c o hb z=>by
   have n:c≠e/\c≠it:=by simpa using hb
   exact hs'.extBut _ _ n.1 (hk c o n.1 n.2 z)
  have hT':h'.get? s.heap.objs.size=some { cls:=.type "tuple",data:=.seq #[.int i tk,y] }:=hs'.extBut _ _ eT hT
  have notfp:∀ c o,H c=some o->c ∉ [e,it]:=fun c o z hb=>by
   have:=(hf c hb).1
   rw[z]at this;cases this
  have ne:∀ c o,s.heap.get? c=some o->c≠s.heap.objs.size:=fun c o z=>r_ (Nt z)
  have nt:∀ c o,H c=some o->c≠s.heap.objs.size:=fun c o z=>aY z hfresh
  have I1:Inv X pins σ (upd H s.heap.objs.size (.tup [.int i,x])) { s with heap:=h',toks:=tk + 1 }:=by
   refine I.step (g':=s.gens) (d':=s.drawn) (t':=tk + 1) (ch:=[e,it]) (fun c hb=>?_) (fun c o _ _ hc z _=>kp c o hc z) (fun c o _ _ hc z _=>⟨o.slots,kp c o hc z⟩)
    (fun c o _ z n=>by rw[au (ne c o z)];exact n) (fun c o hc z=>⟨o,kp c o hc z⟩) (fun c zs z=>by rw[au (nt c _ z)];exact z) (fun c o u z=>by rw[au (nt c _ z)];exact z)
    (fun c ps z=>⟨#[],by rw[au (nt c _ z),z];simp⟩) (fun m hm=>?_) (fun c o z=>?_) I.bare
   ·obtain⟨g0,g1,g2,g3,g4,g5⟩:=hf c hb
    exact⟨g3,g1,g4,g5⟩
   ·obtain⟨o,es,ep,ho',r⟩:=hm
    exact⟨o,es,ep,kp _ o (fun hb=>(hf _ hb).2.1 rfl) ho',r⟩
   by_cases hb:c=s.heap.objs.size
   ·subst hb
    rw[ay]at z
    cases z
    exact⟨by show 2<=sizeLine;decide,[.int i tk,y],.cons ⟨tk,rfl⟩ (.cons ru .nil),_,hT',rfl,_,rfl⟩
   rw[au hb]at z
   refine(I.hok c o z).dI (fun c' w' hc' q=>kp c' w' ?_ q) (fun c' q=>by rw[au (nt c' _ q)];exact q) fun c' zs q=>by rw[au (nt c' _ q)];exact q
   rcases hc' with rfl | hc'
   ·exact notfp _ _ z
   exact notfp _ _ hc'
  refine⟨.ref s.heap.objs.size,_,I1,rfl,⟨s.heap.objs.size,x,hfresh,rfl,rfl,fun zs hq=>by rw[I.u6 hq q1];exact hx⟩,?_,fun c hb=>?_⟩
  ·exact⟨⟨_,he'⟩,hst.1.ext hs'.extBut D.symm⟩
  have hb0:=(hf c hb).1
  have hb':c=e\/c=it:=by simpa using hb
  have hlt:∃ o,s.heap.get? c=some o:=by
   rcases hb' with rfl | rfl
   ·exact⟨_,he⟩
   obtain⟨o,z,_⟩:=d.some;exact⟨o,z⟩
  obtain⟨o,z⟩:=hlt
  rw[au (ne c o z)]
  exact hb0
 done:=by
  intro X hP hw hK hc i pins s σ H E I hf st hg
  subst hP hw hK
  obtain⟨xs,q1,hn⟩:=hg
  obtain⟨its,rv,p1,z1⟩:=I.sq q1
  obtain⟨⟨old,he⟩,d⟩:=st
  have fe:=hf e (by simp)
  have fi:=hf it (by simp)
  have nai:=I.bP q1 fi
  have l1:=rv.length
  have en:its.toArray.size=i:=by simp;omega
  refine wpAny_pyNext_enum_endD (ZG.zI (A:=X.A.in1) (I.ok.hd hc) b it a nai its.toArray) he (by rw[en];exact⟨d,p1⟩) fun g gk=>⟨rfl,?_⟩
  have kp:∀ c o,c ∉ [e,it]->s.heap.get? c=some o->g.get? c=some o:=fun c o hb z=>by
   have n:c≠e/\c≠it:=by simpa using hb
   exact gk c o n.2 z
  have notfp:∀ c o,H c=some o->c ∉ [e,it]:=fun c o z hb=>by
   have:=(hf c hb).1
   rw[z]at this;cases this
  refine I.step (g':=s.gens) (d':=s.drawn) (t':=s.toks) (ch:=[e,it]) (fun c hb=>?_) (fun c o _ _ hc z _=>kp c o hc z) (fun c o _ _ hc z _=>⟨o.slots,kp c o hc z⟩)
   (fun c o _ z n=>n) (fun c o hc z=>⟨o,kp c o hc z⟩) (fun c zs z=>z) (fun c o u z=>z) (fun c ps z=>⟨#[],by rw[z];simp⟩) (fun m hm=>?_) (fun c o z=>?_) I.bare
  ·obtain⟨g0,g1,g2,g3,g4,g5⟩:=hf c hb
   exact⟨g3,g1,g4,g5⟩
  ·obtain⟨o,es,ep,ho',r⟩:=hm
   exact⟨o,es,ep,kp _ o (fun hb=>(hf _ hb).2.1 rfl) ho',r⟩
  refine(I.hok c o z).dI (fun c' w' hc' q=>kp c' w' ?_ q) (fun c' q=>q) fun c' zs q=>q
  rcases hc' with rfl | hc'
  ·exact notfp _ _ z
  exact notfp _ _ hc'
 self:=fun _ _ _ _ _ st h=>by
  obtain⟨⟨old,he⟩,_⟩:=st
  exact SQ he h
def Ii(K:Ng)(ta:TA):TI:=fun σ H R=>ta σ H fun vs H1=>∃ b a,vs=[.ref a]/\(∃ xs,SqG b K H1 a xs)/\R (Ite K b a) H1
theorem B1{X:Cx}{es:List Nz}{x1:Nat}{tp:Pos}{a:Nz}{ta:TA}{p pos:Pos}(hg:Gl X "enumerate")(hm:X.mg "enumerate"=none)(ha:PA X [a] ta)(hs:NF [a] X.env=[(false,NS a X.env)]:=by rfl) :
  PI X (.Tuple es x1 tp) (.Call (.Name "enumerate" p) [a] [] pos) (Ii X.K ta):=by
 intro pins s σ H R I h
 refine Vy (cp I hg hm boot_enumerate (OQ (thn (ha pos pins s σ H _ I h) fun us s1 ⟨vs,H1,I1,r1,q1⟩=>?_) hs rfl))
 obtain⟨b,a,e,⟨xs,q1⟩,q⟩:=q1
 subst e
 cases r1 with
 | cons r rr=>
  cases rr
  cases r
  obtain⟨its,rv,p1,z1⟩:=I1.sq q1
  refine ZG.uj p1 fun g gz g1 gs gk=>SQ (s:={ s1 with heap:=g }) gz ?_
  have I2:Inv X pins σ H1 { s1 with heap:=g }:=I1.kept (t':=s1.toks) gk
  refine⟨_,_,_,_,H1,rfl,I2,xc b a _ s1.heap.objs.size (show(_:Nat)≠_ by omega),⟨⟨_,gz⟩,g1⟩,fun c hb=>?_,q⟩
  have hb':s1.heap.objs.size<=c:=by
   have z:c=s1.heap.objs.size + 1\/c=s1.heap.objs.size:=by simpa using hb
   rcases z with z | z <;> rw[z] <;>(show(_:Nat)<=_) <;> omega
  exact I1.tF hb' (I1.hok.fresh hb')
end L2
namespace ZG
open PySem
open Sem (wp)
section
variable{prog:Nv}{w:NA}{A:NH}{E:Nf->Ni->Prop}{s:Ni}
theorem GF{d:Nh}{o:Obj}{es:Array Ph}{ep:Nat}{Q:Nf->Ni->Prop}(hd:(d == Om)=false)(ho:s.heap.get? d=some o)(hc:o.ExactDict)(hdat:o.data=.dict es ep)
  (hQ:Q (.ref s.heap.objs.size) { s with heap:=s.heap.push { cls:=.type "dict_keyiterator",data:=.fields #[.ref d,.int 0 0,.int es.size 0,.int ep 0] } }):Nl (Nq prog w) A (Qj (.ref d)) Q E s:=by
 have hT:s.TypeIs (.ref d) "dict":=⟨o,ho,hc.1⟩
 refine QU hT Tf (NX Tf hT F.entry_dict_iter ?_ (F.args_dict_iter_1 _))
 unfold Ox.«dict.__iter__» UN
 refine Nd (Nd (wpAny_notOrdered_dict hT (show Nl _ _ (pure (NT d)) _ _ s from Nj (show Nl _ _ (RH d >>= _) _ _ s from ?_))))
 unfold RH
 rw[if_neg (by rw[hd];exact B_)]
 exact Nd (Nj (Nd (Qe ho hdat (Nd (Ro ho hdat (Nd (NI (Nj ⟨_,rfl,"dict_keyiterator",_,⟨_,Np _ rfl,rfl⟩,Oz.lookup,by simpa[Oj]using hQ⟩))))))))
theorem Ib{it d:Nh}{i ep:Nat}{o:Obj}{es:Array Ph}{e:Ph}{Q:Option Nf->Ni->Prop}(hit:s.heap.IsKeyIter it d i es.size ep)(hod:s.heap.get? d=some o)(hdd:o.data=.dict es ep)(hx:es[i]?=some e)
  (hQ:∀ h',h'.IsKeyIter it d (i + 1) es.size ep->Oa it s.heap h'->Q (some e.key) { s with heap:=h' }):Nl (Nq prog w) A (OJ (.ref it)) Q E s:=by
 obtain⟨oi,ho,hc,hd⟩:=id hit
 unfold OJ
 refine Nd (OG (N0 (name:=N7 "__next__") hit.typeIs Oz (NX Oz hit.typeIs Qv ?_ (Qt _))))
 refine Nd (Nj (Nd (Nd ?_)))
 refine Nd (ON hit.typeIs (Nj (Nd (QD ho hd ?_))))
 simp only[show QE "dict_keyiterator"=false by decide,Ji,if_false]
 show Nl _ _ (if(NT d == NR)=true then _ else _) _ _ s
 rw[if_neg (show ¬(NT d == NR)=true from fun z=>B_ z)]
 refine Nd (Nj (Nd (Qe hod hdd ?_)))
 rw[if_neg (show ¬ _ by simp)]
 refine Nd (Nj (Nd (Ro hod hdd ?_)))
 rw[if_neg (show ¬ _ by simp)]
 refine Nj ?_
 simp only[show ¬(i:Int) < 0 by lia,if_false,C_,hx]
 refine Nd (Nd (ON hit.typeIs (Nj (Nd (RI hit.typeIs ?_)))))
 show Nl _ _ (setField (.ref it) 1 (Oj ((i:Int) + 1)) >>= _) _ _ s
 refine Nd (Ow ho hd (by simp) ?_)
 have hit':(s.heap.update it (PJ (·.setIfInBounds 1 (Oj ((i:Int) + 1))))).IsKeyIter it d (i + 1) es.size ep:=
  ⟨_,NU _ ho (OK (NV hd _)),(Pp ..).trans hc,by rw[NV hd];simp[Oj]⟩
 exact Nd (NJ (Nd (RI (s:={ s with heap:=s.heap.update it (PJ (·.setIfInBounds 1 (Oj ((i:Int) + 1)))) }) hit'.typeIs (show Nl _ _ (pure e.key) _ _ _ from Nj (Nj ⟨_,rfl,Nj (hQ _ hit' (N1 ..))⟩)))))
theorem IS{it d:Nh}{i ep:Nat}{o:Obj}{es:Array Ph}{Q:Option Nf->Ni->Prop}(hh:A.handled=none)(hit:s.heap.IsKeyIter it d i es.size ep)(hod:s.heap.get? d=some o)(hdd:o.data=.dict es ep)(hx:es[i]?=none)
  (hQ:∀ h',PR it s.heap h'->Q none { s with heap:=h' }):Nl (Nq prog w) A (OJ (.ref it)) Q E s:=by
 obtain⟨oi,ho,hc,hd⟩:=id hit
 unfold OJ
 refine Nd (OG (N0 (name:=N7 "__next__") hit.typeIs Oz (NX Oz hit.typeIs Qv ?_ (Qt _))))
 refine Nd (Nj (Nd (Nd ?_)))
 refine Nd (ON hit.typeIs (Nj (Nd (QD ho hd ?_))))
 simp only[show QE "dict_keyiterator"=false by decide,Ji,if_false]
 show Nl _ _ (if(NT d == NR)=true then _ else _) _ _ s
 rw[if_neg (show ¬(NT d == NR)=true from fun z=>B_ z)]
 refine Nd (Nj (Nd (Qe hod hdd ?_)))
 rw[if_neg (show ¬ _ by simp)]
 refine Nd (Nj (Nd (Ro hod hdd ?_)))
 rw[if_neg (show ¬ _ by simp)]
 refine Nj ?_
 simp only[show ¬(i:Int) < 0 by lia,if_false,C_,hx]
 refine Nd (Nd (ON hit.typeIs (Nj ?_)))
 show Nl _ _ (setField (.ref it) 0 .none >>= _) _ _ s
 refine Nd (Ow ho hd (by simp) (show Nl _ _ (Q6 (.type "StopIteration") [] >>= _) _ _ _ from Nd ?_))
 simp only[Q6,S_]
 refine Nd (NI (Nd (m:=OO _ _) (Pl (a:=NR) (by first | rfl | (simp only[OO];rfl)) (NI ?_ (by size_fits)))) (by size_fits))
 simp only[Ta]
 refine Nd (QQ ?_)
 rw[show A.in1.handled=none from hh]
 refine Nd (Nj (RB ?_))
 refine Nd (Pw (T:="StopIteration") (b:=true) (by exact⟨_,Np _ rfl,rfl⟩) QC (Nj ?_))
 exact hQ _ (((N1 ..).extBut.push _).push _)
end
end ZG
namespace L2
open PySem PySem.Spec PyProof.Rows
def kI(ns:List Int):List Key:=ns.map Qy
theorem Gj(ns:List Int):(kI ns).map kV=ns.map V.int:=by
 unfold kI
 rw[Jj]
 rfl
theorem EM{ns ms:List Int}(h:kI ns=kI ms):ns=ms:=(My fun _ _ z=>SW z).mp h
section
variable{X:Cx}
def Idn(lo:Int)(n:Nat):It:=⟨fun i _=>i < n,fun i H x H'=>H'=H/\x=.int (lo - i),fun i _=>n<=i⟩
theorem wW{P:Nv}{w:NA}{K:Ng}{tg:Nz}(it:Nh)(lo:Int)(n:Nat):Turn P w K tg (Idn lo n) [it] it (fun i h=>Rt h it (lo + (i:Nat) * (-1)) ((n:Int) - (i:Nat)) (-1)) where
 mem:=by simp
 obj:=fun i h st b hb=>by
  have e:b=it:=by simpa using hb
  subst e
  refine⟨_,st,fun v z=>?_⟩
  cases (show Ru _=QH v from z)
 keep:=fun i h h' st k=>k it (by simp) _ st
 item:=by
  intro Y hP hw hK hc i pins s σ H E I hf st hg
  subst hP hw hK
  obtain⟨f0,f1,f2,f3,f4,f5⟩:=hf it (by simp)
  have WW:=Vm (prog:=Y.prog) (w:=Y.w) (I.ok.hd hc) it lo (-1) n
  refine WW.item i s _ _ hg st fun v h' tk hv st' kk=>?_
  obtain⟨t,rfl⟩:=hv
  have J1:Inv Y pins σ H { s with heap:=h',toks:=tk }:=I.turned (fun b o hb e=>kk b o (by simpa using hb) e) f0 f1 f3 f4 f5
  refine⟨_,rfl,vD (s:={ s with heap:=h',toks:=tk }) (n:="range_iterator") st' rfl rfl (by decide) ⟨.int (lo - i),H,J1,⟨t,?_⟩,⟨rfl,rfl⟩,st',fun b hb=>(hf b hb).1⟩⟩
  rw[show lo + (i:Int) * (-1)=lo - i by lia]
 done:=by
  intro Y hP hw hK hc i pins s σ H E I hf st hg
  subst hP hw hK
  obtain⟨f0,f1,f2,f3,f4,f5⟩:=hf it (by simp)
  exact Rv (I.ok.hd hc) st (by have hh:n<=i:=hg;lia) fun h' eb=>⟨rfl,I.turned (t':=s.toks) (fun b o hb e=>eb b o hb e) f0 f1 f3 f4 f5⟩
 self:=fun _ _ _ _ _ st h=>Rw st h
theorem nS{lo hi:Int}:Pc lo hi (-1)=(((lo - hi).toNat:Nat):Int):=by
 unfold Pc
 rw[if_neg (by decide)]
 split
 ·rw[show - (-1:Int)=1 from rfl,M0];lia
 lia
theorem tY{lo hi:Int}(h1:-(2 ^ 60)<=lo)(h2:lo < 2 ^ 60)(h3:-(2 ^ 60)<=hi)(h4:hi < 2 ^ 60):Sd lo hi (-1)=true:=by
 unfold Sd
 rw[nS,if_neg (by decide)]
 unfold Ue
 simp only[E_,KW,decide_eq_true_eq]
 refine⟨⟨⟨⟨⟨?_,?_⟩,?_,?_⟩,by decide,by decide⟩,?_,?_⟩,.inr ⟨?_,?_⟩⟩ <;> lia
theorem AG{pins:List (Nh × Obj)}{σ:St}{H:Hp}{s:Ni}{tg:Nz}{R:It->Hp->Prop}{E:Nf->Ni->Prop}{lo hi:Int}{t u v:Tok}{tk:Nat}(I:Inv X pins σ H s)(h1:-(2 ^ 60)<=lo)(h2:lo < 2 ^ 60)(h3:-(2 ^ 60)<=hi)(h4:hi < 2 ^ 60)
  (q:R (Idn lo (lo - hi).toNat) H):Nl (Nq X.prog X.w) X.A (Qj (.ref s.heap.objs.size)) (PIE X pins σ tg R) E { s with heap:=s.heap.push { cls:=.type "range",data:=.fields #[.int lo t,.int hi u,.int (-1) v] },toks:=tk }:=by
 refine Sj (SX ..) (tY h1 h2 h3 h4) ?_
 obtain⟨hp,ehp⟩:∃ hp,hp=s.heap.push { cls:=.type "range",data:=.fields #[.int lo t,.int hi u,.int (-1) v] }:=⟨_,rfl⟩
 have J1:Inv X pins σ H { s with heap:=hp,toks:=tk }:=by rw[ehp];exact I.kept fun b o e=>Nk _ e
 dsimp only
 rw[<-ehp]
 refine⟨hp.objs.size,[hp.objs.size],_,_,H,rfl,J1.kept (t':=tk) fun b o e=>Nk _ e,wW _ lo (lo - hi).toNat,?_,fun b hb=>?_,q⟩
 ·have e1:lo + ((0:Nat):Int) * (-1)=lo:=by simp
  have e2:(((lo - hi).toNat:Nat):Int) - ((0:Nat):Int)=Pc lo hi (-1):=by rw[nS];lia
  show Rt _ _ (lo + ((0:Nat):Int) * (-1)) ((((lo - hi).toNat:Nat):Int) - ((0:Nat):Int)) (-1)
  rw[e1,e2]
  exact Np _ rfl
 have e:b=hp.objs.size:=by simpa using hb
 subst e
 exact J1.tF (d_ _) (J1.hok.fresh (d_ _))
noncomputable def G7(ta:TA):TI:=fun σ H R=>ta σ H fun vs H1=>∃ i j:Int,vs=[.int i,.int j,.int (-1)]/\(-(2 ^ 60)<=i/\i < 2 ^ 60/\-(2 ^ 60)<=j/\j < 2 ^ 60)/\R (Idn i (i - j).toNat) H1
theorem xa{tg a b c:Nz}{ta:TA}{p pos:Pos}(hg:Gl X "range")(hm:X.mg "range"=none)(ha:PA X [a,b,c] ta)(hs:NF [a,b,c] X.env=[(false,NS a X.env),(false,NS b X.env),(false,NS c X.env)]:=by rfl)(hs2:NF [b,c] X.env=[(false,NS b X.env),(false,NS c X.env)]:=by rfl) :
  PI X tg (.Call (.Name "range" p) [a,b,c] [] pos) (G7 ta):=by
 intro pins s σ H R I h
 refine Vy (cp I hg hm Tp (callWith_type1 (thn (ha pos pins s σ H _ I h) fun us s1 ⟨vs,H1,I1,r1,q1⟩=>?_) (by rw[hs,hs2]) (by rw[hs2];rfl)))
 obtain⟨i,j,e,⟨q1,q2,q3,q4⟩,q⟩:=q1
 subst e
 cases r1 with
 | cons r rr=>
  cases rr with
  | cons r' rr=>
   cases rr with
   | cons r'' rr=>
    cases rr
    obtain⟨t,rfl⟩:=r
    obtain⟨t',rfl⟩:=r'
    obtain⟨t'',rfl⟩:=r''
    refine call_range_3 (by decide) ?_ (.inl ?_)
    ·exact AG I1 q1 q2 q3 q4 q
    unfold Builtin.divisionGoesByPylong
    rfl
theorem wu(hc:X.calm=true):bh X (.builtin "min") (fun xs H Q=>∃ a ns,xs=[.ref a]/\SqT X.K H a (ns.map V.int)/\ns≠[]/\∀ r,v9 ns r->Q (.int r) H):=by
 intro pins s σ H xs us Q I r h
 obtain⟨a,ns,rfl,hq,hne,q⟩:=h
 obtain⟨u,rfl,ru⟩:=vals1 r
 cases ru
 obtain⟨its,rv,p,z⟩:=I.tuple hq
 obtain⟨ps,e1,e2⟩:=d5 rv
 have ei:O8 ps.toArray=its.toArray:=by simp[O8,e1]
 have hT:s.heap.IsTuple a (O8 ps.toArray):=by rw[ei];exact p
 have hlen:ps.length=ns.length:=by rw[<-e2];simp
 have hpos:0 < ns.length:=JQ fun z=>hne (Je z)
 have hlt:a < s.heap.objs.size:=by obtain⟨o,e,_⟩:=p;exact Nt e
 have hh:X.A.in1.handled=none:=I.ok.hd hc
 have W1:=Walks.tuple (prog:=X.prog) (w:=X.w) hh s.heap.objs.size a (r_ hlt) (O8 ps.toArray)
 refine call_min_walk (Ob hT ⟨s.heap.objs.size,_,_,_,_,_,_,rfl,W1,?_,fun b hb=>?_,?_,CmpOf.ints_lt (Rn ps.toArray) (fun i v hv=>S4 hv),fun v h' tk hv hk=>?_⟩)
 ·refine⟨⟨_,Np _ rfl,rfl,rfl⟩,?_⟩
  obtain⟨o,e,r⟩:=hT
  exact⟨o,Nk _ e,r⟩
 ·show b < (s.heap.push _).objs.size
  have e:(s.heap.push { cls:=.type "tuple_iterator",data:=.fields #[.ref a,.int 0 0] }).objs.size=s.heap.objs.size + 1:=by simp[Ss]
  rcases m_.mp hb with hb | hb
  ·rw[hb];simp[Ss]
  rw[w_.mp hb]
  exact x_ hlt (by simp[Ss])
 ·simp[O8];lia
 obtain⟨tv,rfl⟩:=S4 hv
 obtain⟨b1,b2⟩:=argBest_lt (Rn ps.toArray) ((O8 ps.toArray).size - 1)
 have es:(O8 ps.toArray).size=ns.length:=by simp[O8,hlen]
 have hi:Ot (fun i j=>decide (Rn ps.toArray i < Rn ps.toArray j)) ((O8 ps.toArray).size - 1) < ns.length:=by rw[es]at b1 ⊢;lia
 obtain⟨f0,f1,f2,f3,f4,f5⟩:=I.tF (b:=s.heap.objs.size) (d_ _) (I.hok.fresh (d_ _))
 have kk:∀ b o,s.heap.get? b=some o->h'.get? b=some o:=fun b o e=>hk b o (fun z=>r_ (Nt e) (w_.mp z)) (Nk _ e)
 refine⟨.int _,H,I.kept (t':=tk) kk,⟨tv,rfl⟩,q _ ⟨?_,fun x hx=>?_⟩⟩
 ·rw[iF e2 hi];exact JN hi
 obtain⟨j,hj,rfl⟩:=Jp.mp hx
 have:=b2 j (by rw[es];lia)
 rw[iF e2 hj]at this
 exact this
theorem vM{K:Ng}{H:Hp}:∀ {ds:List Dt} {xs:List V} {us:List Nf},ax K H ds xs->Vals xs us->∀ p∈us.zip ds,∃ x,RelV x p.1/\Has K H p.2 x
 | [],_,_,_,_=>fun p hp=>by simp at hp
 | d::ds,_,_,h,v=>fun p hp=>by
  rw[ax]at h
  obtain⟨x,t,rfl,h1,h2⟩:=h
  cases v with
  | cons r v'=>
   rw[J5]at hp
   rcases m_.mp hp with rfl | hp
   ·exact⟨x,r,h1⟩
   exact vM h2 v' p hp
theorem lO{pins:List (Nh × Obj)}{σ:St}{H:Hp}{s:Ni}(I:Inv X pins σ H s){A:NH}{n:Nat}(hA:A.units + n < cLine){d:Dt}{x:V}{v:Nf}(hd:Has X.K H d x)(rx:RelV x v) :
  ∀ {ds:List Dt} {xs:List V} {us:List Nf},bo ds<=n->ax X.K H ds xs->Vals xs us->∃ e:Nf->Bool,(∀ u∈us,Py A s u v (e u))/\(∀ p∈us.zip ds,e p.1=eqD p.2 d)/\us.any e=ds.any fun d'=>eqD d' d
 | [],_,_,_,h,r=>by
  rw[ax]at h
  subst h
  cases r
  exact⟨fun _=>false,fun u hu=>(by cases hu),fun p hp=>(by simp at hp),rfl⟩
 | d'::ds,_,_,hn,h,r=>by
  rw[ax]at h
  obtain⟨x',t,rfl,h1,h2⟩:=h
  rw[bo]at hn
  cases r with
  | @cons _ u' _ us r1 r2=>
   obtain⟨e0,a1,a2,a3⟩:=lO I hA hd rx (by lia) h2 r2
   have q1:Py A s u' v (eqD d' d):=(oo I n A d' d x' x u' v (by lia) hA h1 hd r1 rx).2.2
   have same:∀ p∈us.zip ds,p.1=u'->p.2=d':=fun p hp z=>by
    obtain⟨y,ry,hy⟩:=vM h2 r2 p hp
    rw[z]at ry
    have:=RelV.inj ry r1
    subst this
    exact Has.inj I hy h1
   have ev:∀ p∈us.zip ds,(if p.1=u' then eqD d' d else e0 p.1)=eqD p.2 d:=fun p hp=>by
    split
    ·rename_i z
     rw[same p hp z]
    exact a2 p hp
   have len:us.length=ds.length:=by
    have m1:=h2.len
    have m2:=r2.length
    lia
   have DM:∀(f:Nf->Bool) (us:List Nf) (ds:List Dt),us.length=ds.length->(∀ p∈us.zip ds,f p.1=eqD p.2 d)->us.any f=ds.any fun d'=>eqD d' d:=fun f us=>by
    induction us with
    | nil=>intro ds z _;cases ds with
     | nil=>rfl
     | cons _ _=>cases z
    | cons u us ih=>intro ds z h;cases ds with
     | nil=>cases z
     | cons c cs=>
      rw[J0,J0,ih cs (J6 z) fun p hp=>h p (by rw[J5];exact n_ _ hp),h (u,c) (by rw[J5];exact p_ ..)]
   refine⟨fun y=>if y=u' then eqD d' d else e0 y,fun u hu=>?_,fun p hp=>?_,?_⟩
   ·show Py A s u v (if u=u' then eqD d' d else e0 u)
    split
    ·rename_i z
     rw[z]
     exact q1
    rename_i z
    rcases m_.mp hu with rfl | hu
    ·exact absurd rfl z
    exact a1 u hu
   ·rw[J5]at hp
    rcases m_.mp hp with rfl | hp
    ·exact if_pos rfl
    exact ev p hp
   rw[J0,J0,DM _ us ds len ev,if_pos rfl]
noncomputable def Ic(K:Ng)(A:NH)(neg:Bool):R2:=fun x y H Q=>∃ p xs d ds,y=.ref p/\SqL K H p xs/\Has K H d x/\ax K H ds xs/\A.in1.units + bo ds < cLine/\Q (.bl (if neg then !(ds.any fun e=>eqD e d)else ds.any fun e=>eqD e d)) H
theorem DT:OpR X (NO .In) (Ic X.K X.A false):=by
 intro pins s σ H x y v u Q I rx ry h
 obtain⟨p,xs,d,ds,rfl,hq,hd,hl,hA,q⟩:=h
 cases ry
 obtain⟨its,r,pl,hz⟩:=I.list hq
 obtain⟨e,e1,_,e3⟩:=lO I (A:=X.A.in1) hA hd rx (d_ _) hl r
 refine SeqAt.in_listAt e pl.isList (fun w hw=>e1 w (by simpa using hw)) ⟨.bl _,H,I,rfl,?_⟩
 rw[show its.toArray.any e=its.any e by simp,e3]
 exact q
theorem wj:OpR X (NO .NotIn) (Ic X.K X.A true):=by
 intro pins s σ H x y v u Q I rx ry h
 obtain⟨p,xs,d,ds,rfl,hq,hd,hl,hA,q⟩:=h
 cases ry
 obtain⟨its,r,pl,hz⟩:=I.list hq
 obtain⟨e,e1,_,e3⟩:=lO I (A:=X.A.in1) hA hd rx (d_ _) hl r
 refine SeqAt.notIn_listAt e pl.isList (fun w hw=>e1 w (by simpa using hw)) ⟨.bl _,H,I,rfl,?_⟩
 rw[show its.toArray.any e=its.any e by simp,e3]
 exact q
end
end L2
namespace ZM
open PySem
section
variable{prog:Nv}{w:NA}{A:NH}{E:Nf->Ni->Prop}{s:Ni}
noncomputable def lx:List Int->List Int->Bool
 | [],[]=>false
 | [],_::_=>true
 | _::_,[]=>false
 | a::x,b::y=>if a=b then lx x y else decide (a < b)
end
section
variable{prog:Nv}{w:NA}{A:NH}{E:Nf->Ni->Prop}{s:Ni}
def IntsAre:List Nf->List Int->Prop
 | [],[]=>True
 | v::l,n::r=>(∃ t,v=.int n t)/\IntsAre l r
 | _,_=>False
theorem DZ:∀ {l:List Nf} {n:List Int},IntsAre l n->l.length=n.length:=by
 intro l
 induction l with
 | nil=>
  intro n h
  cases n with
  | nil=>rfl
  | cons a n=>exact h.elim
 | cons v l ih=>
  intro n h
  cases n with
  | nil=>exact h.elim
  | cons a n=>rw[i_,i_,ih h.2]
end
theorem Bw{bt:Nat->Nat->Bool}(tr:∀ i j k,bt i j=true->bt j k=true->bt i k=true)(ir:∀ i,bt i i=false):∀ n,Ot bt n<=n/\∀ j,j<=n->bt j (Ot bt n)=false:=by
 intro n
 induction n with
 | zero=>exact⟨d_ _,fun j hj=>by rw[Nat.le_zero.mp hj];exact ir _⟩
 | succ n ih=>
  cases hb:bt (n + 1) (Ot bt n)with
  | true=>
   have e:Ot bt (n + 1)=n + 1:=by rw[Ot,hb];rfl
   rw[e]
   refine⟨d_ _,fun j hj=>?_⟩
   rcases M3 n j with h | h
   ·rw[show j=n + 1 by omega];exact ir _
   ·rw[JD]
    intro z
    have:=tr _ _ _ z hb
    rw[ih.2 j h]at this
    cases this
  | false=>
   have e:Ot bt (n + 1)=Ot bt n:=by rw[Ot,hb];rfl
   rw[e]
   refine⟨ME ih.1,fun j hj=>?_⟩
   rcases M3 n j with h | h
   ·rw[show j=n + 1 by omega];exact hb
   exact ih.2 j h
end ZM
namespace L2
open PySem PySem.Spec PyProof.Rows
section
variable{X:Cx}
theorem pQ:∀ {ns:List Int} {us:List Nf},Vals (ns.map V.int) us->ZM.IntsAre us ns:=by
 intro ns
 induction ns with
 | nil=>intro us h;cases h;exact trivial
 | cons n ns ih=>
  intro us h
  cases h with
  | cons r t=>exact⟨r,ih t⟩
end
end L2
namespace ZS
open PySem PyProof.Rows
def gal:Bool->Keyed->Array Keyed->Nat->Nat->Nat->StateT SortSt Sem (Option Nat):=sortPriv% PySem.Builtin.gallop
def mLo:Array Keyed->Array Keyed->StateT SortSt Sem (Array Keyed):=sortPriv% PySem.Builtin.mergeLo
def mHi:Array Keyed->Array Keyed->StateT SortSt Sem (Array Keyed):=sortPriv% PySem.Builtin.mergeHi
noncomputable def bey(lf:Bool)(ky:Nm)(ar:Array Nm)(b0 i:Nat):StateT Nu Sem (Option Bool):=do
 let xx <-N5 ar (b0 + i)
 if lf then lt' xx ky else return (<-lt' ky xx).map (!·)
noncomputable def f6(lf:Bool)(ky:Nm)(ar:Array Nm)(b0 n l0 h0:Nat):StateT Nu Sem (Option Nat):=do
 let mut l:=l0
 let mut h:=h0
 for _ in [0:n]do
  if l>=h then break
  let m:=l + (h - l) / 2
  let some mo <-bey lf ky ar b0 m | return none
  if mo then l:=m + 1 else h:=m
 return some h
noncomputable def CH(lf:Bool)(ky:Nm)(ar:Array Nm)(b0 n h0:Nat):StateT Nu Sem (Option Nat):=do
 let mut la:=0
 let mut of:=1
 for _ in [0:n]do
  if of>=n - h0 then break
  let some mo <-bey lf ky ar b0 (h0 + of) | return none
  if !mo then break
  la:=of
  of:=2 * of + 1
 f6 lf ky ar b0 n (h0 + la + 1) (h0 + min of (n - h0))
noncomputable def uO(lf:Bool)(ky:Nm)(ar:Array Nm)(b0 n h0:Nat):StateT Nu Sem (Option Nat):=do
 let mut la:=0
 let mut of:=1
 for _ in [0:n]do
  if of>=h0 + 1 then break
  let some fo <-bey lf ky ar b0 (h0 - of) | return none
  if fo then break
  la:=of
  of:=2 * of + 1
 f6 lf ky ar b0 n (h0 + 1 - min of (h0 + 1)) (h0 - la)
theorem Em(lf:Bool)(ky:Nm)(ar:Array Nm)(b0 n h0:Nat):gal lf ky ar b0 n h0=(do
 let some rt <-bey lf ky ar b0 h0 | return none
 if rt then CH lf ky ar b0 n h0 else uO lf ky ar b0 n h0):=rfl
section
variable{M:Po}{A:NH}{E:Nf->Ni->Prop}{s:Ni}
theorem FN{lf:Bool}{ky:Nm}{ar:Array Nm}{b0 n h0:Nat}{st:Nu}{Q:Option Nat->Nu->Prop}{bd:Nat->Bool}(hh:h0 < n)(hb:∀(i:Nat) (R:Option Bool->Nu->Prop),i < n->R (some (bd i)) st->wpS M A E s (bey lf ky ar b0 i) R st)
  (mono:∀ i j,i<=j->j < n->bd j=true->bd i=true) (h:∀ k,k<=n->(∀ i,i < k->bd i=true)->(∀ i,k<=i->i < n->bd i=false)->Q (some k) st):wpS M A E s (gal lf ky ar b0 n h0) Q st:=by
 rw[Em]
 have last:∀(l hi:Nat),l<=hi->hi<=n->(∀ i,i < l->bd i=true)->(∀ i,hi<=i->i < n->bd i=false)->wpS M A E s (f6 lf ky ar b0 n l hi) Q st:=fun l hi h1 h2 h3 h4=>by
  unfold f6
  dsimp only
  refine Nr (N4 (I:=fun x c st'=>st'=st/\∃ l hi,c=(none,l,hi)/\l<=hi/\hi<=n/\hi - l<=n - x/\(∀ i,i < l->bd i=true)/\(∀ i,hi<=i->i < n->bd i=false)) ?_ ?_ ⟨rfl,l,hi,rfl,h1,h2,by lia,h3,h4⟩)
  ·rintro x c st' _ hx ⟨rfl,l,hi,rfl,g1,g2,g3,g4,g5⟩
   dsimp only
   by_cases z:l>=hi
   ·rw[if_pos z]
    have e:l=hi:=by lia
    subst e
    exact Ny (Ny (h l g2 g4 g5))
   rw[if_neg z]
   have m1:l<=l + (hi - l) / 2:=LW ..
   have m2:l + (hi - l) / 2 < hi:=by omega
   generalize l + (hi - l) / 2=m at m1 m2 ⊢
   have m3:=x_ m2 g2
   refine Nr (hb _ _ m3 ?_)
   dsimp only
   cases e:bd m with
   | true=>
    simp only[if_true]
    exact Ny ⟨rfl,_,_,rfl,m2,g2,by lia,fun i hi'=>mono i _ (Lc hi') m3 e,g5⟩
   | false=>
    simp only[Ji,if_false]
    refine Ny ⟨rfl,_,_,rfl,m1,Jd m3,by lia,g4,fun i h1 h2=>?_⟩
    cases e2:bd i with
    | false=>rfl
    | true=>rw[mono _ i h1 h2 e2]at e;cases e
  rintro c st' ⟨rfl,l,hi,rfl,g1,g2,g3,g4,g5⟩
  have e:l=hi:=by lia
  subst e
  exact Ny (h l g2 g4 g5)
 have up:∀ la of,la < of->h0 + la < n->bd (h0 + la)=true->(n - h0<=of\/bd (h0 + of)=false)->wpS M A E s (f6 lf ky ar b0 n (h0 + la + 1) (h0 + min of (n - h0))) Q st:=fun la of g1 g3 g4 g5=>by
  have k1:h0 + min of (n - h0)<=n:=by lia
  refine last _ _ (by lia) k1 (fun i hi=>mono i _ (Lc hi) g3 g4) (fun i h1 h2=>?_)
  rcases g5 with g5 | g5
  ·rw[LX g5]at h1
   lia
  cases e2:bd i with
  | false=>rfl
  | true=>rw[mono (h0 + of) i (by lia) h2 e2]at g5;cases g5
 have dwn:∀ la of,la < of->la<=h0->bd (h0 - la)=false->(h0 + 1<=of\/of<=h0/\bd (h0 - of)=true)->wpS M A E s (f6 lf ky ar b0 n (h0 + 1 - min of (h0 + 1)) (h0 - la)) Q st:=fun la of g1 g3 g4 g5=>by
  refine last _ _ (by omega) (v_ (JV ..) (Jd hh)) (fun i hi=>?_) (fun i h1 h2=>?_)
  ·rcases g5 with g5 | ⟨g5,g6⟩
   ·rw[LX g5,K6]at hi
    exact absurd hi (Lm _)
   rw[Ma (ME g5)]at hi
   exact mono i _ (by lia) (Jq (JV ..) hh) g6
  cases e2:bd i with
  | false=>rfl
  | true=>rw[mono (h0 - la) i h1 h2 e2]at g4;cases g4
 refine Nr (hb _ _ hh ?_)
 dsimp only
 cases e0:bd h0 with
 | true=>
  simp only[if_true]
  unfold CH
  dsimp only
  refine Nr (N4 (I:=fun x c st'=>st'=st/\∃ la of,c=(none,la,of)/\la < of/\x + 1<=of/\h0 + la < n/\bd (h0 + la)=true) ?_ ?_ ⟨rfl,0,1,rfl,Kn,d_ _,hh,e0⟩)
  ·rintro x c st' _ hx ⟨rfl,la,of,rfl,g1,g2,g3,g4⟩
   dsimp only
   by_cases z:of>=n - h0
   ·rw[if_pos z]
    exact Ny (up la of g1 g3 g4 (.inl z))
   rw[if_neg z]
   refine Nr (hb _ _ (by lia) ?_)
   dsimp only
   cases e:bd (h0 + of)with
   | false=>
    simp only[Mi,if_true]
    exact Ny (up la of g1 g3 g4 (.inr e))
   | true=>
    simp only[Mr,Ji,if_false]
    exact Ny ⟨rfl,_,_,rfl,by lia,by lia,by lia,e⟩
  ·rintro c st' ⟨rfl,la,of,rfl,g1,g2,g3,g4⟩
   exact up la of g1 g3 g4 (.inl (by lia))
 | false=>
  simp only[Ji,if_false]
  unfold uO
  dsimp only
  refine Nr (N4 (I:=fun x c st'=>st'=st/\∃ la of,c=(none,la,of)/\la < of/\x + 1<=of/\la<=h0/\bd (h0 - la)=false) ?_ ?_ ⟨rfl,0,1,rfl,Kn,d_ _,G_ _,e0⟩)
  ·rintro x c st' _ hx ⟨rfl,la,of,rfl,g1,g2,g3,g4⟩
   dsimp only
   by_cases z:of>=h0 + 1
   ·rw[if_pos z]
    exact Ny (dwn la of g1 g3 g4 (.inl z))
   rw[if_neg z]
   have z:=Nat.lt_succ_iff.mp (LY z)
   refine Nr (hb _ _ (Jq (JV ..) hh) ?_)
   dsimp only
   cases e:bd (h0 - of)with
   | true=>
    simp only[if_true]
    exact Ny (dwn la of g1 g3 g4 (.inr ⟨z,e⟩))
   | false=>
    simp only[Ji,if_false]
    exact Ny ⟨rfl,_,_,rfl,by lia,by lia,z,e⟩
  rintro c st' ⟨rfl,la,of,rfl,g1,g2,g3,g4⟩
  exact dwn la of g1 g3 g4 (.inl (by lia))
end
def setG(g:Nat):StateT Nu Sem Unit:=modify fun s=>O2 (kindOf s) (Nn s) (ND s) g (N6 s)
def dn(a b out:Array Nm)(i j:Nat):Array Nm:=out++a.extract i a.size++b.extract j b.size
def fJ(a b out:Array Nm)(i j:Nat):Array Nm:=out++b.extract j b.size++a.extract i a.size
theorem E1(a b:Array Nm):mLo a b=(do
 rule "list.sort.merge-lo"
 let mut out:Array Nm:=#[<-N5 b 0]
 let mut i:=0
 let mut j:=1
 if j == b.size then return dn a b out i j
 if i + 1 == a.size then return fJ a b out i j
 let mut mg:=Q8 (<-get)
 for _ in [0:a.size + b.size]do
  let mut ca:=0
  let mut cb:=0
  for _ in [0:a.size + b.size]do
   let some bw <-lt' (<-N5 b j) (<-N5 a i) | return dn a b out i j
   if bw then
    out:=out.push (<-N5 b j);j:=j + 1;cb:=cb + 1;ca:=0
    if j == b.size then return dn a b out i j
    if cb>=mg then break
   else
    out:=out.push (<-N5 a i);i:=i + 1;ca:=ca + 1;cb:=0
    if i + 1 == a.size then return fJ a b out i j
    if ca>=mg then break
  rule "list.sort.gallop"
  mg:=mg + 1
  for _ in [0:a.size + b.size]do
   if mg > 1 then mg:=mg - 1
   setG mg
   let some k <-gal false (<-N5 b j) a i (a.size - i) 0 | return dn a b out i j
   ca:=k
   if k > 0 then
    out:=out++a.extract i (i + k);i:=i + k
    if i + 1 == a.size then return fJ a b out i j
    if i == a.size then return dn a b out i j
   out:=out.push (<-N5 b j);j:=j + 1
   if j == b.size then return dn a b out i j
   let some k <-gal true (<-N5 a i) b j (b.size - j) 0 | return dn a b out i j
   cb:=k
   if k > 0 then
    out:=out++b.extract j (j + k);j:=j + k
    if j == b.size then return dn a b out i j
   out:=out.push (<-N5 a i);i:=i + 1
   if i + 1 == a.size then return fJ a b out i j
   if ca < 7 && cb < 7 then break
  mg:=mg + 1
  setG mg
 unsupported "internal:list.sort.merge-bound"):=rfl
abbrev GS:=Option (Array Nm) × Array Nm × Nat × Nat × Nat × Nat × Nat
abbrev FS:=Option (Array Nm) × Array Nm × Nat × Nat × Nat × Nat
abbrev OS:=Option (Array Nm) × Array Nm × Nat × Nat × Nat
noncomputable def g3(a b out:Array Nm)(i j mg ca cb:Nat):StateT Nu Sem (ForInStep GS):=do
 let y <-N5 a i
 if(i + 1 + 1 == a.size)=true then pure (Nw (some (fJ a b (out.push y) (i + 1) j),out.push y,i + 1,j,mg,ca,cb))
 else if(decide (ca < 7) && decide (cb < 7))=true then pure (Nw (none,out.push y,i + 1,j,mg,ca,cb))
 else pure (NG (none,out.push y,i + 1,j,mg,ca,cb))
noncomputable def g2(a b out:Array Nm)(i j mg ca cb:Nat):StateT Nu Sem (ForInStep GS):=do
 let y <-N5 b j
 if(j + 1 == b.size)=true then pure (Nw (some (dn a b (out.push y) i (j + 1)),out.push y,i,j + 1,mg,ca,cb))
 else do
  let z <-N5 a i
  let some k <-gal true z b (j + 1) (b.size - (j + 1)) 0 | pure (Nw (some (dn a b (out.push y) i (j + 1)),out.push y,i,j + 1,mg,ca,cb))
  if k > 0 then
    if(j + 1 + k == b.size)=true then pure (Nw (some (dn a b (out.push y++b.extract (j + 1) (j + 1 + k)) i (j + 1 + k)),out.push y++b.extract (j + 1) (j + 1 + k),i,j + 1 + k,mg,ca,k))
    else g3 a b (out.push y++b.extract (j + 1) (j + 1 + k)) i (j + 1 + k) mg ca k
  else g3 a b (out.push y) i (j + 1) mg ca k
noncomputable def g1(a b out:Array Nm)(i j mg ca cb:Nat):StateT Nu Sem (ForInStep GS):=do
 setG mg
 let y <-N5 b j
 let some k <-gal false y a i (a.size - i) 0 | pure (Nw (some (dn a b out i j),out,i,j,mg,ca,cb))
 if k > 0 then
   if(i + k + 1 == a.size)=true then pure (Nw (some (fJ a b (out++a.extract i (i + k)) (i + k) j),out++a.extract i (i + k),i + k,j,mg,k,cb))
   else if(i + k == a.size)=true then pure (Nw (some (dn a b (out++a.extract i (i + k)) (i + k) j),out++a.extract i (i + k),i + k,j,mg,k,cb))
   else g2 a b (out++a.extract i (i + k)) (i + k) j mg k cb
 else g2 a b out i j mg k cb
noncomputable def f1(a b out:Array Nm)(i j ca cb mg:Nat):StateT Nu Sem (ForInStep FS):=do
 let y <-N5 b j
 let z <-N5 a i
 let some bw <-lt' y z | pure (Nw (some (dn a b out i j),out,i,j,ca,cb))
 if bw=true then do
   let y <-N5 b j
   if(j + 1 == b.size)=true then pure (Nw (some (dn a b (out.push y) i (j + 1)),out.push y,i,j + 1,0,cb + 1))
   else if cb + 1>=mg then pure (Nw (none,out.push y,i,j + 1,0,cb + 1))else pure (NG (none,out.push y,i,j + 1,0,cb + 1))
 else do
   let z <-N5 a i
   if(i + 1 + 1 == a.size)=true then pure (Nw (some (fJ a b (out.push z) (i + 1) j),out.push z,i + 1,j,ca + 1,0))
   else if ca + 1>=mg then pure (Nw (none,out.push z,i + 1,j,ca + 1,0))else pure (NG (none,out.push z,i + 1,j,ca + 1,0))
noncomputable def oLo(a b:Array Nm)(c:OS):StateT Nu Sem (ForInStep OS):=do
 let r <-forIn [0:a.size + b.size] ((none,c.2.1,c.2.2.1,c.2.2.2.1,0,0):FS) fun _ d=>f1 a b d.2.1 d.2.2.1 d.2.2.2.1 d.2.2.2.2.1 d.2.2.2.2.2 c.2.2.2.2
 match r.1 with
 | some q=>pure (Nw (some q,r.2.1,r.2.2.1,r.2.2.2.1,c.2.2.2.2))
 | none=>do
  liftM (rule "list.sort.gallop")
  let e <-forIn [0:a.size + b.size] ((none,r.2.1,r.2.2.1,r.2.2.2.1,c.2.2.2.2 + 1,r.2.2.2.2.1,r.2.2.2.2.2):GS) fun _ d=>
   if d.2.2.2.2.1 > 1 then g1 a b d.2.1 d.2.2.1 d.2.2.2.1 (d.2.2.2.2.1 - 1) d.2.2.2.2.2.1 d.2.2.2.2.2.2 else g1 a b d.2.1 d.2.2.1 d.2.2.2.1 d.2.2.2.2.1 d.2.2.2.2.2.1 d.2.2.2.2.2.2
  match e.1 with
  | some q=>pure (Nw (some q,e.2.1,e.2.2.1,e.2.2.2.1,e.2.2.2.2.1))
  | none=>do
   setG (e.2.2.2.2.1 + 1)
   pure (NG (none,e.2.1,e.2.2.1,e.2.2.2.1,e.2.2.2.2.1 + 1))
set_option maxHeartbeats 2000000 in
theorem BD(a b:Array Nm):mLo a b=(do
  liftM (rule "list.sort.merge-lo")
  let y <-N5 b 0
  if(1 == b.size)=true then pure (dn a b #[y] 0 1)
  else if(0 + 1 == a.size)=true then pure (fJ a b #[y] 0 1)
  else do
   let st <-get
   let r <-forIn [0:a.size + b.size] ((none,#[y],0,1,Q8 st):OS) fun _ c=>oLo a b c
   match r.1 with
   | some q=>pure q
   | none=>liftM (unsupported "internal:list.sort.merge-bound":Sem (Array Nm))):=by
 rw[E1]
 unfold oLo
 refine congrArg (bind _) (funext fun _=>?_)
 refine congrArg (bind _) (funext fun y=>?_)
 refine ite_congr rfl (fun _=>rfl) (fun _=>?_)
 refine ite_congr rfl (fun _=>rfl) (fun _=>?_)
 refine congrArg (bind _) (funext fun st=>?_)
 refine congr (congrArg bind (congrArg (forIn _ _) (funext fun _=>funext fun c=>?_))) ?_
 ·refine congr (congrArg bind (congrArg (forIn _ _) (funext fun _=>funext fun d=>?_))) ?_
  ·unfold f1
   rfl
  funext r
  obtain⟨r1,r2⟩:=r
  cases r1 with
  | some q=>rfl
  | none=>
   refine congrArg (bind _) (funext fun _=>?_)
   refine congr (congrArg bind (congrArg (forIn _ _) (funext fun _=>funext fun d=>?_))) ?_
   ·
    unfold g1
    refine ite_congr rfl (fun _=>?_) (fun _=>?_)
    all_goals
     refine congrArg (bind _) (funext fun _=>?_)
     refine congrArg (bind _) (funext fun y=>?_)
     refine congrArg (bind _) (funext fun r=>?_)
     cases r with
     | none=>rfl
     | some k=>
      refine ite_congr rfl (fun _=>?_) (fun _=>?_)
      ·refine ite_congr rfl (fun _=>rfl) (fun _=>?_)
       refine ite_congr rfl (fun _=>rfl) (fun _=>?_)
       unfold g2
       rfl
      unfold g2
      rfl
   funext e;obtain⟨e1,e2⟩:=e;cases e1 <;> rfl
 funext e;obtain⟨e1,e2⟩:=e;cases e1 <;> rfl
noncomputable def bU(M:Po)(A:NH)(E:Nf->Ni->Prop)(s:Ni)(kd:OC)(rk:Nm->Nat)(S:Nm->Prop):Prop:=
 ∀(x y:Nm) (st:Nu) (Q:Option Bool->Nu->Prop),S x->S y->kindOf st=kd->Q (some (decide (rk x < rk y))) st->wpS M A E s (lt' x y) Q st
structure Keep (st st':Nu):Prop where
 k:kindOf st'=kindOf st
 a:Nn st'=Nn st
 p:ND st'=ND st
 f:N6 st'=N6 st
theorem Keep.bz {st:Nu}:Keep st st:=⟨rfl,rfl,rfl,rfl⟩
theorem Keep.g {st st':Nu}(h:Keep st st')(g:Nat):Keep st (O2 (kindOf st') (Nn st') (ND st') g (N6 st')):=⟨h.k,h.a,h.p,h.f⟩
section
variable{rk:Nm->Nat}
abbrev Srt(rk:Nm->Nat)(l:List Nm):Prop:=l.Pairwise fun x y=>rk x<=rk y
structure MS (rk:Nm->Nat) (a b out:List Nm) (i j:Nat):Prop where
 perm:out.Perm (a.take i++b.take j)
 srt:Srt rk out
 le:∀ x∈out,(∀ y∈a.drop i,rk x<=rk y)/\∀ y∈b.drop j,rk x<=rk y
def Res(rk:Nm->Nat)(a b r:List Nm):Prop:=r.Perm (a++b)/\Srt rk r
theorem MS.ox {a b out:List Nm}{i j k:Nat}(h:MS rk a b out i j)(sa:Srt rk a)(hc:∀ y∈(a.drop i).take k,∀ z∈b.drop j,rk y<=rk z):MS rk a b (out++(a.drop i).take k) (i + k) j:=by
 have sd:Srt rk (a.drop i):=Jr (Ku _ _) sa
 have split:a.drop i=(a.drop i).take k++a.drop (i + k):=by rw[<-K_];exact(Ja k (a.drop i)).symm
 refine⟨?_,?_,fun x hx=>?_⟩
 ·rw[LK]
  refine(h.perm.append_right _).trans ?_
  rw[j_,j_]
  exact Js _ JR
 ·refine F_.mpr ⟨h.srt,Jr (Ks _ _) sd,fun x hx y hy=>(h.le x hx).1 y (JJ hy)⟩
 rcases F'.mp hx with hx | hx
 ·refine⟨fun y hy=>(h.le x hx).1 y ?_,(h.le x hx).2⟩
  rw[split]
  exact s_ _ hy
 refine⟨fun y hy=>?_,hc x hx⟩
 rw[split]at sd
 exact(F_.mp sd).2.2 x hx y hy
theorem MS.pJ {a b out:List Nm}{i j k:Nat}(h:MS rk a b out i j)(sb:Srt rk b)(hc:∀ y∈(b.drop j).take k,∀ z∈a.drop i,rk y<=rk z):MS rk a b (out++(b.drop j).take k) i (j + k):=by
 have sd:Srt rk (b.drop j):=Jr (Ku _ _) sb
 have split:b.drop j=(b.drop j).take k++b.drop (j + k):=by rw[<-K_];exact(Ja k (b.drop j)).symm
 refine⟨?_,?_,fun x hx=>?_⟩
 ·rw[LK,<-j_]
  exact h.perm.append_right _
 ·refine F_.mpr ⟨h.srt,Jr (Ks _ _) sd,fun x hx y hy=>(h.le x hx).2 y (JJ hy)⟩
 rcases F'.mp hx with hx | hx
 ·refine⟨(h.le x hx).1,fun y hy=>(h.le x hx).2 y ?_⟩
  rw[split]
  exact s_ _ hy
 refine⟨hc x hx,fun y hy=>?_⟩
 rw[split]at sd
 exact(F_.mp sd).2.2 x hx y hy
theorem MS.all {a b out:List Nm}{i j:Nat}(h:MS rk a b out i j)(h1:a.length<=i)(h2:b.length<=j):Res rk a b out:=by
 have:=h.perm
 rw[Jx h1,Jx h2]at this
 exact⟨this,h.srt⟩
theorem gW{l:List Nm}(i:Nat):(l.drop i).take l.length=l.drop i:=Jx (by rw[Jl];lia)
theorem MS.done {a b out:List Nm}{i j:Nat}(h:MS rk a b out i j)(sa:Srt rk a)(sb:Srt rk b)(e:a.length<=i\/b.length<=j):Res rk a b (out++a.drop i++b.drop j):=by
 have h1:=h.ox (k:=a.length) sa fun y hy z hz=>by
  rcases e with e | e
  ·rw[JL e]at hy;simp at hy
  rw[JL e]at hz;simp at hz
 have h2:=h1.pJ (k:=b.length) sb fun y hy z hz=>by
  rw[JL (by lia)]at hz;simp at hz
 rw[gW,gW]at h2
 exact h2.all (by lia) (by lia)
theorem MS.last {a b out:List Nm}{i j:Nat}(h:MS rk a b out i j)(sa:Srt rk a)(sb:Srt rk b)(e:∀ y∈b.drop j,∀ z∈a.drop i,rk y<=rk z):Res rk a b (out++b.drop j++a.drop i):=by
 have h1:=h.pJ (k:=b.length) sb fun y hy z hz=>e y (JJ hy) z hz
 have h2:=h1.ox (k:=a.length) sa fun y hy z hz=>by
  rw[JL (by lia)]at hz;simp at hz
 rw[gW,gW]at h2
 exact h2.all (by lia) (by lia)
theorem kg(a:Array Nm)(i:Nat):(a.extract i a.size).toList=a.toList.drop i:=by
 rw[KH,J_]
 exact Jx (by rw[Jl,f'];exact d_ _)
theorem hU(a:Array Nm)(i k:Nat):(a.extract i (i + k)).toList=(a.toList.drop i).take k:=by
 rw[KH,J_,K']
theorem drop_one{l:List Nm}{i:Nat}{y:Nm}(h:l[i]?=some y):(l.drop i).take 1=[y]:=by
 obtain⟨hl,e⟩:=c_.mp h
 rw[KY hl,List.take_succ_cons,List.take_zero,e]
theorem sr{l:List Nm}{i:Nat}{y:Nm}(h:l[i]?=some y)(s:Srt rk l):∀ z∈l.drop i,rk y<=rk z:=by
 obtain⟨hl,e⟩:=c_.mp h
 intro z hz
 have sd:Srt rk (l.drop i):=Jr (Ku _ _) s
 rw[KY hl,e]at sd hz
 rcases m_.mp hz with rfl | hz
 ·exact d_ _
 exact(Jw.mp sd).1 z hz
theorem lG{l:List Nm}(s:Srt rk l){i j:Nat}{x y:Nm}(hij:i<=j)(hx:l[i]?=some x)(hy:l[j]?=some y):rk x<=rk y:=by
 refine sr hx s y ?_
 rw[Jt]
 exact⟨j - i,by rw[Kj,show i + (j - i)=j by lia];exact hy⟩
theorem cg{l:List Nm}{i k:Nat}{y:Nm}(h:y∈(l.drop i).take k):∃ j,j < k/\l[i + j]?=some y:=by
 obtain⟨j,hj⟩:=Jt.mp h
 rw[Kk]at hj
 split at hj
 ·next hlt=>exact⟨j,hlt,by rw[Kj]at hj;exact hj⟩
 cases hj
theorem fC{l:List Nm}{i:Nat}{y:Nm}(h:y∈l.drop i):∃ j,l[i + j]?=some y:=by
 obtain⟨j,hj⟩:=Jt.mp h
 exact⟨j,by rw[Kj]at hj;exact hj⟩
end
section
variable{M:Po}{A:NH}{E:Nf->Ni->Prop}{s:Ni}{kd:OC}{rk:Nm->Nat}{S:Nm->Prop}
theorem aJ{ar:Array Nm}{i:Nat}{p:Nm}{st:Nu}{Q:Nm->Nu->Prop}(h:ar[i]?=some p)(q:Q p st):wpS M A E s (N5 ar i) Q st:=by
 rw[elem'_eq,h]
 exact Ny q
theorem FR{lf:Bool}{ky p:Nm}{ar:Array Nm}{b0 i:Nat}{st:Nu}{Q:Option Bool->Nu->Prop}(L:bU M A E s kd rk S)(hk:kindOf st=kd)(hp:ar[b0 + i]?=some p)(Sp:S p)(Sk:S ky)
  (q:Q (some (if lf=true then decide (rk p < rk ky)else !decide (rk ky < rk p))) st):wpS M A E s (bey lf ky ar b0 i) Q st:=by
 unfold bey
 refine Nr (aJ hp ?_)
 cases lf with
 | true=>exact L p ky st _ Sp Sk hk q
 | false=>exact Nr (L ky p st _ Sk Sp hk (Ny q))
theorem fB{lf:Bool}{ky:Nm}{ar:Array Nm}{b0 n h0:Nat}{st:Nu}{Q:Option Nat->Nu->Prop}(L:bU M A E s kd rk S)(hk:kindOf st=kd)(hh:h0 < n)(hsz:b0 + n<=ar.size)(Sa:∀(i:Nat) p,ar[i]?=some p->S p)(Sk:S ky)
  (srt:∀(i j:Nat) p q,i<=j->j < n->ar[b0 + i]?=some p->ar[b0 + j]?=some q->rk p<=rk q)
  (h:∀ k,k<=n->(∀(i:Nat) p,i < k->ar[b0 + i]?=some p->if lf=true then rk p < rk ky else rk p<=rk ky)->(∀(i:Nat) p,k<=i->i < n->ar[b0 + i]?=some p->if lf=true then rk ky<=rk p else rk ky < rk p)->Q (some k) st) :
  wpS M A E s (gal lf ky ar b0 n h0) Q st:=by
 have get:∀ i,i < n->ar[b0 + i]?=some (ar.getD (b0 + i) (NR,NR)):=fun i hi=>by
  rw[J7,gV (by lia)]
  rfl
 refine FN (bd:=fun i=>if lf=true then decide (rk (ar.getD (b0 + i) (NR,NR)) < rk ky)else !decide (rk ky < rk (ar.getD (b0 + i) (NR,NR)))) hh (fun i R hi r=>FR L hk (get i hi) (Sa _ _ (get i hi)) Sk r) ?_ ?_
 ·intro i j hij hj hb
  have:=srt i j _ _ hij hj (get i (by lia)) (get j hj)
  cases lf with
  | true=>
   simp only[if_true,decide_eq_true_eq]at hb ⊢
   lia
  | false=>
   simp only[Ji,if_false,LP,decide_eq_false_iff_not]at hb ⊢
   lia
 intro k hk' h1 h2
 refine h k hk' (fun i p hi hp=>?_) (fun i p h3 h4 hp=>?_)
 ·have e:=get i (by lia)
  rw[hp]at e
  cases e
  have:=h1 i hi
  cases lf with
  | true=>simpa using this
  | false=>simpa using this
 have e:=get i h4
 rw[hp]at e
 cases e
 have:=h2 i h3 h4
 cases lf with
 | true=>simpa using this
 | false=>simpa using this
theorem kj{g:Nat}{st:Nu}{Q:Unit->Nu->Prop}(q:Q () (O2 (kindOf st) (Nn st) (ND st) g (N6 st))):wpS M A E s (setG g) Q st:=Qu q
end
section
variable{M:Po}{A:NH}{E:Nf->Ni->Prop}{s:Ni}{kd:OC}{rk:Nm->Nat}{S:Nm->Prop}{a b:Array Nm}
structure LoOk (rk:Nm->Nat) (S:Nm->Prop) (a b:Array Nm):Prop where
 sa:Srt rk a.toList
 sb:Srt rk b.toList
 Sa:∀(i:Nat) p,a[i]?=some p->S p
 Sb:∀(i:Nat) p,b[i]?=some p->S p
 pa:0 < a.size
 pb:0 < b.size
 first:∀ p,b[0]?=some p->∀ z∈a.toList,rk p<=rk z
 last:∀ p,a[a.size - 1]?=some p->∀ z∈b.toList,rk z<=rk p
theorem LoOk.kq (h:LoOk rk S a b){out:Array Nm}{i j:Nat}(m:MS rk a.toList b.toList out.toList i j)(e:i + 1=a.size):Res rk a.toList b.toList (fJ a b out i j).toList:=by
 unfold fJ
 rw[Jk,Jk,kg,kg]
 refine m.last h.sa h.sb fun y hy z hz=>?_
 obtain⟨k,hk⟩:=fC hz
 have hk':i + k < a.toList.length:=(c_.mp hk).1
 rw[f']at hk'
 have k0:k=0:=by lia
 subst k0
 refine h.last z ?_ y (KG hy)
 rw[<-e_,show a.size - 1=i + 0 by lia]
 exact hk
theorem LoOk.iJ (h:LoOk rk S a b){out:Array Nm}{i j:Nat}(m:MS rk a.toList b.toList out.toList i j)(e:a.size<=i\/b.size<=j):Res rk a.toList b.toList (dn a b out i j).toList:=by
 unfold dn
 rw[Jk,Jk,kg,kg]
 exact m.done h.sa h.sb (by rw[f',f'];exact e)
structure LI (rk:Nm->Nat) (a b out:Array Nm) (i j:Nat):Prop where
 m:MS rk a.toList b.toList out.toList i j
 i:i + 1 < a.size
 j:j < b.size
theorem MS.jF {out:Array Nm}{i j:Nat}(m:MS rk a.toList b.toList out.toList i j)(H:LoOk rk S a b){y:Nm}(hy:b[j]?=some y)(hc:∀ z∈a.toList.drop i,rk y<=rk z):MS rk a.toList b.toList (out.push y).toList i (j + 1):=by
 have hy':b.toList[j]?=some y:=by rw[e_];exact hy
 have:=m.pJ (k:=1) H.sb (by rw[drop_one hy'];intro w hw;rw[w_.mp hw];exact hc)
 rw[drop_one hy']at this
 rw[JX]
 exact this
theorem MS.jt {out:Array Nm}{i j:Nat}(m:MS rk a.toList b.toList out.toList i j)(H:LoOk rk S a b){y:Nm}(hy:a[i]?=some y)(hc:∀ z∈b.toList.drop j,rk y<=rk z):MS rk a.toList b.toList (out.push y).toList (i + 1) j:=by
 have hy':a.toList[i]?=some y:=by rw[e_];exact hy
 have:=m.ox (k:=1) H.sa (by rw[drop_one hy'];intro w hw;rw[w_.mp hw];exact hc)
 rw[drop_one hy']at this
 rw[JX]
 exact this
theorem iq{l:Array Nm}{i:Nat}{y:Nm}(srt:Srt rk l.toList)(hy:l[i]?=some y):∀ z∈l.toList.drop i,rk y<=rk z:=sr (by rw[e_];exact hy) srt
noncomputable def dG(rk:Nm->Nat)(a b:Array Nm)(lo:Nat)(st:Nu)(r:Option (Array Nm))(out:Array Nm)(i j:Nat)(st':Nu):Prop:=
 Keep st st'/\match r with
 | some q=>Res rk a.toList b.toList q.toList
 | none=>LI rk a b out i j/\lo < i + j
theorem HV{out:Array Nm}{i j ca cb mg:Nat}{st st':Nu}{Q:ForInStep FS->Nu->Prop}(L:bU M A E s kd rk S)(H:LoOk rk S a b)(hk:kindOf st=kd)(K:Keep st st')(I:LI rk a b out i j)
  (h:∀(d:Bool) (c:FS),dG rk a b (i + j) st c.1 c.2.1 c.2.2.1 c.2.2.2.1 st'->(d=false->c.1=none)->Q (if d=true then Nw c else NG c) st'):wpS M A E s (f1 a b out i j ca cb mg) Q st':=by
 have hi:i < a.size:=by have:=I.i;lia
 obtain⟨y,hy⟩:∃ y,b[j]?=some y:=⟨_,gV I.j⟩
 obtain⟨z,hz⟩:∃ z,a[i]?=some z:=⟨_,gV hi⟩
 unfold f1
 refine Nr (aJ hy (Nr (aJ hz (Nr (L y z st' _ (H.Sb _ _ hy) (H.Sa _ _ hz) (K.k.trans hk) ?_)))))
 dsimp only
 by_cases w:rk y < rk z
 ·rw[decide_eq_true w,if_pos rfl]
  have m:=I.m.jF H hy fun u hu=>v_ (Jd w) (iq H.sa hz u hu)
  refine Nr (aJ hy ?_)
  by_cases e:j + 1=b.size
  ·rw[if_pos (by rw[e];exact beq_self_eq_true _)]
   exact Ny (h true _ ⟨K,H.iJ m (.inr (by lia))⟩ (fun z=>nomatch z))
  rw[if_neg (by simpa using e)]
  have I2:LI rk a b (out.push y) i (j + 1):=⟨m,I.i,by have:=I.j;lia⟩
  split
  ·exact Ny (h true _ ⟨K,I2,by dsimp only;lia⟩ (fun z=>nomatch z))
  exact Ny (h false _ ⟨K,I2,by dsimp only;lia⟩ (fun _=>rfl))
 rw[decide_eq_false w,if_neg (by simp)]
 have m:=I.m.jt H hz fun u hu=>v_ (by lia) (iq H.sb hy u hu)
 refine Nr (aJ hz ?_)
 by_cases e:i + 1 + 1=a.size
 ·rw[if_pos (by rw[e];exact beq_self_eq_true _)]
  exact Ny (h true _ ⟨K,H.kq m e⟩ (fun z=>nomatch z))
 rw[if_neg (by simpa using e)]
 have I2:LI rk a b (out.push z) (i + 1) j:=⟨m,by have:=I.i;lia,I.j⟩
 split
 ·exact Ny (h true _ ⟨K,I2,by dsimp only;lia⟩ (fun z=>nomatch z))
 exact Ny (h false _ ⟨K,I2,by dsimp only;lia⟩ (fun _=>rfl))
theorem Cy{out:Array Nm}{i j mg ca cb lo:Nat}{st st':Nu}{Q:ForInStep GS->Nu->Prop}(H:LoOk rk S a b)(K:Keep st st')(I:LI rk a b out i j)(hc:∀ z,a[i]?=some z->∀ u∈b.toList.drop j,rk z<=rk u)(hl:lo<=i + j)
  (h:∀(d:Bool) (c:GS),dG rk a b lo st c.1 c.2.1 c.2.2.1 c.2.2.2.1 st'->(d=false->c.1=none)->Q (if d=true then Nw c else NG c) st'):wpS M A E s (g3 a b out i j mg ca cb) Q st':=by
 have hi:i < a.size:=by have:=I.i;lia
 obtain⟨z,hz⟩:∃ z,a[i]?=some z:=⟨_,gV hi⟩
 unfold g3
 have m:=I.m.jt H hz (hc z hz)
 refine Nr (aJ hz ?_)
 by_cases e:i + 1 + 1=a.size
 ·rw[if_pos (by rw[e];exact beq_self_eq_true _)]
  exact Ny (h true _ ⟨K,H.kq m e⟩ (fun z=>nomatch z))
 rw[if_neg (by simpa using e)]
 have I2:LI rk a b (out.push z) (i + 1) j:=⟨m,by have:=I.i;lia,I.j⟩
 split
 ·exact Ny (h true _ ⟨K,I2,by dsimp only;lia⟩ (fun z=>nomatch z))
 exact Ny (h false _ ⟨K,I2,by dsimp only;lia⟩ (fun _=>rfl))
theorem CI{out:Array Nm}{i j mg ca cb lo:Nat}{st st':Nu}{Q:ForInStep GS->Nu->Prop}(L:bU M A E s kd rk S)(H:LoOk rk S a b)(hk:kindOf st=kd)(K:Keep st st')(I:LI rk a b out i j)(hc:∀ y,b[j]?=some y->∀ u∈a.toList.drop i,rk y<=rk u)(hl:lo<=i + j)
  (h:∀(d:Bool) (c:GS),dG rk a b lo st c.1 c.2.1 c.2.2.1 c.2.2.2.1 st'->(d=false->c.1=none)->Q (if d=true then Nw c else NG c) st'):wpS M A E s (g2 a b out i j mg ca cb) Q st':=by
 have hi:i < a.size:=by have:=I.i;lia
 obtain⟨y,hy⟩:∃ y,b[j]?=some y:=⟨_,gV I.j⟩
 obtain⟨z,hz⟩:∃ z,a[i]?=some z:=⟨_,gV hi⟩
 unfold g2
 have m:=I.m.jF H hy (hc y hy)
 refine Nr (aJ hy ?_)
 by_cases e:j + 1=b.size
 ·rw[if_pos (by rw[e];exact beq_self_eq_true _)]
  exact Ny (h true _ ⟨K,H.iJ m (.inr (by lia))⟩ (fun z=>nomatch z))
 rw[if_neg (by simpa using e)]
 have hj:j + 1 < b.size:=by have:=I.j;lia
 refine Nr (aJ hz (Nr (fB L (K.k.trans hk) (by lia) (by lia) H.Sb (H.Sa _ _ hz) (fun p q x w h1 h2 h3 h4=>lG H.sb (i:=j + 1 + p) (j:=j + 1 + q) (by(clear h4 h3 h2 hj e m hz hy hi h hl hc I K hk H L;lia)) (by rw[e_];exact h3) (by rw[e_];exact h4)) fun k k1 k2 k3=>?_)))
 dsimp only
 have after:∀ u∈b.toList.drop (j + 1 + k),rk z<=rk u:=fun u hu=>by
  obtain⟨p,hp⟩:=fC hu
  rw[e_]at hp
  have hlt:j + 1 + k + p < b.size:=(KO.mp hp).1
  have:=k3 (k + p) u (by lia) (by(clear hp hu k3 k2 k1 hj e m hz hy hi h hl hc I K hk H L;lia)) (by rw[show j + 1 + (k + p)=j + 1 + k + p by(clear hlt hp hu k3 k2 k1 hj e m hz hy hi h hl hc I K hk H L;lia)];exact hp)
  simpa using this
 by_cases pk:k > 0
 ·rw[if_pos pk]
  have m2:MS rk a.toList b.toList (out.push y++b.extract (j + 1) (j + 1 + k)).toList i (j + 1 + k):=by
   rw[Jk,hU]
   refine m.pJ H.sb fun u hu w hw=>?_
   obtain⟨p,hp1,hp⟩:=cg hu
   rw[e_]at hp
   have:=k2 p u hp1 hp
   simp only[if_true]at this
   exact v_ (Jd this) (iq H.sa hz w hw)
  by_cases e2:j + 1 + k=b.size
  ·rw[if_pos (by rw[e2];exact beq_self_eq_true _)]
   exact Ny (h true _ ⟨K,H.iJ m2 (.inr (by(clear m2 pk after k3 k2 k1 hj e m hz hy hi h hl hc I K hk H L;lia)))⟩ (fun z=>nomatch z))
  rw[if_neg (by simpa using e2)]
  refine Cy H K ⟨m2,I.i,by(clear m2 after k3 k2 hj e m hz hy hi h hl hc I K hk H L;lia)⟩ (fun z' hz'=>?_) (by(clear e2 m2 pk after k3 k2 k1 hj e m hz hy hi h hc I K hk H L;lia)) h
  rw[hz]at hz'
  cases hz'
  exact after
 rw[if_neg pk]
 have k0:k=0:=by lia
 subst k0
 refine Cy H K ⟨m,I.i,by(clear pk after k3 k2 k1 e m hz hy hi h hl hc I K hk H L;omega)⟩ (fun z' hz'=>?_) (by lia) h
 rw[hz]at hz'
 cases hz'
 exact after
theorem HU{out:Array Nm}{i j mg ca cb:Nat}{st st':Nu}{Q:ForInStep GS->Nu->Prop}(L:bU M A E s kd rk S)(H:LoOk rk S a b)(hk:kindOf st=kd)(K:Keep st st')(I:LI rk a b out i j)
  (h:∀(d:Bool) (c:GS) (st2:Nu),dG rk a b (i + j) st c.1 c.2.1 c.2.2.1 c.2.2.2.1 st2->(d=false->c.1=none)->Q (if d=true then Nw c else NG c) st2):wpS M A E s (g1 a b out i j mg ca cb) Q st':=by
 have hi:i < a.size:=by have:=I.i;lia
 obtain⟨y,hy⟩:∃ y,b[j]?=some y:=⟨_,gV I.j⟩
 unfold g1
 refine Nr (kj (Nr (aJ hy ?_)))
 have K2:=K.g mg
 revert K2
 generalize O2 (kindOf st') (Nn st') (ND st') mg (N6 st')=st2
 intro K2
 refine Nr (fB L (K2.k.trans hk) (by lia) (by lia) H.Sa (H.Sb _ _ hy) (fun p q x w h1 h2 h3 h4=>lG H.sa (i:=i + p) (j:=i + q) (by lia) (by rw[e_];exact h3) (by rw[e_];exact h4)) fun k k1 k2 k3=>?_)
 dsimp only
 have after:∀ u∈a.toList.drop (i + k),rk y<=rk u:=fun u hu=>by
  obtain⟨p,hp⟩:=fC hu
  rw[e_]at hp
  have hlt:i + k + p < a.size:=(KO.mp hp).1
  have:=k3 (k + p) u (by lia) (by lia) (by rw[show i + (k + p)=i + k + p by lia];exact hp)
  simp at this
  lia
 by_cases pk:k > 0
 ·rw[if_pos pk]
  have m2:MS rk a.toList b.toList (out++a.extract i (i + k)).toList (i + k) j:=by
   rw[Jk,hU]
   refine I.m.ox H.sa fun u hu w hw=>?_
   obtain⟨p,hp1,hp⟩:=cg hu
   rw[e_]at hp
   have:=k2 p u hp1 hp
   simp at this
   exact v_ this (iq H.sb hy w hw)
  by_cases e1:i + k + 1=a.size
  ·rw[if_pos (by rw[e1];exact beq_self_eq_true _)]
   exact Ny (h true _ _ ⟨K2,H.kq m2 e1⟩ (fun z=>nomatch z))
  rw[if_neg (by simpa using e1)]
  by_cases e2:i + k=a.size
  ·rw[if_pos (by rw[e2];exact beq_self_eq_true _)]
   exact Ny (h true _ _ ⟨K2,H.iJ m2 (.inl (by lia))⟩ (fun z=>nomatch z))
  rw[if_neg (by simpa using e2)]
  refine CI L H hk K2 ⟨m2,by(clear m2 after k3 k2 K2 hy hi h I K hk H L;lia),I.j⟩ (fun y' hy'=>?_) (by lia) fun d c x1 x2=>h d c _ x1 x2
  rw[hy]at hy'
  cases hy'
  exact after
 rw[if_neg pk]
 have k0:k=0:=by lia
 subst k0
 refine CI L H hk K2 I (fun y' hy'=>?_) (d_ _) fun d c x1 x2=>h d c _ x1 x2
 rw[hy]at hy'
 cases hy'
 exact after
theorem EW{st:Nu}{Q:Array Nm->Nu->Prop}(L:bU M A E s kd rk S)(H:LoOk rk S a b)(hk:kindOf st=kd)(h:∀ r st',Keep st st'->Res rk a.toList b.toList r.toList->Q r st')(hr:∀ x,Nl M A (rule x) (fun _ s'=>s'=s) E s):wpS M A E s (mLo a b) Q st:=by
 rw[BD]
 obtain⟨y,hy⟩:∃ y,b[0]?=some y:=⟨_,gV H.pb⟩
 have rl:∀ {x:String} {R:Unit->Nu->Prop} {st':Nu},R () st'->wpS M A E s (liftM (rule x):StateT Nu Sem Unit) R st':=fun{x R st'} q=>Q9 (NN (hr x) (fun _ _ z=>⟨z,q⟩) fun _ _ z=>z)
 refine Nr (rl (Nr (aJ hy ?_)))
 have m0:MS rk a.toList b.toList (#[]:Array Nm).toList 0 0:=⟨by simp,Lb,fun x hx=>by simp at hx⟩
 have m1:MS rk a.toList b.toList (#[y]:Array Nm).toList 0 1:=m0.jF H hy fun z hz=>H.first y hy z (by simpa using hz)
 by_cases e1:1=b.size
 ·rw[if_pos (by rw[<-e1];rfl)]
  exact Ny (h _ _ .bz (H.iJ m1 (.inr (by lia))))
 rw[if_neg (by simpa using e1)]
 by_cases e2:0 + 1=a.size
 ·rw[if_pos (by rw[<-e2];rfl)]
  exact Ny (h _ _ .bz (H.kq m1 e2))
 rw[if_neg (by simpa using e2)]
 refine Nr (PV ?_)
 have pa:=H.pa
 have pb:=H.pb
 refine Nr (Ov (N4 (I:=fun x (c:OS) st'=>c.1=none/\Keep st st'/\LI rk a b c.2.1 c.2.2.1 c.2.2.2.1/\x < c.2.2.1 + c.2.2.2.1) (Q:=fun(c:OS) st'=>∃ q,c.1=some q/\Keep st st'/\Res rk a.toList b.toList q.toList) ?_ ?_ ⟨rfl,.bz,⟨m1,by dsimp only;lia,by dsimp only;lia⟩,by show 0 < 0 + 1;lia⟩) ?_)
 ·rintro x ⟨c1,out,i,j,mg⟩ st1 _ hx ⟨rfl,K1,I1,px⟩
  unfold oLo
  dsimp only at I1 px ⊢
  refine Nr (Ov (N4 (I:=fun x (c:FS) st'=>c.1=none/\Keep st st'/\LI rk a b c.2.1 c.2.2.1 c.2.2.2.1/\i + j + x<=c.2.2.1 + c.2.2.2.1) (Q:=fun(c:FS) st'=>dG rk a b (i + j) st c.1 c.2.1 c.2.2.1 c.2.2.2.1 st') ?_ ?_ ⟨rfl,K1,I1,d_ _⟩) ?_)
  ·rintro x2 ⟨d1,out2,i2,j2,ca,cb⟩ st2 _ hx2 ⟨rfl,K2,I2,p2⟩
   dsimp only at I2 p2 ⊢
   refine HV L H hk K2 I2 fun d c hs hn=>?_
   cases d with
   | true=>
    show dG _ _ _ _ _ _ _ _ _ _
    refine⟨hs.1,?_⟩
    have h2:=hs.2
    cases e:c.1 with
    | some q=>rw[e]at h2;exact h2
    | none=>rw[e]at h2;exact⟨h2.1,by have:=h2.2;(clear e h2 hn hs I2 K2 hx2 px I1 K1 hx pb pa e2 e1 m1 m0 rl hy hr h hk H L;lia)⟩
   | false=>
    have h2:=hs.2
    rw[hn rfl]at h2
    exact⟨hn rfl,hs.1,h2.1,by have:=h2.2;(clear h2 hn hs I2 K2 hx2 px I1 K1 hx pb pa e2 e1 m1 m0 rl hy hr h hk H L;lia)⟩
  ·rintro⟨c1,out2,i2,j2,ca,cb⟩ st2 ⟨rfl,K2,I2,p2⟩
   dsimp only at I2 p2 ⊢
   have:=I2.i
   have:=I2.j
   (clear I2 K2 px I1 K1 hx pb pa e2 e1 m1 m0 rl hy hr h hk H L;lia)
  rintro⟨c1,out2,i2,j2,ca,cb⟩ st2 ⟨K2,h2⟩
  cases c1 with
  | some q=>exact Ny ⟨q,rfl,K2,h2⟩
  | none=>
   obtain⟨I2,p2⟩:=h2
   dsimp only at I2 p2 ⊢
   refine Nr (rl ?_)
   refine Nr (Ov (N4 (I:=fun _ (c:GS) st'=>c.1=none/\Keep st st'/\LI rk a b c.2.1 c.2.2.1 c.2.2.2.1/\i + j < c.2.2.1 + c.2.2.2.1) (Q:=fun(c:GS) st'=>dG rk a b (i + j) st c.1 c.2.1 c.2.2.1 c.2.2.2.1 st') ?_ ?_ ⟨rfl,K2,I2,p2⟩) ?_)
   ·rintro x3 ⟨d1,out3,i3,j3,mg3,ca3,cb3⟩ st3 _ hx3 ⟨rfl,K3,I3,p3⟩
    dsimp only at I3 p3 ⊢
    have go:∀ mg',wpS M A E s (g1 a b out3 i3 j3 mg' ca3 cb3) (fun r st'=>match r with | .done c'=>dG rk a b (i + j) st c'.1 c'.2.1 c'.2.2.1 c'.2.2.2.1 st' | .yield c'=>c'.1=none/\Keep st st'/\LI rk a b c'.2.1 c'.2.2.1 c'.2.2.2.1/\i + j < c'.2.2.1 + c'.2.2.2.1) st3:=fun mg'=>by
     refine HU L H hk K3 I3 fun d c st4 hs hn=>?_
     cases d with
     | true=>
      show dG _ _ _ _ _ _ _ _ _ _
      refine⟨hs.1,?_⟩
      have h2:=hs.2
      cases e:c.1 with
      | some q=>rw[e]at h2;exact h2
      | none=>rw[e]at h2;exact⟨h2.1,by have:=h2.2;(clear e h2 hn hs I3 K3 hx3 p2 I2 K2 px I1 K1 hx pb pa e2 e1 m1 m0 rl hy hr h hk H L;lia)⟩
     | false=>
      have h2:=hs.2
      rw[hn rfl]at h2
      exact⟨hn rfl,hs.1,h2.1,by have:=h2.2;(clear h2 hn hs I3 K3 hx3 p2 I2 K2 px I1 K1 hx pb pa e2 e1 m1 m0 rl hy hr h hk H L;lia)⟩
    split
    ·exact Ov (go _) fun r st' h=>by cases r <;> exact h
    exact Ov (go _) fun r st' h=>by cases r <;> exact h
   ·rintro⟨c1,out3,i3,j3,mg3,ca3,cb3⟩ st3 ⟨rfl,K3,I3,p3⟩
    exact⟨K3,I3,p3⟩
   rintro⟨c1,out3,i3,j3,mg3,ca3,cb3⟩ st3 ⟨K3,h3⟩
   cases c1 with
   | some q=>exact Ny ⟨q,rfl,K3,h3⟩
   | none=>
    obtain⟨I3,p3⟩:=h3
    refine Nr (kj (Ny ⟨rfl,K3.g _,I3,?_⟩))
    dsimp only at p3 ⊢
    lia
 ·rintro⟨c1,out,i,j,mg⟩ st1 ⟨rfl,K1,I1,px⟩
  have h1:=I1.i
  have h2:=I1.j
  dsimp only at h1 h2 px
  (clear I1 K1 pb pa e2 e1 m1 m0 rl hy hr h hk H L;lia)
 rintro⟨c1,out,i,j,mg⟩ st1 ⟨q,e,K1,r⟩
 dsimp only at e
 subst e
 exact Ny (h q st1 K1 r)
end
def dnH(a b out:Array Nm)(i j:Nat):Array Nm:=a.extract 0 i++b.extract 0 j++out.reverse
def cS(a b out:Array Nm)(i j:Nat):Array Nm:=b.extract 0 j++a.extract 0 i++out.reverse
theorem EE(a b:Array Nm):mHi a b=(do
 rule "list.sort.merge-hi"
 let mut i:=a.size - 1
 let mut j:=b.size
 let mut out:Array Nm:=#[<-N5 a i]
 if i == 0 then return dnH a b out i j
 if j == 1 then return cS a b out i j
 let mut mg:=Q8 (<-get)
 for _ in [0:a.size + b.size]do
  let mut ca:=0
  let mut cb:=0
  for _ in [0:a.size + b.size]do
   let some aw <-lt' (<-N5 b (j - 1)) (<-N5 a (i - 1)) | return dnH a b out i j
   if aw then
    i:=i - 1;out:=out.push (<-N5 a i);ca:=ca + 1;cb:=0
    if i == 0 then return dnH a b out i j
    if ca>=mg then break
   else
    j:=j - 1;out:=out.push (<-N5 b j);cb:=cb + 1;ca:=0
    if j == 1 then return cS a b out i j
    if cb>=mg then break
  rule "list.sort.gallop"
  mg:=mg + 1
  for _ in [0:a.size + b.size]do
   if mg > 1 then mg:=mg - 1
   setG mg
   let some at' <-gal false (<-N5 b (j - 1)) a 0 i (i - 1) | return dnH a b out i j
   let k:=i - at'
   ca:=k
   if k > 0 then
    out:=out++(a.extract at' i).reverse;i:=at'
    if i == 0 then return dnH a b out i j
   j:=j - 1;out:=out.push (<-N5 b j)
   if j == 1 then return cS a b out i j
   let some at' <-gal true (<-N5 a (i - 1)) b 0 j (j - 1) | return dnH a b out i j
   let k:=j - at'
   cb:=k
   if k > 0 then
    out:=out++(b.extract at' j).reverse;j:=at'
    if j == 1 then return cS a b out i j
    if j == 0 then return dnH a b out i j
   i:=i - 1;out:=out.push (<-N5 a i)
   if i == 0 then return dnH a b out i j
   if ca < 7 && cb < 7 then break
  mg:=mg + 1
  setG mg
 unsupported "internal:list.sort.merge-bound"):=rfl
abbrev GT:=Option (Array Nm) × Nat × Nat × Array Nm × Nat × Nat × Nat
abbrev FT:=Option (Array Nm) × Nat × Nat × Array Nm × Nat × Nat
abbrev OT:=Option (Array Nm) × Nat × Nat × Array Nm × Nat
noncomputable def k3(a b out:Array Nm)(i j mg ca cb:Nat):StateT Nu Sem (ForInStep GT):=do
 let y <-N5 a (i - 1)
 if(i - 1 == 0)=true then pure (Nw (some (dnH a b (out.push y) (i - 1) j),i - 1,j,out.push y,mg,ca,cb))
 else if(decide (ca < 7) && decide (cb < 7))=true then pure (Nw (none,i - 1,j,out.push y,mg,ca,cb))
 else pure (NG (none,i - 1,j,out.push y,mg,ca,cb))
noncomputable def k2(a b out:Array Nm)(i j mg ca cb:Nat):StateT Nu Sem (ForInStep GT):=do
 let y <-N5 b (j - 1)
 if(j - 1 == 1)=true then pure (Nw (some (cS a b (out.push y) i (j - 1)),i,j - 1,out.push y,mg,ca,cb))
 else do
  let z <-N5 a (i - 1)
  let some at' <-gal true z b 0 (j - 1) (j - 1 - 1) | pure (Nw (some (dnH a b (out.push y) i (j - 1)),i,j - 1,out.push y,mg,ca,cb))
  if j - 1 - at' > 0 then
    if(at' == 1)=true then pure (Nw (some (cS a b (out.push y++(b.extract at' (j - 1)).reverse) i at'),i,at',out.push y++(b.extract at' (j - 1)).reverse,mg,ca,j - 1 - at'))
    else if(at' == 0)=true then pure (Nw (some (dnH a b (out.push y++(b.extract at' (j - 1)).reverse) i at'),i,at',out.push y++(b.extract at' (j - 1)).reverse,mg,ca,j - 1 - at'))
    else k3 a b (out.push y++(b.extract at' (j - 1)).reverse) i at' mg ca (j - 1 - at')
  else k3 a b (out.push y) i (j - 1) mg ca (j - 1 - at')
noncomputable def k1(a b out:Array Nm)(i j mg ca cb:Nat):StateT Nu Sem (ForInStep GT):=do
 setG mg
 let y <-N5 b (j - 1)
 let some at' <-gal false y a 0 i (i - 1) | pure (Nw (some (dnH a b out i j),i,j,out,mg,ca,cb))
 if i - at' > 0 then
   if(at' == 0)=true then pure (Nw (some (dnH a b (out++(a.extract at' i).reverse) at' j),at',j,out++(a.extract at' i).reverse,mg,i - at',cb))
   else k2 a b (out++(a.extract at' i).reverse) at' j mg (i - at') cb
 else k2 a b out i j mg (i - at') cb
noncomputable def e1(a b out:Array Nm)(i j ca cb mg:Nat):StateT Nu Sem (ForInStep FT):=do
 let y <-N5 b (j - 1)
 let z <-N5 a (i - 1)
 let some aw <-lt' y z | pure (Nw (some (dnH a b out i j),i,j,out,ca,cb))
 if aw=true then do
   let z <-N5 a (i - 1)
   if(i - 1 == 0)=true then pure (Nw (some (dnH a b (out.push z) (i - 1) j),i - 1,j,out.push z,ca + 1,0))
   else if ca + 1>=mg then pure (Nw (none,i - 1,j,out.push z,ca + 1,0))else pure (NG (none,i - 1,j,out.push z,ca + 1,0))
 else do
   let y <-N5 b (j - 1)
   if(j - 1 == 1)=true then pure (Nw (some (cS a b (out.push y) i (j - 1)),i,j - 1,out.push y,0,cb + 1))
   else if cb + 1>=mg then pure (Nw (none,i,j - 1,out.push y,0,cb + 1))else pure (NG (none,i,j - 1,out.push y,0,cb + 1))
noncomputable def oHi(a b:Array Nm)(c:OT):StateT Nu Sem (ForInStep OT):=do
 let r <-forIn [0:a.size + b.size] ((none,c.2.1,c.2.2.1,c.2.2.2.1,0,0):FT) fun _ d=>e1 a b d.2.2.2.1 d.2.1 d.2.2.1 d.2.2.2.2.1 d.2.2.2.2.2 c.2.2.2.2
 match r.1 with
 | some q=>pure (Nw (some q,r.2.1,r.2.2.1,r.2.2.2.1,c.2.2.2.2))
 | none=>do
  liftM (rule "list.sort.gallop")
  let e <-forIn [0:a.size + b.size] ((none,r.2.1,r.2.2.1,r.2.2.2.1,c.2.2.2.2 + 1,r.2.2.2.2.1,r.2.2.2.2.2):GT) fun _ d=>
   if d.2.2.2.2.1 > 1 then k1 a b d.2.2.2.1 d.2.1 d.2.2.1 (d.2.2.2.2.1 - 1) d.2.2.2.2.2.1 d.2.2.2.2.2.2 else k1 a b d.2.2.2.1 d.2.1 d.2.2.1 d.2.2.2.2.1 d.2.2.2.2.2.1 d.2.2.2.2.2.2
  match e.1 with
  | some q=>pure (Nw (some q,e.2.1,e.2.2.1,e.2.2.2.1,e.2.2.2.2.1))
  | none=>do
   setG (e.2.2.2.2.1 + 1)
   pure (NG (none,e.2.1,e.2.2.1,e.2.2.2.1,e.2.2.2.2.1 + 1))
set_option maxHeartbeats 2000000 in
theorem Cu(a b:Array Nm):mHi a b=(do
  liftM (rule "list.sort.merge-hi")
  let y <-N5 a (a.size - 1)
  if(a.size - 1 == 0)=true then pure (dnH a b #[y] (a.size - 1) b.size)
  else if(b.size == 1)=true then pure (cS a b #[y] (a.size - 1) b.size)
  else do
   let st <-get
   let r <-forIn [0:a.size + b.size] ((none,a.size - 1,b.size,#[y],Q8 st):OT) fun _ c=>oHi a b c
   match r.1 with
   | some q=>pure q
   | none=>liftM (unsupported "internal:list.sort.merge-bound":Sem (Array Nm))):=by
 rw[EE]
 unfold oHi
 refine congrArg (bind _) (funext fun _=>?_)
 refine congrArg (bind _) (funext fun y=>?_)
 refine ite_congr rfl (fun _=>rfl) (fun _=>?_)
 refine ite_congr rfl (fun _=>rfl) (fun _=>?_)
 refine congrArg (bind _) (funext fun st=>?_)
 refine congr (congrArg bind (congrArg (forIn _ _) (funext fun _=>funext fun c=>?_))) ?_
 ·refine congr (congrArg bind (congrArg (forIn _ _) (funext fun _=>funext fun d=>?_))) ?_
  ·unfold e1
   rfl
  funext r
  obtain⟨r1,r2⟩:=r
  cases r1 with
  | some q=>rfl
  | none=>
   refine congrArg (bind _) (funext fun _=>?_)
   refine congr (congrArg bind (congrArg (forIn _ _) (funext fun _=>funext fun d=>?_))) ?_
   ·unfold k1
    refine ite_congr rfl (fun _=>?_) (fun _=>?_)
    all_goals
     refine congrArg (bind _) (funext fun _=>?_)
     refine congrArg (bind _) (funext fun y=>?_)
     refine congrArg (bind _) (funext fun r=>?_)
     cases r with
     | none=>rfl
     | some k=>
      refine ite_congr rfl (fun _=>?_) (fun _=>?_)
      ·refine ite_congr rfl (fun _=>rfl) (fun _=>?_)
       unfold k2
       rfl
      unfold k2
      rfl
   funext e;obtain⟨e1,e2⟩:=e;cases e1 <;> rfl
 funext e;obtain⟨e1,e2⟩:=e;cases e1 <;> rfl
section
variable{rk:Nm->Nat}
structure MH (rk:Nm->Nat) (a b o:List Nm) (i j:Nat):Prop where
 perm:o.Perm (a.drop i++b.drop j)
 srt:Srt rk o
 le:∀ x∈o,(∀ y∈a.take i,rk y<=rk x)/\∀ y∈b.take j,rk y<=rk x
theorem sh{l:List Nm}{i t:Nat}(h:t<=i):l.drop t=(l.take i).drop t++l.drop i:=by
 by_cases hi:i<=l.length
 ·have e:=Ja i l
  have h2:(l.take i++l.drop i).drop t=(l.take i).drop t++l.drop i:=Lq (by rw[Jc];lia)
  rw[e]at h2
  exact h2
 rw[Jx (by lia),JL (by lia:l.length<=i),H_]
theorem gD{l:List Nm}{i t:Nat}(h:t<=i):l.take i=l.take t++(l.take i).drop t:=by
 have:=Ja t (l.take i)
 rw[List.take_take,Ma h]at this
 exact this.symm
theorem MH.ox {a b o:List Nm}{i j t:Nat}(h:MH rk a b o i j)(sa:Srt rk a)(ht:t<=i)(hc:∀ y∈(a.take i).drop t,∀ z∈b.take j,rk z<=rk y):MH rk a b ((a.take i).drop t++o) t j:=by
 have st:Srt rk (a.take i):=Jr (Ks _ _) sa
 refine⟨?_,?_,fun x hx=>?_⟩
 ·rw[sh (l:=a) ht,j_]
  exact Js _ h.perm
 ·exact F_.mpr ⟨Jr (Ku _ _) st,h.srt,fun x hx y hy=>(h.le y hy).1 x (KG hx)⟩
 rcases F'.mp hx with hx | hx
 ·refine⟨fun y hy=>?_,hc x hx⟩
  rw[gD ht]at st
  exact(F_.mp st).2.2 y hy x hx
 refine⟨fun y hy=>(h.le x hx).1 y ?_,(h.le x hx).2⟩
 rw[gD ht]
 exact Jf _ hy
theorem MH.pJ {a b o:List Nm}{i j t:Nat}(h:MH rk a b o i j)(sb:Srt rk b)(ht:t<=j)(hc:∀ y∈(b.take j).drop t,∀ z∈a.take i,rk z<=rk y):MH rk a b ((b.take j).drop t++o) i t:=by
 have st:Srt rk (b.take j):=Jr (Ks _ _) sb
 refine⟨?_,?_,fun x hx=>?_⟩
 ·rw[sh (l:=b) ht]
  refine(Js _ h.perm).trans ?_
  rw[<-j_,<-j_]
  exact Mf _ JR
 ·exact F_.mpr ⟨Jr (Ku _ _) st,h.srt,fun x hx y hy=>(h.le y hy).2 x (KG hx)⟩
 rcases F'.mp hx with hx | hx
 ·refine⟨hc x hx,fun y hy=>?_⟩
  rw[gD ht]at st
  exact(F_.mp st).2.2 y hy x hx
 refine⟨(h.le x hx).1,fun y hy=>(h.le x hx).2 y ?_⟩
 rw[gD ht]
 exact Jf _ hy
theorem MH.done {a b o:List Nm}{i j:Nat}(h:MH rk a b o i j)(sa:Srt rk a)(sb:Srt rk b)(e:i=0\/j=0):Res rk a b (a.take i++b.take j++o):=by
 have h1:=h.pJ (t:=0) sb (G_ _) fun y hy z hz=>by
  rcases e with e | e
  ·rw[e]at hz;simp at hz
  rw[e]at hy;simp at hy
 have h2:=h1.ox (t:=0) sa (G_ _) fun y hy z hz=>by simp at hz
 have p:=h2.perm
 have q:=h2.srt
 simp only[Kz]at p q
 rw[j_]
 exact⟨p,q⟩
theorem MH.first {a b o:List Nm}{i j:Nat}(h:MH rk a b o i j)(sa:Srt rk a)(sb:Srt rk b)(e:∀ y∈a.take i,∀ z∈b.take j,rk z<=rk y):Res rk a b (b.take j++a.take i++o):=by
 have h1:=h.ox (t:=0) sa (G_ _) fun y hy z hz=>e y (by rw[Kz]at hy;exact hy) z hz
 have h2:=h1.pJ (t:=0) sb (G_ _) fun y hy z hz=>by simp at hz
 have p:=h2.perm
 have q:=h2.srt
 simp only[Kz]at p q
 rw[j_]
 exact⟨p,q⟩
theorem kJ(a:Array Nm)(i:Nat):(a.extract 0 i).toList=a.toList.take i:=by
 rw[KH,J_,Kz,M4]
theorem uz(a:Array Nm)(t i:Nat):(a.extract t i).toList=(a.toList.take i).drop t:=by
 rw[KH,J_,List.drop_take]
theorem take_one{l:List Nm}{i:Nat}{y:Nm}(h0:0 < i)(h:l[i - 1]?=some y):(l.take i).drop (i - 1)=[y]:=by
 obtain⟨hl,e⟩:=c_.mp h
 have:l.take i=l.take (i - 1)++[y]:=by
  conv=>lhs;rw[show i=i - 1 + 1 by lia,JY,h]
  rfl
 rw[this,Lq (by rw[Jc];omega),JL (by rw[Jc];omega)]
 rfl
theorem fD{l:List Nm}{i:Nat}{y:Nm}(h:y∈l.take i):∃ j,j < i/\l[j]?=some y:=by
 obtain⟨j,hj⟩:=Jt.mp h
 rw[Kk]at hj
 split at hj
 ·next hlt=>exact⟨j,hlt,hj⟩
 cases hj
theorem rC{l:List Nm}{t i:Nat}{y:Nm}(h:y∈(l.take i).drop t):∃ j,t<=j/\j < i/\l[j]?=some y:=by
 obtain⟨j,hj⟩:=fC h
 rw[Kk]at hj
 split at hj
 ·next hlt=>exact⟨t + j,by lia,hlt,hj⟩
 cases hj
end
section
variable{M:Po}{A:NH}{E:Nf->Ni->Prop}{s:Ni}{kd:OC}{rk:Nm->Nat}{S:Nm->Prop}{a b:Array Nm}
abbrev MHo(rk:Nm->Nat)(a b out:Array Nm)(i j:Nat):Prop:=MH rk a.toList b.toList out.toList.reverse i j
theorem LoOk.rS (h:LoOk rk S a b){out:Array Nm}{i j:Nat}(m:MHo rk a b out i j)(e:i=0\/j=0):Res rk a.toList b.toList (dnH a b out i j).toList:=by
 unfold dnH
 rw[Jk,Jk,kJ,kJ,KI]
 exact m.done h.sa h.sb e
theorem LoOk.pR (h:LoOk rk S a b){out:Array Nm}{i j:Nat}(m:MHo rk a b out i j)(e:j=1):Res rk a.toList b.toList (cS a b out i j).toList:=by
 unfold cS
 rw[Jk,Jk,kJ,kJ,KI]
 refine m.first h.sa h.sb fun y hy z hz=>?_
 subst e
 obtain⟨k,hk,hz'⟩:=fD hz
 have k0:k=0:=by lia
 subst k0
 exact h.first z (by rw[<-e_];exact hz') y (JJ hy)
structure HI (rk:Nm->Nat) (a b out:Array Nm) (i j:Nat):Prop where
 m:MHo rk a b out i j
 i0:0 < i
 j1:1 < j
 ia:i<=a.size
 jb:j<=b.size
theorem MH.jt {out:Array Nm}{i j:Nat}(m:MHo rk a b out i j)(H:LoOk rk S a b)(h0:0 < i){y:Nm}(hy:a[i - 1]?=some y)(hc:∀ z∈b.toList.take j,rk z<=rk y):MHo rk a b (out.push y) (i - 1) j:=by
 have hy':a.toList[i - 1]?=some y:=by rw[e_];exact hy
 have:=m.ox (t:=i - 1) H.sa (by lia) (by rw[take_one h0 hy'];intro w hw;rw[w_.mp hw];exact hc)
 rw[take_one h0 hy']at this
 show MH _ _ _ (out.push y).toList.reverse _ _
 rw[JX,KQ]
 exact this
theorem MH.jF {out:Array Nm}{i j:Nat}(m:MHo rk a b out i j)(H:LoOk rk S a b)(h0:0 < j){y:Nm}(hy:b[j - 1]?=some y)(hc:∀ z∈a.toList.take i,rk z<=rk y):MHo rk a b (out.push y) i (j - 1):=by
 have hy':b.toList[j - 1]?=some y:=by rw[e_];exact hy
 have:=m.pJ (t:=j - 1) H.sb (by lia) (by rw[take_one h0 hy'];intro w hw;rw[w_.mp hw];exact hc)
 rw[take_one h0 hy']at this
 show MH _ _ _ (out.push y).toList.reverse _ _
 rw[JX,KQ]
 exact this
theorem i4{l:Array Nm}{i:Nat}{y:Nm}(srt:Srt rk l.toList)(hy:l[i - 1]?=some y):∀ z∈l.toList.take i,rk z<=rk y:=fun z hz=>by
 obtain⟨k,hk,hz'⟩:=fD hz
 exact lG srt (i:=k) (j:=i - 1) (by lia) hz' (by rw[e_];exact hy)
noncomputable def iQ(rk:Nm->Nat)(a b:Array Nm)(lo:Nat)(st:Nu)(r:Option (Array Nm))(out:Array Nm)(i j:Nat)(st':Nu):Prop:=
 Keep st st'/\match r with
 | some q=>Res rk a.toList b.toList q.toList
 | none=>HI rk a b out i j/\i + j < lo
theorem HI.get (I:HI rk a b out i j):(∃ y,b[j - 1]?=some y)/\∃ z,a[i - 1]?=some z:=
 ⟨⟨_,gV (x_ (LQ (Ll Kn I.j1) Kn) I.jb)⟩,⟨_,gV (x_ (LQ I.i0 Kn) I.ia)⟩⟩
theorem Gu{out:Array Nm}{i j ca cb mg:Nat}{st st':Nu}{Q:ForInStep FT->Nu->Prop}(L:bU M A E s kd rk S)(H:LoOk rk S a b)(hk:kindOf st=kd)(K:Keep st st')(I:HI rk a b out i j)
  (h:∀(d:Bool) (c:FT),iQ rk a b (i + j) st c.1 c.2.2.2.1 c.2.1 c.2.2.1 st'->(d=false->c.1=none)->Q (if d=true then Nw c else NG c) st'):wpS M A E s (e1 a b out i j ca cb mg) Q st':=by
 obtain⟨⟨y,hy⟩,⟨z,hz⟩⟩:=I.get
 have i0:=I.i0
 have j1:=I.j1
 have ia:=I.ia
 have jb:=I.jb
 unfold e1
 refine Nr (aJ hy (Nr (aJ hz (Nr (L y z st' _ (H.Sb _ _ hy) (H.Sa _ _ hz) (K.k.trans hk) ?_)))))
 dsimp only
 by_cases w:rk y < rk z
 ·rw[decide_eq_true w,if_pos rfl]
  have m:=I.m.jt H i0 hz fun u hu=>v_ (i4 H.sb hy u hu) (Jd w)
  refine Nr (aJ hz ?_)
  by_cases e:i - 1=0
  ·rw[if_pos (by rw[e];rfl)]
   exact Ny (h true _ ⟨K,H.rS m (.inl e)⟩ (fun z=>nomatch z))
  rw[if_neg (by simpa using e)]
  have I2:HI rk a b (out.push z) (i - 1) j:=⟨m,JQ e,j1,v_ (JV ..) ia,jb⟩
  split
  ·exact Ny (h true _ ⟨K,I2,by dsimp only;lia⟩ (fun z=>nomatch z))
  exact Ny (h false _ ⟨K,I2,by dsimp only;lia⟩ (fun _=>rfl))
 rw[decide_eq_false w,if_neg (by simp)]
 have m:=I.m.jF H (by lia) hy fun u hu=>v_ (i4 H.sa hz u hu) (by lia)
 refine Nr (aJ hy ?_)
 by_cases e:j - 1=1
 ·rw[if_pos (by rw[e];rfl)]
  exact Ny (h true _ ⟨K,H.pR m e⟩ (fun z=>nomatch z))
 rw[if_neg (by simpa using e)]
 have I2:HI rk a b (out.push y) i (j - 1):=⟨m,i0,by lia,ia,v_ (JV ..) jb⟩
 split
 ·exact Ny (h true _ ⟨K,I2,by dsimp only;lia⟩ (fun z=>nomatch z))
 exact Ny (h false _ ⟨K,I2,by dsimp only;lia⟩ (fun _=>rfl))
theorem CZ{out:Array Nm}{i j mg ca cb lo:Nat}{st st':Nu}{Q:ForInStep GT->Nu->Prop}(H:LoOk rk S a b)(K:Keep st st')(I:HI rk a b out i j)(hc:∀ z,a[i - 1]?=some z->∀ u∈b.toList.take j,rk u<=rk z)(hl:i + j<=lo)
  (h:∀(d:Bool) (c:GT),iQ rk a b lo st c.1 c.2.2.2.1 c.2.1 c.2.2.1 st'->(d=false->c.1=none)->Q (if d=true then Nw c else NG c) st'):wpS M A E s (k3 a b out i j mg ca cb) Q st':=by
 obtain⟨⟨y,hy⟩,⟨z,hz⟩⟩:=I.get
 have i0:=I.i0
 have j1:=I.j1
 have ia:=I.ia
 have jb:=I.jb
 unfold k3
 have m:=I.m.jt H i0 hz (hc z hz)
 refine Nr (aJ hz ?_)
 by_cases e:i - 1=0
 ·rw[if_pos (by rw[e];rfl)]
  exact Ny (h true _ ⟨K,H.rS m (.inl e)⟩ (fun z=>nomatch z))
 rw[if_neg (by simpa using e)]
 have I2:HI rk a b (out.push z) (i - 1) j:=⟨m,JQ e,j1,v_ (JV ..) ia,jb⟩
 split
 ·exact Ny (h true _ ⟨K,I2,by dsimp only;lia⟩ (fun z=>nomatch z))
 exact Ny (h false _ ⟨K,I2,by dsimp only;lia⟩ (fun _=>rfl))
theorem MHo.block {out:Array Nm}{i j t:Nat}(m:MHo rk a b out i j)(H:LoOk rk S a b)(ht:t<=j)(hc:∀ y∈(b.toList.take j).drop t,∀ z∈a.toList.take i,rk z<=rk y):MHo rk a b (out++(b.extract t j).reverse) i t:=by
 have:=m.pJ H.sb ht hc
 show MH _ _ _ (out++(b.extract t j).reverse).toList.reverse _ _
 rw[Jk,KQ,KI,Mm,uz]
 exact this
theorem MHo.E8 {out:Array Nm}{i j t:Nat}(m:MHo rk a b out i j)(H:LoOk rk S a b)(ht:t<=i)(hc:∀ y∈(a.toList.take i).drop t,∀ z∈b.toList.take j,rk z<=rk y):MHo rk a b (out++(a.extract t i).reverse) t j:=by
 have:=m.ox H.sa ht hc
 show MH _ _ _ (out++(a.extract t i).reverse).toList.reverse _ _
 rw[Jk,KQ,KI,Mm,uz]
 exact this
theorem CK{out:Array Nm}{i j mg ca cb lo:Nat}{st st':Nu}{Q:ForInStep GT->Nu->Prop}(L:bU M A E s kd rk S)(H:LoOk rk S a b)(hk:kindOf st=kd)(K:Keep st st')(I:HI rk a b out i j)(hc:∀ y,b[j - 1]?=some y->∀ u∈a.toList.take i,rk u<=rk y)(hl:i + j<=lo)
  (h:∀(d:Bool) (c:GT),iQ rk a b lo st c.1 c.2.2.2.1 c.2.1 c.2.2.1 st'->(d=false->c.1=none)->Q (if d=true then Nw c else NG c) st'):wpS M A E s (k2 a b out i j mg ca cb) Q st':=by
 obtain⟨⟨y,hy⟩,⟨z,hz⟩⟩:=I.get
 have i0:=I.i0
 have j1:=I.j1
 have ia:=I.ia
 have jb:=I.jb
 unfold k2
 have m:=I.m.jF H (by lia) hy (hc y hy)
 refine Nr (aJ hy ?_)
 by_cases e:j - 1=1
 ·rw[if_pos (by rw[e];rfl)]
  exact Ny (h true _ ⟨K,H.pR m e⟩ (fun z=>nomatch z))
 rw[if_neg (by simpa using e)]
 refine Nr (aJ hz (Nr (fB L (K.k.trans hk) (by lia) (by lia) H.Sb (H.Sa _ _ hz) (fun p q x w h1 h2 h3 h4=>lG H.sb (i:=0 + p) (j:=0 + q) (by lia) (by rw[e_];exact h3) (by rw[e_];exact h4)) fun t t1 t2 t3=>?_)))
 dsimp only
 have before:∀ u∈b.toList.take t,rk u<=rk z:=fun u hu=>by
  obtain⟨p,hp1,hp⟩:=fD hu
  rw[e_]at hp
  have:=t2 p u hp1 (by rw[K7];exact hp)
  simp at this
  lia
 by_cases pk:j - 1 - t > 0
 ·rw[if_pos pk]
  have m2:MHo rk a b (out.push y++(b.extract t (j - 1)).reverse) i t:=by
   refine MHo.block m H (by omega) fun u hu w hw=>?_
   obtain⟨p,hp0,hp1,hp⟩:=rC hu
   rw[e_]at hp
   have:=t3 p u hp0 hp1 (by rw[K7];exact hp)
   simp at this
   exact v_ (i4 H.sa hz w hw) this
  by_cases e1:t=1
  ·rw[if_pos (by rw[e1];rfl)]
   exact Ny (h true _ ⟨K,H.pR m2 e1⟩ (fun z=>nomatch z))
  rw[if_neg (by simpa using e1)]
  by_cases e2:t=0
  ·rw[if_pos (by rw[e2];rfl)]
   exact Ny (h true _ ⟨K,H.rS m2 (.inr e2)⟩ (fun z=>nomatch z))
  rw[if_neg (by simpa using e2)]
  refine CZ H K ⟨m2,i0,JS (JQ e2) (Oq e1),ia,v_ t1 (v_ (JV ..) jb)⟩ (fun z' hz'=>?_) (by lia) h
  rw[hz]at hz'
  cases hz'
  exact before
 rw[if_neg pk]
 have k0:t=j - 1:=by lia
 refine CZ H K ⟨m,i0,by lia,ia,v_ (JV ..) jb⟩ (fun z' hz'=>?_) (by lia) h
 rw[hz]at hz'
 cases hz'
 rw[k0]at before
 exact before
theorem Ia{out:Array Nm}{i j mg ca cb:Nat}{st st':Nu}{Q:ForInStep GT->Nu->Prop}(L:bU M A E s kd rk S)(H:LoOk rk S a b)(hk:kindOf st=kd)(K:Keep st st')(I:HI rk a b out i j)
  (h:∀(d:Bool) (c:GT) (st2:Nu),iQ rk a b (i + j) st c.1 c.2.2.2.1 c.2.1 c.2.2.1 st2->(d=false->c.1=none)->Q (if d=true then Nw c else NG c) st2):wpS M A E s (k1 a b out i j mg ca cb) Q st':=by
 obtain⟨⟨y,hy⟩,⟨z,hz⟩⟩:=I.get
 have i0:=I.i0
 have j1:=I.j1
 have ia:=I.ia
 have jb:=I.jb
 unfold k1
 refine Nr (kj (Nr (aJ hy ?_)))
 have K2:=K.g mg
 revert K2
 generalize O2 (kindOf st') (Nn st') (ND st') mg (N6 st')=st2
 intro K2
 refine Nr (fB L (K2.k.trans hk) (by lia) (by lia) H.Sa (H.Sb _ _ hy) (fun p q x w h1 h2 h3 h4=>lG H.sa (i:=0 + p) (j:=0 + q) (by lia) (by rw[e_];exact h3) (by rw[e_];exact h4)) fun t t1 t2 t3=>?_)
 dsimp only
 have before:∀ u∈a.toList.take t,rk u<=rk y:=fun u hu=>by
  obtain⟨p,hp1,hp⟩:=fD hu
  rw[e_]at hp
  have:=t2 p u hp1 (by rw[K7];exact hp)
  simpa using this
 by_cases pk:i - t > 0
 ·rw[if_pos pk]
  have m2:MHo rk a b (out++(a.extract t i).reverse) t j:=by
   refine MHo.E8 I.m H (by omega) fun u hu w hw=>?_
   obtain⟨p,hp0,hp1,hp⟩:=rC hu
   rw[e_]at hp
   have:=t3 p u hp0 hp1 (by rw[K7];exact hp)
   simp at this
   exact v_ (i4 H.sb hy w hw) (Jd this)
  by_cases e2:t=0
  ·rw[if_pos (by rw[e2];rfl)]
   exact Ny (h true _ _ ⟨K2,H.rS m2 (.inl e2)⟩ (fun z=>nomatch z))
  rw[if_neg (by simpa using e2)]
  refine CK L H hk K2 ⟨m2,by lia,j1,by lia,jb⟩ (fun y' hy'=>?_) (by lia) fun d c x1 x2=>h d c _ x1 x2
  rw[hy]at hy'
  cases hy'
  exact before
 rw[if_neg pk]
 have k0:t=i:=by lia
 rw[k0]at before
 refine CK L H hk K2 I (fun y' hy'=>?_) (d_ _) fun d c x1 x2=>h d c _ x1 x2
 rw[hy]at hy'
 cases hy'
 exact before
theorem EL{st:Nu}{Q:Array Nm->Nu->Prop}(L:bU M A E s kd rk S)(H:LoOk rk S a b)(hk:kindOf st=kd)(h:∀ r st',Keep st st'->Res rk a.toList b.toList r.toList->Q r st')(hr:∀ x,Nl M A (rule x) (fun _ s'=>s'=s) E s):wpS M A E s (mHi a b) Q st:=by
 rw[Cu]
 have pa:=H.pa
 have pb:=H.pb
 obtain⟨y,hy⟩:∃ y,a[a.size - 1]?=some y:=⟨_,gV (by lia)⟩
 have rl:∀ {x:String} {R:Unit->Nu->Prop} {st':Nu},R () st'->wpS M A E s (liftM (rule x):StateT Nu Sem Unit) R st':=fun{x R st'} q=>Q9 (NN (hr x) (fun _ _ z=>⟨z,q⟩) fun _ _ z=>z)
 refine Nr (rl (Nr (aJ hy ?_)))
 have m0:MHo rk a b #[] a.size b.size:=⟨by simp,Lb,fun x hx=>by simp at hx⟩
 have m1:MHo rk a b #[y] (a.size - 1) b.size:=m0.jt H pa hy fun z hz=>H.last y hy z (JJ hz)
 by_cases e1:a.size - 1=0
 ·rw[if_pos (by rw[e1];rfl)]
  exact Ny (h _ _ .bz (H.rS m1 (.inl e1)))
 rw[if_neg (by simpa using e1)]
 by_cases e2:b.size=1
 ·rw[if_pos (by rw[e2];rfl)]
  exact Ny (h _ _ .bz (H.pR m1 e2))
 rw[if_neg (by simpa using e2)]
 refine Nr (PV ?_)
 refine Nr (Ov (N4 (I:=fun x (c:OT) st'=>c.1=none/\Keep st st'/\HI rk a b c.2.2.2.1 c.2.1 c.2.2.1/\c.2.1 + c.2.2.1 + x < a.size + b.size) (Q:=fun(c:OT) st'=>∃ q,c.1=some q/\Keep st st'/\Res rk a.toList b.toList q.toList) ?_ ?_ ⟨rfl,.bz,⟨m1,by dsimp only;lia,by dsimp only;lia,by dsimp only;lia,by dsimp only;lia⟩,by dsimp only;lia⟩) ?_)
 ·rintro x ⟨c1,i,j,out,mg⟩ st1 _ hx ⟨rfl,K1,I1,px⟩
  unfold oHi
  dsimp only at I1 px ⊢
  refine Nr (Ov (N4 (I:=fun x (c:FT) st'=>c.1=none/\Keep st st'/\HI rk a b c.2.2.2.1 c.2.1 c.2.2.1/\c.2.1 + c.2.2.1 + x<=i + j) (Q:=fun(c:FT) st'=>iQ rk a b (i + j) st c.1 c.2.2.2.1 c.2.1 c.2.2.1 st') ?_ ?_ ⟨rfl,K1,I1,d_ _⟩) ?_)
  ·rintro x2 ⟨d1,i2,j2,out2,ca,cb⟩ st2 _ hx2 ⟨rfl,K2,I2,p2⟩
   dsimp only at I2 p2 ⊢
   refine Gu L H hk K2 I2 fun d c hs hn=>?_
   cases d with
   | true=>
    show iQ _ _ _ _ _ _ _ _ _ _
    refine⟨hs.1,?_⟩
    have h2:=hs.2
    cases e:c.1 with
    | some q=>rw[e]at h2;exact h2
    | none=>rw[e]at h2;exact⟨h2.1,by have:=h2.2;lia⟩
   | false=>
    have h2:=hs.2
    rw[hn rfl]at h2
    exact⟨hn rfl,hs.1,h2.1,by have:=h2.2;lia⟩
  ·rintro⟨c1,i2,j2,out2,ca,cb⟩ st2 ⟨rfl,K2,I2,p2⟩
   dsimp only at I2 p2 ⊢
   have:=I2.i0
   have:=I2.j1
   lia
  rintro⟨c1,i2,j2,out2,ca,cb⟩ st2 ⟨K2,h2⟩
  cases c1 with
  | some q=>exact Ny ⟨q,rfl,K2,h2⟩
  | none=>
   obtain⟨I2,p2⟩:=h2
   dsimp only at I2 p2 ⊢
   refine Nr (rl ?_)
   refine Nr (Ov (N4 (I:=fun _ (c:GT) st'=>c.1=none/\Keep st st'/\HI rk a b c.2.2.2.1 c.2.1 c.2.2.1/\c.2.1 + c.2.2.1 < i + j) (Q:=fun(c:GT) st'=>iQ rk a b (i + j) st c.1 c.2.2.2.1 c.2.1 c.2.2.1 st') ?_ ?_ ⟨rfl,K2,I2,p2⟩) ?_)
   ·rintro x3 ⟨d1,i3,j3,out3,mg3,ca3,cb3⟩ st3 _ hx3 ⟨rfl,K3,I3,p3⟩
    dsimp only at I3 p3 ⊢
    have go:∀ mg',wpS M A E s (k1 a b out3 i3 j3 mg' ca3 cb3) (fun r st'=>match r with | .done c'=>iQ rk a b (i + j) st c'.1 c'.2.2.2.1 c'.2.1 c'.2.2.1 st' | .yield c'=>c'.1=none/\Keep st st'/\HI rk a b c'.2.2.2.1 c'.2.1 c'.2.2.1/\c'.2.1 + c'.2.2.1 < i + j) st3:=fun mg'=>by
     refine Ia L H hk K3 I3 fun d c st4 hs hn=>?_
     cases d with
     | true=>
      show iQ _ _ _ _ _ _ _ _ _ _
      refine⟨hs.1,?_⟩
      have h2:=hs.2
      cases e:c.1 with
      | some q=>rw[e]at h2;exact h2
      | none=>rw[e]at h2;exact⟨h2.1,by have:=h2.2;lia⟩
     | false=>
      have h2:=hs.2
      rw[hn rfl]at h2
      exact⟨hn rfl,hs.1,h2.1,by have:=h2.2;lia⟩
    split
    ·exact Ov (go _) fun r st' h=>by cases r <;> exact h
    exact Ov (go _) fun r st' h=>by cases r <;> exact h
   ·rintro⟨c1,i3,j3,out3,mg3,ca3,cb3⟩ st3 ⟨rfl,K3,I3,p3⟩
    exact⟨K3,I3,p3⟩
   rintro⟨c1,i3,j3,out3,mg3,ca3,cb3⟩ st3 ⟨K3,h3⟩
   cases c1 with
   | some q=>exact Ny ⟨q,rfl,K3,h3⟩
   | none=>
    obtain⟨I3,p3⟩:=h3
    refine Nr (kj (Ny ⟨rfl,K3.g _,I3,?_⟩))
    dsimp only at p3 ⊢
    lia
 ·rintro⟨c1,i,j,out,mg⟩ st1 ⟨rfl,K1,I1,px⟩
  dsimp only at px
  lia
 rintro⟨c1,i,j,out,mg⟩ st1 ⟨q,e,K1,r⟩
 dsimp only at e
 subst e
 exact Ny (h q st1 K1 r)
end
def R(rk:Nm->Nat)(xs:Array Nm)(i:Nat):Nat:=match xs[i]? with
 | some p=>rk p
 | none=>0
structure Kp2 (st st':Nu):Prop where
 k:kindOf st'=kindOf st
 p:ND st'=ND st
 f:N6 st'=N6 st
 a:(Nn st').Perm (Nn st)
theorem Kp2.bz {st:Nu}:Kp2 st st:=⟨rfl,rfl,rfl,Mb _⟩
theorem Kp2.trans {s1 s2 s3:Nu}(h:Kp2 s1 s2)(g:Kp2 s2 s3):Kp2 s1 s3:=⟨g.k.trans h.k,g.p.trans h.p,g.f.trans h.f,g.a.trans h.a⟩
theorem Kp2.size {st st':Nu}(h:Kp2 st st'):(Nn st').size=(Nn st).size:=h.a.size_eq
section
variable{rk:Nm->Nat}
theorem cw{xs ys:Array Nm}{i j:Nat}(h:xs[i]?=ys[j]?):R rk xs i=R rk ys j:=by unfold R;rw[h]
theorem yb{xs:Array Nm}{i j:Nat}(hj:j<=xs.size)(k:Nat):R rk (mirror xs i j ((j - i) / 2)) k=if i<=k/\k < j then R rk xs (i + j - 1 - k)else R rk xs k:=by
 have:=Se (i:=i) hj k
 split at this <;> rename_i h
 ·rw[if_pos h];exact cw this
 rw[if_neg h];exact cw this
theorem xM{xs:Array Nm}{src d:Nat}(hs:src < xs.size)(hd:d<=src)(k:Nat):R rk (TB xs src d) k=if k=src - d then R rk xs src else if src - d < k/\k<=src then R rk xs (k - 1)else R rk xs k:=by
 have:=TC hs d hd k
 split at this
 ·rename_i h;rw[if_pos h];exact cw this
 rename_i h
 rw[if_neg h]
 split at this
 ·rename_i h2;rw[if_pos h2];exact cw this
 rename_i h2;rw[if_neg h2];exact cw this
def bD(rk:Nm->Nat)(xs:Array Nm)(lo n:Nat):Prop:=∀ i j,i<=j->j < n->R rk xs (lo + i)<=R rk xs (lo + j)
def qK(rk:Nm->Nat)(xs:Array Nm)(lo n:Nat):Prop:=∀ i j,i<=j->j < n->R rk xs (lo + j)<=R rk xs (lo + i)
end
structure Within (st st':Nu) (lo n:Nat):Prop where
 kp:Kp2 st st'
 out:∀ k,(k < lo\/lo + n<=k)->(Nn st')[k]?=(Nn st)[k]?
theorem Within.bz {st:Nu}{lo n:Nat}:Within st st lo n:=⟨.bz,fun _ _=>rfl⟩
theorem Within.trans {s1 s2 s3:Nu}{lo n:Nat}(h:Within s1 s2 lo n)(g:Within s2 s3 lo n):Within s1 s3 lo n:=⟨h.kp.trans g.kp,fun k hk=>(g.out k hk).trans (h.out k hk)⟩
section
variable{M:Po}{A:NH}{E:Nf->Ni->Prop}{s:Ni}{kd:OC}{rk:Nm->Nat}{S:Nm->Prop}
def jv(S:Nm->Prop)(st:Nu):Prop:=∀ p∈(Nn st).toList,S p
theorem jv.at {st:Nu}(h:jv S st){i:Nat}{p:Nm}(e:(Nn st)[i]?=some p):S p:=h p (by rw[<-e_]at e;exact y_ e)
theorem jv.kp {st st':Nu}(h:jv S st)(k:Kp2 st st'):jv S st':=fun p hp=>h p ((J9.mp k.a).mem_iff.mp hp)
theorem fg{i j:Nat}{st:Nu}{Q:Option Bool->Nu->Prop}(L:bU M A E s kd rk S)(hk:kindOf st=kd)(hS:jv S st)(hi:i < (Nn st).size)(hj:j < (Nn st).size)(q:Q (some (decide (R rk (Nn st) i < R rk (Nn st) j))) st):wpS M A E s (TF i j) Q st:=by
 rw[ltAt'_eq]
 refine Nr (PV ?_)
 have e1:(Nn st)[i]?=some (Nn st)[i]:=gV hi
 have e2:(Nn st)[j]?=some (Nn st)[j]:=gV hj
 refine Nr (aJ e1 (Nr (aJ e2 (L _ _ st _ (hS.at e1) (hS.at e2) hk ?_))))
 unfold R at q
 rw[e1,e2]at q
 exact q
theorem zX{i j lo n:Nat}{st:Nu}{Q:Unit->Nu->Prop}(hl:lo<=i)(hj:j<=lo + n)(hsz:j<=(Nn st).size)(h:∀ st',Within st st' lo n->(∀ k,R rk (Nn st') k=if i<=k/\k < j then R rk (Nn st) (i + j - 1 - k)else R rk (Nn st) k)->Q () st'):wpS M A E s (PK i j) Q st:=by
 rw[reverseSlice'_eq]
 refine Qu (h _ ⟨⟨rfl,rfl,rfl,mirror_perm _ _ _ _⟩,fun k hk=>?_⟩ fun k=>yb hsz k)
 show(mirror (Nn st) i j ((j - i) / 2))[k]?=_
 rw[Se hsz,if_neg (by lia)]
theorem BP{lo n ok:Nat}{st:Nu}{Q:Bool->Nu->Prop}(L:bU M A E s kd rk S)(hk:kindOf st=kd)(hS:jv S st)(hn:lo + n<=(Nn st).size)(hok:ok<=n)(hs:bD rk (Nn st) lo ok)
  (h:∀ st',Within st st' lo n->bD rk (Nn st') lo n->Q true st'):wpS M A E s (Vq lo n ok) Q st:=by
 rw[binarySort'_eq]
 refine Nr (Ov (N4 (I:=fun k c st'=>c=(none,())/\Within st st' lo n/\bD rk (Nn st') lo k) (Q:=fun c st'=>c=(none,())/\Within st st' lo n/\bD rk (Nn st') lo (max (max ok 1) n)) ?_ (fun c st' z=>z) ⟨rfl,.bz,fun i j h1 h2=>?_⟩) ?_)
 ·rintro k c st1 hk1 hk2 ⟨rfl,W,s1⟩
  have sz1:=W.kp.size
  have hS1:=hS.kp W.kp
  refine Nr (Ov (N4 (I:=fun x c st'=>st'=st1/\∃ l r,c=(none,l,r)/\l<=r/\r<=k/\r - l<=k - x/\(∀ i,i < l->R rk (Nn st1) (lo + i)<=R rk (Nn st1) (lo + k))/\(∀ i,r<=i->i < k->R rk (Nn st1) (lo + k) < R rk (Nn st1) (lo + i)))
   (Q:=fun c st'=>st'=st1/\∃ l,c=(none,l,l)/\l<=k/\(∀ i,i < l->R rk (Nn st1) (lo + i)<=R rk (Nn st1) (lo + k))/\(∀ i,l<=i->i < k->R rk (Nn st1) (lo + k) < R rk (Nn st1) (lo + i))) ?_ ?_ ⟨rfl,0,k,rfl,G_ _,d_ _,by lia,fun i hi=>by lia,fun i h1 h2=>by lia⟩) ?_)
  ·rintro x c st2 _ hx ⟨rfl,l,r,rfl,g1,g2,g3,g4,g5⟩
   dsimp only
   by_cases z:l>=r
   ·rw[if_pos z]
    have e:l=r:=by lia
    subst e
    exact Ny ⟨rfl,l,rfl,g2,g4,g5⟩
   rw[if_neg z]
   have m1:l<=(l + r) / 2:=by omega
   have m2:(l + r) / 2 < r:=by omega
   generalize (l + r) / 2=m at m1 m2 ⊢
   have m3:=x_ m2 g2
   have sz:∀ {y},y<=k->lo + y < (Nn st2).size:=fun h=>by lia
   refine Nr (fg L (W.kp.k.trans hk) hS1 (sz (d_ _)) (sz (Jd m3)) ?_)
   dsimp only
   by_cases w:R rk (Nn st2) (lo + k) < R rk (Nn st2) (lo + m)
   ·rw[decide_eq_true w,if_pos rfl]
    exact Ny ⟨rfl,l,m,rfl,m1,Jd m3,by lia,g4,fun i h1 h2=>x_ w (s1 m i h1 h2)⟩
   rw[decide_eq_false w,if_neg (by simp)]
   exact Ny ⟨rfl,m + 1,r,rfl,m2,g2,by lia,fun i hi=>v_ (s1 i m (Lc hi) m3) (Jo w),g5⟩
  ·rintro c st2 ⟨rfl,l,r,rfl,g1,g2,g3,g4,g5⟩
   have e:l=r:=by lia
   subst e
   exact⟨rfl,l,rfl,g2,g4,g5⟩
  rintro c st2 ⟨rfl,l,rfl,g2,g4,g5⟩
  dsimp only
  rw[moveDown'_eq]
  have hk1:lo + k < (Nn st2).size:=by lia
  have e0:lo + k - (lo + k - (lo + l))=lo + l:=Nat.sub_sub_self (KP g2 lo)
  have hb:∀ j,R rk (TB (Nn st2) (lo + k) (lo + k - (lo + l))) (lo + j)=if j=l then R rk (Nn st2) (lo + k)else if l < j/\j<=k then R rk (Nn st2) (lo + (j - 1))else R rk (Nn st2) (lo + j):=fun j=>by
   rw[xM hk1 (JV ..),e0]
   by_cases c1:j=l
   ·rw[if_pos c1,if_pos (congrArg (lo + ·) c1)]
   rw[if_neg c1,if_neg (fun z=>c1 (Nat.add_left_cancel z))]
   by_cases c2:l < j/\j<=k
   ·rw[if_pos c2,if_pos ⟨Ls c2.1 lo,KP c2.2 lo⟩,MF (Nat.one_le_of_lt c2.1)]
   rw[if_neg c2,if_neg (fun z=>c2 ⟨Nat.lt_of_add_lt_add_left z.1,Nat.le_of_add_le_add_left z.2⟩)]
  refine Nr (Qu (Ny ⟨rfl,W.trans ⟨⟨rfl,rfl,rfl,bubble_perm _ _ _⟩,fun j hj=>?_⟩,fun i j hij hj=>?_⟩))
  ·show(TB (Nn st2) (lo + k) (lo + k - (lo + l)))[j]?=_
   rw[TC hk1 _ (JV ..),e0,if_neg (by lia),if_neg (by lia)]
  show R rk (TB (Nn st2) (lo + k) (lo + k - (lo + l))) (lo + i)<=R rk (TB (Nn st2) (lo + k) (lo + k - (lo + l))) (lo + j)
  rw[hb,hb]
  have ss:∀ p q,p<=q->q < k->R rk (Nn st2) (lo + p)<=R rk (Nn st2) (lo + q):=s1
  have hj:j<=k:=Lc hj
  have dn:∀ {x},l < x->x<=k->x - 1 < k:=fun a b=>x_ (Nat.sub_one_lt_of_lt a) b
  by_cases i1:i < l
  ·rw[if_neg (r_ i1),if_neg (fun z=>Nat.lt_asymm z.1 i1)]
   by_cases j2:j=l
   ·rw[if_pos j2]
    exact g4 i i1
   rw[if_neg j2]
   by_cases j1:l < j
   ·rw[if_pos ⟨j1,hj⟩]
    exact ss i (j - 1) (Ln (Ll i1 j1)) (dn j1 hj)
   rw[if_neg (fun z=>j1 z.1)]
   exact ss i j hij (x_ (JS (Jo j1) j2) g2)
  by_cases i2:i=l
  ·rw[if_pos i2]
   by_cases j2:j=l
   ·rw[if_pos j2]
    exact d_ _
   have j1:l < j:=JS (i2 ▸ hij) (fun z=>j2 z.symm)
   rw[if_neg j2,if_pos ⟨j1,hj⟩]
   exact Jd (g5 (j - 1) (Ln j1) (dn j1 hj))
  have i3:l < i:=JS (Jo i1) (fun z=>i2 z.symm)
  have j1:=x_ i3 hij
  rw[if_neg i2,if_pos ⟨i3,v_ hij hj⟩,if_neg (fun z=>JZ _ (z ▸ j1)),if_pos ⟨j1,hj⟩]
  exact ss (i - 1) (j - 1) (Mn hij 1) (dn j1 hj)
 ·by_cases z:1<=ok
  ·rw[Nat.max_eq_left z]at h2
   exact hs i j h1 h2
  have:i=j:=by lia
  subst this
  exact d_ _
 rintro c st1 ⟨rfl,W,s1⟩
 exact Ny (h st1 W fun i j h1 h2=>s1 i j h1 (by lia))
end
theorem wm{l x:Nat}(h:1<=x):l + (x - 1)=l + x - 1:=(MF h l).symm
theorem DE{l k:Nat}(h:l<=k):l + (k - l)=k:=KR h
theorem HW{l a i:Nat}(h:i < a):l + (l + a) - 1 - (l + i)=l + (a - 1 - i):=by lia
theorem EU{l x k:Nat}(h0:l<=k)(h:k < l + x):k - l < x:=KZ h0 h
noncomputable def yP(l0 a0 q0:Nat):StateT Nu Sem (Option Nat):=do
 let mut n:=a0
 for _ in [a0:q0]do
  let some sm <-TF (l0 + n) (l0 + n - 1) | return none
  if sm then break
  n:=n + 1
 return some n
def pA(l0 a0 q0:Nat):StateT Nu Sem (Option Nat):=do
 PK l0 (l0 + a0)
 yP l0 a0 q0
noncomputable def oQ(l0 a0 q0:Nat):StateT Nu Sem (Option Nat):=do
 rule "list.sort.descending-run"
 let mut n:=a0 + 1
 let mut eq:=0
 for _ in [n:q0]do
  let some sm <-TF (l0 + n) (l0 + n - 1) | return none
  if sm then
   if eq > 0 then PK (l0 + n - (eq + 1)) (l0 + n)
   eq:=0
  else
   let some la <-TF (l0 + n - 1) (l0 + n) | return none
   if la then break
   eq:=eq + 1
  n:=n + 1
 if eq > 0 then
  PK (l0 + n - (eq + 1)) (l0 + n)
  pA l0 n q0
 else pA l0 n q0
theorem Gz(l0 q0:Nat):Ug l0 q0=(do
 let mut n:=1
 for _ in [1:q0]do
  let some sm <-TF (l0 + n) (l0 + n - 1) | return none
  if sm then break
  n:=n + 1
 if n == q0 then return some n
 if n > 1 then
  let some ro <-TF l0 (l0 + n - 1) | return none
  if ro then return some n
  PK l0 (l0 + n)
  oQ l0 n q0
 else oQ l0 n q0):=rfl
section
variable{M:Po}{A:NH}{E:Nf->Ni->Prop}{s:Ni}{kd:OC}{rk:Nm->Nat}{S:Nm->Prop}
theorem bD.snoc {xs:Array Nm}{lo n:Nat}(h:bD rk xs lo n)(h1:1<=n)(k:R rk xs (lo + n - 1)<=R rk xs (lo + n)):bD rk xs lo (n + 1):=fun i j hij hj=>by
 by_cases z:j < n
 ·exact h i j hij z
 have e:j=n:=by lia
 subst e
 by_cases w:i=j
 ·subst w;exact d_ _
 have:=h i (j - 1) (by lia) (by lia)
 rw[wm h1]at this
 exact v_ this k
theorem yI{l0 a0 q0:Nat}{st:Nu}{Q:Option Nat->Nu->Prop}(L:bU M A E s kd rk S)(hk:kindOf st=kd)(hS:jv S st)(hsz:l0 + q0<=(Nn st).size)(h1:1<=a0)(h2:a0<=q0)(hs:bD rk (Nn st) l0 a0)
  (h:∀ n,a0<=n->n<=q0->bD rk (Nn st) l0 n->Q (some n) st):wpS M A E s (yP l0 a0 q0) Q st:=by
 unfold yP
 dsimp only
 refine Nr (Ov (N4 (I:=fun x c st'=>st'=st/\c=(none,x)/\bD rk (Nn st) l0 x) (Q:=fun c st'=>st'=st/\∃ n,c=(none,n)/\a0<=n/\n<=q0/\bD rk (Nn st) l0 n) ?_ ?_ ⟨rfl,rfl,hs⟩) ?_)
 ·rintro x c st1 hx1 hx2 ⟨rfl,rfl,s1⟩
  dsimp only
  refine Nr (fg L hk hS (by lia) (by lia) ?_)
  dsimp only
  by_cases w:R rk (Nn st1) (l0 + x) < R rk (Nn st1) (l0 + x - 1)
  ·rw[decide_eq_true w,if_pos rfl]
   exact Ny ⟨rfl,x,rfl,hx1,by lia,s1⟩
  rw[decide_eq_false w,if_neg (by simp)]
  exact Ny ⟨rfl,rfl,s1.snoc (by lia) (by lia)⟩
 ·rintro c st1 ⟨rfl,rfl,s1⟩
  rw[LZ h2]at s1 ⊢
  exact⟨rfl,q0,rfl,h2,d_ _,s1⟩
 rintro c st1 ⟨rfl,n,rfl,g1,g2,g3⟩
 exact Ny (h n g1 g2 g3)
theorem nj{l0 a0 q0:Nat}{st:Nu}{Q:Option Nat->Nu->Prop}(L:bU M A E s kd rk S)(hk:kindOf st=kd)(hS:jv S st)(hsz:l0 + q0<=(Nn st).size)(h1:1<=a0)(h2:a0<=q0)(hs:qK rk (Nn st) l0 a0)
  (h:∀ n st',a0<=n->n<=q0->Within st st' l0 q0->bD rk (Nn st') l0 n->Q (some n) st'):wpS M A E s (pA l0 a0 q0) Q st:=by
 unfold pA
 refine Nr (zX (rk:=rk) (lo:=l0) (n:=q0) (d_ _) (by lia) (by lia) fun st1 W1 r1=>?_)
 refine yI L (W1.kp.k.trans hk) (hS.kp W1.kp) (by rw[W1.kp.size];exact hsz) h1 h2 (fun i j hij hj=>?_) fun n g1 g2 g3=>h n st1 g1 g2 W1 g3
 have hi:=Jq hij hj
 rw[r1,r1,if_pos ⟨LW ..,Ls hi l0⟩,if_pos ⟨LW ..,Ls hj l0⟩,HW hi,HW hj]
 exact hs (a0 - 1 - j) (a0 - 1 - i) (Nat.sub_le_sub_left hij _) (Jq (JV _ _) (LQ h1 Kn))
theorem l4{i j lo n:Nat}{st:Nu}{Q:Unit->Nu->Prop}(hl:lo<=i)(hj:j<=lo + n)(hsz:j<=(Nn st).size)(heq:∀ k,i<=k->k < j->R rk (Nn st) k=R rk (Nn st) (j - 1))(h:∀ st',Within st st' lo n->(∀ k,R rk (Nn st') k=R rk (Nn st) k)->Q () st'):wpS M A E s (PK i j) Q st:=by
 refine zX (rk:=rk) hl hj hsz fun st1 W r1=>h st1 W fun k=>?_
 rw[r1]
 split
 ·rename_i z
  rw[heq k z.1 z.2,heq (i + j - 1 - k) (by(clear r1 W h heq hsz hj hl;lia)) (by(clear r1 W h heq hsz hj hl;lia))]
 rfl
theorem qK.snoc {xs:Array Nm}{lo n:Nat}(h:qK rk xs lo n)(h1:1<=n)(k:R rk xs (lo + n)<=R rk xs (lo + n - 1)):qK rk xs lo (n + 1):=fun i j hij hj=>by
 by_cases z:j < n
 ·exact h i j hij z
 have e:j=n:=by lia
 subst e
 by_cases w:i=j
 ·subst w;exact d_ _
 have:=h i (j - 1) (by lia) (by lia)
 rw[show lo + (j - 1)=lo + j - 1 by lia]at this
 exact v_ k this
theorem nB{l0 a0 q0:Nat}{st:Nu}{Q:Option Nat->Nu->Prop}(L:bU M A E s kd rk S)(hk:kindOf st=kd)(hS:jv S st)(hsz:l0 + q0<=(Nn st).size)(h2:a0 + 1<=q0)(hs:qK rk (Nn st) l0 (a0 + 1))(hr:∀ x,Nl M A (rule x) (fun _ s'=>s'=s) E s)
  (h:∀ n st',1<=n->n<=q0->Within st st' l0 q0->bD rk (Nn st') l0 n->Q (some n) st'):wpS M A E s (oQ l0 a0 q0) Q st:=by
 unfold oQ
 refine Nr (Q9 (NN (hr _) (fun _ _ z=>⟨z,?_⟩) fun _ _ z=>z))
 dsimp only
 refine Nr (Ov (N4 (I:=fun x c st'=>∃ eq,c=(none,x,eq)/\Within st st' l0 q0/\qK rk (Nn st') l0 x/\eq + 1<=x/\∀ k,x - 1 - eq<=k->k < x->R rk (Nn st') (l0 + k)=R rk (Nn st') (l0 + (x - 1)))
  (Q:=fun c st'=>∃ n eq,c=(none,n,eq)/\a0 + 1<=n/\n<=q0/\Within st st' l0 q0/\qK rk (Nn st') l0 n/\eq + 1<=n/\∀ k,n - 1 - eq<=k->k < n->R rk (Nn st') (l0 + k)=R rk (Nn st') (l0 + (n - 1))) ?_ ?_ ⟨0,rfl,.bz,hs,by lia,fun k h1 h2=>by rw[show k=a0 + 1 - 1 by lia]⟩) ?_)
 ·rintro x c st1 hx1 hx2 ⟨eq,rfl,W,d1,e1,ev⟩
  dsimp only
  have hk1:=W.kp.k.trans hk
  have hS1:=hS.kp W.kp
  have sz1:=W.kp.size
  have x1:1<=x:=v_ (MP 1 eq) e1
  have b1:l0 + x < (Nn st1).size:=by lia
  have b2:l0 + x - 1 < (Nn st1).size:=Jq (JV ..) b1
  refine Nr (fg L hk1 hS1 b1 b2 ?_)
  dsimp only
  by_cases w:R rk (Nn st1) (l0 + x) < R rk (Nn st1) (l0 + x - 1)
  ·rw[decide_eq_true w,if_pos rfl]
   have fin:∀ st2,Within st st2 l0 q0->(∀ k,R rk (Nn st2) k=R rk (Nn st1) k)->∃ eq',((none,x + 1,0):Option (Option Nat) × Nat × Nat)=(none,x + 1,eq')/\Within st st2 l0 q0/\qK rk (Nn st2) l0 (x + 1)/\eq' + 1<=x + 1/\∀ k,x + 1 - 1 - eq'<=k->k < x + 1->R rk (Nn st2) (l0 + k)=R rk (Nn st2) (l0 + (x + 1 - 1)):=fun st2 W2 r2=>by
    refine⟨0,rfl,W2,fun i j hij hj=>?_,by lia,fun k h1 h2=>by rw[show k=x + 1 - 1 by lia]⟩
    rw[r2,r2]
    exact d1.snoc x1 (Jd w) i j hij hj
   by_cases z:eq > 0
   ·rw[if_pos z]
    refine Nr (l4 (rk:=rk) (lo:=l0) (n:=q0) (by lia) (by lia) (by lia) (fun k h1 h2=>?_) fun st2 W2 r2=>Ny (fin st2 (W.trans W2) r2))
    have k0:l0<=k:=by lia
    have:=ev (k - l0) (by lia) (EU k0 h2)
    rw[DE k0,wm x1]at this
    exact this
   rw[if_neg z]
   exact Ny (fin st1 W fun _=>rfl)
  rw[decide_eq_false w,if_neg (by simp)]
  refine Nr (fg L hk1 hS1 b2 b1 ?_)
  dsimp only
  by_cases v:R rk (Nn st1) (l0 + x - 1) < R rk (Nn st1) (l0 + x)
  ·rw[decide_eq_true v,if_pos rfl]
   exact Ny ⟨x,eq,rfl,hx1,by lia,W,d1,e1,ev⟩
  rw[decide_eq_false v,if_neg (by simp)]
  have ee:R rk (Nn st1) (l0 + x)=R rk (Nn st1) (l0 + x - 1):=MQ (Jo v) (Jo w)
  refine Ny ⟨eq + 1,rfl,W,d1.snoc x1 (K4 ee),by lia,fun k h1 h2=>?_⟩
  rw[show l0 + (x + 1 - 1)=l0 + x by lia]
  by_cases y:k=x
  ·rw[y]
  have:=ev k (by lia) (by lia)
  rw[wm x1]at this
  exact this.trans ee.symm
 ·rintro c st1 ⟨eq,rfl,W,d1,e1,ev⟩
  rw[LZ h2]at d1 e1 ev ⊢
  exact⟨q0,eq,rfl,h2,d_ _,W,d1,e1,ev⟩
 rintro c st1 ⟨n,eq,rfl,g1,g2,W,d1,e1,ev⟩
 have sz1:=W.kp.size
 dsimp only
 by_cases z:eq > 0
 ·rw[if_pos z]
  refine Nr (l4 (rk:=rk) (lo:=l0) (n:=q0) (by lia) (by lia) (by lia) (fun k h1 h2=>?_) fun st2 W2 r2=>?_)
  ·have k0:l0<=k:=by lia
   have:=ev (k - l0) (by lia) (EU k0 h2)
   rw[DE k0,wm (v_ (MP 1 eq) e1)]at this
   exact this
  refine nj L ((W.trans W2).kp.k.trans hk) (hS.kp (W.trans W2).kp) (by rw[(W.trans W2).kp.size];exact hsz) (by lia) g2 (fun i j hij hj=>by rw[r2,r2];exact d1 i j hij hj) fun m st3 k1 k2 W3 s3=>h m st3 (by lia) k2 ((W.trans W2).trans W3) s3
 rw[if_neg z]
 exact nj L (W.kp.k.trans hk) (hS.kp W.kp) (by rw[sz1];exact hsz) (by lia) g2 d1 fun m st3 k1 k2 W3 s3=>h m st3 (by lia) k2 (W.trans W3) s3
theorem qH{l0 q0:Nat}{st:Nu}{Q:Option Nat->Nu->Prop}(L:bU M A E s kd rk S)(hk:kindOf st=kd)(hS:jv S st)(hsz:l0 + q0<=(Nn st).size)(h1:1<=q0)(hr:∀ x,Nl M A (rule x) (fun _ s'=>s'=s) E s)
  (h:∀ n st',1<=n->n<=q0->Within st st' l0 q0->bD rk (Nn st') l0 n->Q (some n) st'):wpS M A E s (Ug l0 q0) Q st:=by
 rw[Gz]
 dsimp only
 refine Nr (Ov (N4 (I:=fun x c st'=>st'=st/\c=(none,x)/\bD rk (Nn st) l0 x) (Q:=fun c st'=>st'=st/\∃ n,c=(none,n)/\1<=n/\n<=q0/\bD rk (Nn st) l0 n/\(n=q0\/R rk (Nn st) (l0 + n) < R rk (Nn st) (l0 + n - 1))) ?_ ?_ ⟨rfl,rfl,fun i j h1 h2=>by rw[show i=j by lia];exact d_ _⟩) ?_)
 ·rintro x c st1 hx1 hx2 ⟨rfl,rfl,s1⟩
  dsimp only
  refine Nr (fg L hk hS (by lia) (by lia) ?_)
  dsimp only
  by_cases w:R rk (Nn st1) (l0 + x) < R rk (Nn st1) (l0 + x - 1)
  ·rw[decide_eq_true w,if_pos rfl]
   exact Ny ⟨rfl,x,rfl,hx1,by lia,s1,.inr w⟩
  rw[decide_eq_false w,if_neg (by simp)]
  exact Ny ⟨rfl,rfl,s1.snoc (by(clear w s1 h hsz hS hk hx2 hr h1 L;omega)) (by lia)⟩
 ·rintro c st1 ⟨rfl,rfl,s1⟩
  rw[LZ h1]at s1 ⊢
  exact⟨rfl,q0,rfl,h1,d_ _,s1,.inl rfl⟩
 rintro c st1 ⟨rfl,n,rfl,g1,g2,g3,g4⟩
 dsimp only
 by_cases e:n=q0
 ·rw[if_pos (by rw[e];exact beq_self_eq_true _)]
  exact Ny (h n st1 g1 g2 .bz g3)
 rw[if_neg (by simpa using e)]
 have lt:=g4.resolve_left e
 by_cases z:n > 1
 ·rw[if_pos z]
  refine Nr (fg L hk hS (by lia) (by(clear lt e g4 g3 g1 h hS hk hr h1 L;lia)) ?_)
  dsimp only
  by_cases w:R rk (Nn st1) l0 < R rk (Nn st1) (l0 + n - 1)
  ·rw[decide_eq_true w,if_pos rfl]
   exact Ny (h n st1 g1 g2 .bz g3)
  rw[decide_eq_false w,if_neg (by simp)]
  have all:∀ k,l0<=k->k < l0 + n->R rk (Nn st1) k=R rk (Nn st1) (l0 + n - 1):=fun k h1 h2=>by
   have kn:=EU h1 h2
   have a:=g3 0 (k - l0) (G_ _) kn
   have b:=g3 (k - l0) (n - 1) (Ln kn) (LQ g1 Kn)
   rw[DE h1]at a b
   rw[wm g1]at b
   rw[L0]at a
   exact MQ b (v_ (Jo w) a)
  refine Nr (l4 (rk:=rk) (lo:=l0) (n:=q0) (d_ _) (by(clear all w z lt e g4 g3 g1 h hsz hS hk hr h1 L;lia)) (by(clear all w z lt e g4 g3 g1 h hS hk hr h1 L;lia)) all fun st2 W2 r2=>?_)
  refine nB L (W2.kp.k.trans hk) (hS.kp W2.kp) (by rw[W2.kp.size];exact hsz) (by lia) (fun i j hij hj=>?_) hr fun m st3 k1 k2 W3 s3=>h m st3 k1 k2 (W2.trans W3) s3
  rw[r2,r2]
  by_cases y:j < n
  ·rw[all (l0 + i) (by lia) (by lia),all (l0 + j) (by lia) (by(clear hj hij r2 W2 all w z lt e g4 g3 g2 g1 h hsz hS hk hr h1 L;lia))]
   exact d_ _
  rw[show j=n by lia]
  by_cases y2:i < n
  ·rw[all (l0 + i) (by lia) (by(clear y hj hij r2 W2 all w z lt e g4 g3 g2 g1 h hsz hS hk hr h1 L;lia))];exact Jd lt
  rw[show i=n by(clear y r2 W2 all w z lt e g4 g3 g2 g1 h hsz hS hk hr h1 L;lia)];exact d_ _
 rw[if_neg z]
 have n1:n=1:=by lia
 subst n1
 refine nB L hk hS hsz (by lia) (fun i j hij hj=>?_) hr fun m st3 k1 k2 W3 s3=>h m st3 k1 k2 W3 s3
 by_cases y:i=j
 ·rw[y];exact d_ _
 rw[show i=0 by lia,show j=1 by lia]
 exact Jd lt
end
def wrote(xs:Array Nm)(q:Nat)(ys:Array Nm):Array Nm:=ys.toList.zipIdx.foldl (fun u (p,j)=>u.setIfInBounds (q + j) p) xs
theorem DX(i:Nat):R3 i=(do
 let st <-get
 let (some (s1,n1,pw),some (s2,n2,_)):=((ND st)[i]?,(ND st)[i + 1]?) | unsupported "internal:list.sort.pending"
 set (O2 (kindOf st) (Nn st) (((ND st).setIfInBounds i (s1,n1 + n2,pw)).eraseIdxIfInBounds (i + 1)) (Q8 st) (N6 st))
 let some k <-gal false (<-N5 (Nn st) s2) (Nn st) s1 n1 0 | return false
 let (s1,n1):=(s1 + k,n1 - k)
 if n1 == 0 then return true
 let some n2 <-gal true (<-N5 (Nn st) (s1 + n1 - 1)) (Nn st) s2 n2 (n2 - 1) | return false
 if n2 == 0 then return true
 let x:=(Nn st).extract s1 s2
 let y:=(Nn st).extract s2 (s2 + n2)
 let mm <-if n1<=n2 then mLo x y else mHi x y
 modify fun z=>setArr z (wrote (Nn z) s1 mm)
 return (N6 (<-get)).isNone):=rfl
theorem nz(q:Nat):∀(l:List Nm) (n:Nat) (xs:Array Nm),q + n + l.length<=xs.size->((l.zipIdx n).foldl (fun u (p,j)=>u.setIfInBounds (q + j) p) xs).toList=xs.toList.take (q + n)++(l++xs.toList.drop (q + n + l.length))
 | [],n,xs,_=>by
  simp
 | p::t,n,xs,h=>by
  rw[i_]at h
  rw[LV,Lk,nz q t (n + 1) _ (by rw[L3];lia),LL]
  have hl:q + n < xs.toList.length:=by rw[f'];lia
  rw[show q + (n + 1)=q + n + 1 by lia,JY,List.take_set_of_le (d_ _),Kl hl,List.drop_set_of_lt (by lia),i_,show q + n + 1 + t.length=q + n + (t.length + 1) by lia]
  simp
theorem u7{xs ys:Array Nm}{q:Nat}(h:q + ys.size<=xs.size):(wrote xs q ys).toList=xs.toList.take q++(ys.toList++xs.toList.drop (q + ys.size)):=by
 have:=nz q ys.toList 0 xs (by rw[f'];exact h)
 rw[f']at this
 exact this
theorem ze{a b c:List Nm}{i:Nat}(h:a.length=b.length)(hi:a.length<=i):(a++c)[i]?=(b++c)[i]?:=by rw[Ju hi,Ju (by lia),h]
section
variable{rk:Nm->Nat}
theorem vQ{xs:Array Nm}{i:Nat}{p:Nm}(h:xs.toList[i]?=some p):R rk xs i=rk p:=by
 unfold R
 rw[<-e_,h]
theorem eW{xs:Array Nm}{lo n:Nat}(h:bD rk xs lo n):Srt rk ((xs.toList.drop lo).take n):=by
 refine K0.mpr fun i j hi hj hij=>?_
 have hj':j < n:=by rw[Jc]at hj;lia
 have ei:=a_ hi
 have ej:=a_ hj
 rw[Kk,if_pos (by lia),Kj]at ei ej
 have:=h i j (by lia) hj'
 rw[vQ ei,vQ ej]at this
 exact this
theorem pN{l k n:Nat}(h:k<=n):l + k + (n - k)=l + n:=by rw[Le,KR h]
theorem zo{xs:Array Nm}{lo n:Nat}(hn:lo + n<=xs.size)(h:Srt rk ((xs.toList.drop lo).take n)):bD rk xs lo n:=by
 intro i j hij hj
 by_cases e:i=j
 ·rw[e];exact d_ _
 have len:((xs.toList.drop lo).take n).length=n:=by rw[Jc,Jl,f'];lia
 have hi':i < ((xs.toList.drop lo).take n).length:=by lia
 have hj':j < ((xs.toList.drop lo).take n).length:=by lia
 have:=K0.mp h i j hi' hj' (by lia)
 have ei:=a_ hi'
 have ej:=a_ hj'
 rw[Kk,if_pos (by lia),Kj]at ei ej
 rw[vQ ei,vQ ej]
 exact this
theorem rb{xs:Array Nm}{lo n m:Nat}(h1:bD rk xs lo n)(h2:bD rk xs (lo + n) m)(h:∀ i j,i < n->j < m->R rk xs (lo + i)<=R rk xs (lo + n + j)):bD rk xs lo (n + m):=by
 intro i j hij hj
 by_cases z:j < n
 ·exact h1 i j hij z
 by_cases w:i < n
 ·have:=h i (j - n) w (KZ (Jo z) hj)
  rw[pN (Jo z)]at this
  exact this
 have:=h2 (i - n) (j - n) (Mn hij n) (KZ (Jo z) hj)
 rw[pN (Jo z),pN (Jo w)]at this
 exact this
theorem gU{T:List Nm}{lo k n:Nat}(h:k<=n):(T.drop lo).take n=(T.drop lo).take k++(T.drop (lo + k)).take (n - k):=by
 conv=>lhs;rw[show n=k + (n - k)from(KR h).symm,LK,K_]
theorem merged{xs r:Array Nm}{lo k n m c:Nat}(hk:k<=n)(hc:c<=m)(hsz:lo + n + m<=xs.size)(o1:bD rk xs lo n)(o2:bD rk xs (lo + n) m)
  (a1:∀ p∈(xs.toList.drop lo).take k,∀ q∈(xs.toList.drop (lo + n)).take m,rk p<=rk q) (a2:∀ p∈(xs.toList.drop lo).take n,∀ q∈(xs.toList.drop (lo + n + c)).take (m - c),rk p<=rk q)
  (hr:Res rk ((xs.toList.drop (lo + k)).take (n - k)) ((xs.toList.drop (lo + n)).take c) r.toList) :
  (wrote xs (lo + k) r).Perm xs/\(∀ i,(i < lo\/lo + n + m<=i)->(wrote xs (lo + k) r)[i]?=xs[i]?)/\bD rk (wrote xs (lo + k) r) lo (n + m):=by
 have lr:r.size=n - k + c:=by
  have:=hr.1.length_eq
  rw[j',Jc,Jc,Jl,Jl,f',f']at this
  lia
 have wl:(wrote xs (lo + k) r).toList=xs.toList.take lo++((xs.toList.drop lo).take k++(r.toList++((xs.toList.drop (lo + n + c)).take (m - c)++xs.toList.drop (lo + n + m)))):=by
  rw[u7 (by lia),LK,j_,lr,<-Le,pN hk]
  congr 3
  have:=(Ja (m - c) (xs.toList.drop (lo + n + c))).symm
  rw[K_,pN hc]at this
  exact this
 have xl:xs.toList=xs.toList.take lo++((xs.toList.drop lo).take k++((xs.toList.drop (lo + k)).take (n - k)++(xs.toList.drop (lo + n)).take c++((xs.toList.drop (lo + n + c)).take (m - c)++xs.toList.drop (lo + n + m)))):=by
  have e1:=(Ja lo xs.toList).symm
  have e2:=(Ja k (xs.toList.drop lo)).symm
  have e3:=(Ja (n - k) (xs.toList.drop (lo + k))).symm
  have e4:=(Ja c (xs.toList.drop (lo + n))).symm
  have e5:=(Ja (m - c) (xs.toList.drop (lo + n + c))).symm
  rw[K_]at e2 e3 e4 e5
  rw[pN hk]at e3
  rw[pN hc]at e5
  rw[j_,<-e5,<-e4,<-e3,<-e2,<-e1]
 have sz:(wrote xs (lo + k) r).size=xs.size:=by
  have:=congrArg Ly wl
  have h2:=congrArg Ly xl
  have h3:=hr.1.length_eq
  simp only[j']at this h2 h3
  have e1:=@f' _ (wrote xs (lo + k) r)
  have e2:=@f' _ xs
  lia
 have X:(xs.toList.drop lo).take n=(xs.toList.drop lo).take k++(xs.toList.drop (lo + k)).take (n - k):=gU hk
 have Y:(xs.toList.drop (lo + n)).take m=(xs.toList.drop (lo + n)).take c++(xs.toList.drop (lo + n + c)).take (m - c):=gU hc
 have sX:=eW o1
 have sY:=eW o2
 rw[X]at sX
 rw[Y]at sY
 obtain⟨sx1,sx2,sx⟩:=F_.mp sX
 obtain⟨sy1,sy2,sy⟩:=F_.mp sY
 refine⟨J9.mpr ?_,fun i hi=>?_,zo (by lia) ?_⟩
 ·rw[wl]
  conv=>rhs;rw[xl]
  exact Js _ (Js _ (Mf _ hr.1))
 ·rw[<-e_,<-e_,wl]
  conv=>rhs;rw[xl]
  have hl1:(xs.toList.take lo).length=lo:=by rw[Jc,f'];lia
  rcases hi with hi | hi
  ·rw[JG (by lia),JG (by lia)]
  have hl2:((xs.toList.drop lo).take k).length=k:=by rw[Jc,Jl,f'];lia
  have hl3:r.toList.length=n - k + c:=by rw[f'];exact lr
  have hl4:=hr.1.length_eq
  rw[<-j_,<-j_]
  conv=>rhs;rw[<-j_,<-j_]
  refine ze ?_ ?_
  ·rw[j',j',j',j',hl4]
  rw[j',j',hl1,hl2,hl3];lia
 have hl1:(xs.toList.take lo).length=lo:=by rw[Jc,f'];lia
 have e:((wrote xs (lo + k) r).toList.drop lo).take (n + m)=(xs.toList.drop lo).take k++(r.toList++(xs.toList.drop (lo + n + c)).take (m - c)):=by
  rw[wl,List.drop_left' hl1,<-j_,<-j_,List.take_left',j_]
  rw[j',j',Jc,Jc,Jl,Jl,f',f']
  lia
 rw[e]
 have mr:∀ q∈r.toList,q∈(xs.toList.drop (lo + k)).take (n - k)\/q∈(xs.toList.drop (lo + n)).take c:=fun q hq=>F'.mp (hr.1.mem_iff.mp hq)
 refine F_.mpr ⟨sx1,F_.mpr ⟨hr.2,sy2,fun p hp q hq=>?_⟩,fun p hp q hq=>?_⟩
 ·rcases mr p hp with hp | hp
  ·exact a2 p (by rw[X];exact s_ _ hp) q hq
  exact sy p hp q hq
 rcases F'.mp hq with hq | hq
 ·rcases mr q hq with hq | hq
  ·exact sx p hp q hq
  exact a1 p hp q (by rw[Y];exact Jf _ hq)
 exact a1 p hp q (by rw[Y];exact s_ _ hq)
end
theorem BJ{α:Type}{ps:Array α}{pre post:List α}{x y:α}(h:ps.toList=pre++x::y::post):ps[pre.length]?=some x/\ps[pre.length + 1]?=some y:=by
 rw[<-e_,<-e_,h]
 constructor
 ·rw[Ju (d_ _),K6];rfl
 rw[Ju (by lia),K'];rfl
theorem wN{α:Type}{ps:Array α}{pre post:List α}{x y z:α}(h:ps.toList=pre++x::y::post):((ps.setIfInBounds pre.length z).eraseIdxIfInBounds (pre.length + 1)).toList=pre++z::post:=by
 have hs:ps.size=pre.length + (post.length + 2):=by rw[<-f',h,j'];rfl
 have hb:pre.length + 1 < (ps.setIfInBounds pre.length z).size:=by rw[L3];lia
 unfold Array.eraseIdxIfInBounds
 rw[dif_pos hb,Array.toList_eraseIdx,LL,h]
 rw[List.set_append_right _ _ (d_ _),K6,Mz,List.eraseIdx_append_of_length_le (by lia),K']
 rfl
section
variable{M:Po}{A:NH}{E:Nf->Ni->Prop}{s:Ni}{kd:OC}{rk:Nm->Nat}{S:Nm->Prop}
theorem Ee{σ:Type}{v st:σ}{Q:PUnit->σ->Prop}(q:Q ⟨⟩ v):wpS M A E s (set v:StateT σ Sem PUnit) Q st:=by
 unfold wpS
 rw[StateT.run_set]
 exact Nj ⟨rfl,q⟩
structure Mgd (rk:Nm->Nat) (st st':Nu) (lo n:Nat) (ps:List (Nat × Nat × Nat)):Prop where
 k:kindOf st'=kindOf st
 f:N6 st'=none
 p:(ND st').toList=ps
 a:(Nn st').Perm (Nn st)
 out:∀ i,(i < lo\/lo + n<=i)->(Nn st')[i]?=(Nn st)[i]?
 srt:bD rk (Nn st') lo n
theorem EZ{pre post:List (Nat × Nat × Nat)}{s1 n1 pw n2 p2:Nat}{st:Nu}{Q:Bool->Nu->Prop}(L:bU M A E s kd rk S)(hk:kindOf st=kd)(hS:jv S st)(hf:N6 st=none)(hr:∀ x,Nl M A (rule x) (fun _ s'=>s'=s) E s)
  (hp:(ND st).toList=pre++(s1,n1,pw)::(s1 + n1,n2,p2)::post) (h1:1<=n1) (h2:1<=n2) (hsz:s1 + n1 + n2<=(Nn st).size) (o1:bD rk (Nn st) s1 n1) (o2:bD rk (Nn st) (s1 + n1) n2)
  (h:∀ st',Mgd rk st st' s1 (n1 + n2) (pre++(s1,n1 + n2,pw)::post)->Q true st'):wpS M A E s (R3 pre.length) Q st:=by
 rw[DX]
 refine Nr (PV ?_)
 dsimp only
 obtain⟨e1,e2⟩:=BJ hp
 rw[e1,e2]
 dsimp only
 refine Nr (Ee ?_)
 generalize hst1:O2 (kindOf st) (Nn st) (((ND st).setIfInBounds pre.length (s1,n1 + n2,pw)).eraseIdxIfInBounds (pre.length + 1)) (Q8 st) (N6 st)=st1
 have k1:kindOf st1=kd:=by rw[<-hst1];exact hk
 have a1:Nn st1=Nn st:=by rw[<-hst1]
 have f1:N6 st1=none:=by rw[<-hst1];exact hf
 have p1:(ND st1).toList=pre++(s1,n1 + n2,pw)::post:=by rw[<-hst1];exact wN hp
 have SA:∀(i:Nat) p,(Nn st)[i]?=some p->S p:=fun i p e=>hS.at e
 have gt:∀ i,i < (Nn st).size->∃ p,(Nn st)[i]?=some p:=fun i hi=>⟨_,gV hi⟩
 have RR:∀ {i:Nat} {p:Nm},(Nn st)[i]?=some p->R rk (Nn st) i=rk p:=fun{i p} e=>by unfold R;rw[e]
 obtain⟨ky,hky⟩:=gt (s1 + n1) (by lia)
 have dI:bD rk (Nn st) s1 (n1 + n2)->Q true st1:=fun z=>h st1 ⟨k1.trans hk.symm,f1,p1,by rw[a1],fun i _=>by rw[a1],by rw[a1];exact z⟩
 refine Nr (aJ hky (Nr (fB L k1 (by lia) (by lia) SA (SA _ _ hky) (fun i j p q hij hj hp hq=>?_) fun k hk1 g1 g2=>?_)))
 ·have:=o1 i j hij hj
  rw[RR hp,RR hq]at this
  exact this
 dsimp only
 have below:∀ i,i < k->∀ j,j < n2->R rk (Nn st) (s1 + i)<=R rk (Nn st) (s1 + n1 + j):=fun i hi j hj=>by
  obtain⟨p,hp⟩:=gt (s1 + i) (by lia)
  have a:=g1 i p hi hp
  rw[if_neg (by simp)]at a
  have b:=o2 0 j (G_ _) hj
  rw[L0,RR hky]at b
  rw[RR hp]
  exact v_ a b
 by_cases z:n1 - k=0
 ·rw[if_pos (by rw[z];rfl)]
  exact Ny (dI (rb o1 o2 fun i j hi hj=>below i (by lia) j hj))
 rw[if_neg (by simpa using z)]
 obtain⟨la,hla⟩:=gt (s1 + n1 - 1) (by lia)
 rw[pN hk1]
 refine Nr (aJ hla (Nr (fB L k1 (by lia) (by omega) SA (SA _ _ hla) (fun i j p q hij hj hp hq=>?_) fun c hc1 d1 d2=>?_)))
 ·have:=o2 i j hij hj
  rw[RR hp,RR hq]at this
  exact this
 dsimp only
 have above:∀ i,i < n1->∀ j,c<=j->j < n2->R rk (Nn st) (s1 + i)<=R rk (Nn st) (s1 + n1 + j):=fun i hi j hj hj2=>by
  obtain⟨p,hp⟩:=gt (s1 + n1 + j) (by lia)
  have a:=d2 j p hj hj2 hp
  rw[if_pos rfl]at a
  have hn1:1<=n1:=by lia
  have b:=o1 i (n1 - 1) (by lia) (LQ hn1 Kn)
  rw[wm hn1,RR hla]at b
  rw[RR hp]
  exact v_ b a
 by_cases w:c=0
 ·rw[if_pos (by rw[w];rfl)]
  exact Ny (dI (rb o1 o2 fun i j hi hj=>above i hi j (by lia) hj))
 rw[if_neg (by simpa using w)]
 have ex:((Nn st).extract (s1 + k) (s1 + n1)).toList=((Nn st).toList.drop (s1 + k)).take (n1 - k):=by
  have:=hU (Nn st) (s1 + k) (n1 - k)
  rw[pN hk1]at this
  exact this
 have ey:=hU (Nn st) (s1 + n1) c
 have zx:((Nn st).extract (s1 + k) (s1 + n1)).size=n1 - k:=by rw[MA];lia
 have zy:((Nn st).extract (s1 + n1) (s1 + n1 + c)).size=c:=by rw[MA];lia
 have T2:∀ {i:Nat} {p:Nm},(Nn st).toList[i]?=some p->(Nn st)[i]?=some p:=fun{i p} e=>by rw[e_]at e;exact e
 have sX:=eW o1
 have sY:=eW o2
 rw[gU hk1]at sX
 rw[gU hc1]at sY
 have H:LoOk rk S ((Nn st).extract (s1 + k) (s1 + n1)) ((Nn st).extract (s1 + n1) (s1 + n1 + c)):=by
  refine⟨by rw[ex];exact(F_.mp sX).2.1,by rw[ey];exact(F_.mp sY).1,fun i p e=>?_,fun i p e=>?_,by lia,by lia,fun p e u hu=>?_,fun p e u hu=>?_⟩
  ·rw[Ko]at e
   split at e
   ·exact SA _ _ e
   cases e
  ·rw[Ko]at e
   split at e
   ·exact SA _ _ e
   cases e
  ·rw[Ko,if_pos (by lia),L0,hky]at e
   cases e
   rw[ex]at hu
   obtain⟨j,hj,ej⟩:=cg hu
   have:=g2 (k + j) u (by lia) (by lia) (by rw[<-Le];exact T2 ej)
   rw[if_neg (by simp)]at this
   exact Jd this
  rw[zx,Ko,if_pos (by lia),show s1 + k + (n1 - k - 1)=s1 + n1 - 1 by lia,hla]at e
  cases e
  rw[ey]at hu
  obtain⟨j,hj,ej⟩:=cg hu
  have:=d1 j u hj (T2 ej)
  rw[if_pos rfl]at this
  exact Jd this
 have fin:∀ r st2,Keep st1 st2->Res rk ((Nn st).extract (s1 + k) (s1 + n1)).toList ((Nn st).extract (s1 + n1) (s1 + n1 + c)).toList r.toList->wpS M A E s (do
   modify fun z=>setArr z (wrote (Nn z) (s1 + k) r)
   let g <-get
   pure (N6 g).isNone:StateT Nu Sem Bool) Q st2:=fun r st2 K hres=>by
  rw[ex,ey]at hres
  refine Nr (Qu (Nr (PV (Ny ?_))))
  have hf2:N6 st2=none:=K.f.trans f1
  have aa:Nn st2=Nn st:=K.a.trans a1
  have q1:∀ p∈((Nn st).toList.drop s1).take k,∀ q∈((Nn st).toList.drop (s1 + n1)).take n2,rk p<=rk q:=fun p hp q hq=>by
   obtain⟨i,hi,ei⟩:=cg hp
   obtain⟨j,hj,ej⟩:=cg hq
   have:=below i hi j hj
   rw[RR (T2 ei),RR (T2 ej)]at this
   exact this
  have q2:∀ p∈((Nn st).toList.drop s1).take n1,∀ q∈((Nn st).toList.drop (s1 + n1 + c)).take (n2 - c),rk p<=rk q:=fun p hp q hq=>by
   obtain⟨i,hi,ei⟩:=cg hp
   obtain⟨j,hj,ej⟩:=cg hq
   have:=above i hi (c + j) (by lia) (by lia)
   rw[<-Le,RR (T2 ei),RR (T2 ej)]at this
   exact this
  obtain⟨m1,m2,m3⟩:=merged (rk:=rk) (xs:=Nn st) (r:=r) (lo:=s1) (k:=k) (n:=n1) (m:=n2) (c:=c) hk1 hc1 (by omega) o1 o2 q1 q2 hres
  rw[show(N6 (setArr st2 (wrote (Nn st2) (s1 + k) r))).isNone=true by show(N6 st2).isNone=true;rw[hf2];rfl]
  refine h _ ⟨K.k.trans (k1.trans hk.symm),hf2,?_,?_,fun i hi=>?_,?_⟩
  ·show(ND st2).toList=_
   rw[K.p]
   exact p1
  ·show(wrote (Nn st2) (s1 + k) r).Perm _
   rw[aa]
   exact m1
  ·show(wrote (Nn st2) (s1 + k) r)[i]?=_
   rw[aa]
   exact m2 i (by lia)
  show bD rk (wrote (Nn st2) (s1 + k) r) _ _
  rw[aa]
  exact m3
 by_cases v:n1 - k<=c
 ·rw[if_pos v]
  exact Nr (EW L H k1 fin hr)
 rw[if_neg v]
 exact Nr (EL L H k1 fin hr)
end
abbrev CS:=Option Unit × Unit
abbrev LS:=Option Unit × Nat
noncomputable def kh(w0:Nat):StateT Nu Sem (ForInStep CS):=do
 let g <-get
 match(if(ND g).size > 1 then(ND g)[(ND g).size - 2]? else none)with
 | some (_,_,old)=>
  if old<=w0 then pure (Nw (none,()))
  else do
   let b <-R3 ((ND g).size - 2)
   if(!b)=true then pure (Nw (some (),()))else pure (NG (none,()))
 | _=>pure (Nw (none,()))
noncomputable def oy(q0 n:Nat):StateT Nu Sem (ForInStep LS):=do
 modify fun z=>setPending z ((ND z).push (q0,n,0))
 pure (NG (none,q0 + n))
noncomputable def tl(sz q0 n:Nat):StateT Nu Sem (ForInStep LS):=do
 let g <-get
 match(ND g).back? with
 | some (s1,n1,_)=>do
  let c <-forIn [0:sz] ((none,()):CS) fun _ _=>kh (power' sz (2 * s1 + n1) (2 * s1 + n1 + n1 + n) sz)
  match c.1 with
  | some r=>pure (Nw (some r,q0))
  | none=>do
   modify fun z=>setPending z ((ND z).modify ((ND z).size - 1) fun x=>(x.1,x.2.1,power' sz (2 * s1 + n1) (2 * s1 + n1 + n1 + n) sz))
   oy q0 n
 | _=>oy q0 n
noncomputable def gZ(sz q0:Nat):StateT Nu Sem (ForInStep LS):=
 if q0>=sz then pure (Nw (none,q0))else do
  let f <-Ug q0 (sz - q0)
  match f with
  | some n=>
   if n < SE sz sz 0 then do
    rule "list.sort.binary-insertion"
    let b <-Vq q0 (min (sz - q0) (SE sz sz 0)) n
    if(!b)=true then pure (Nw (some (),q0))else tl sz q0 (min (sz - q0) (SE sz sz 0))
   else tl sz q0 n
  | _=>pure (Nw (some (),q0))
noncomputable def pick(ps:Array (Nat × Nat × Nat)):Nat:=
 if M' (fun x=>decide (x < ps[ps.size - 2 + 1]?.elim 0 fun y=>y.2.1)) (if ps.size - 2 > 0 then Kb (fun y=>y.2.1) ps[ps.size - 2 - 1]? else none)=true then ps.size - 2 - 1 else ps.size - 2
noncomputable def vG:StateT Nu Sem (ForInStep CS):=do
 let g <-get
 if(ND g).size<=1 then pure (Nw (none,()))
 else do
  let b <-R3 (pick (ND g))
  if(!b)=true then pure (Nw (some (),()))else pure (NG (none,()))
theorem GX:sortRuns'=(do
 let g <-get
 let c <-forIn [0:(Nn g).size] ((none,0):LS) fun _ c=>gZ (Nn g).size c.2
 match c.1 with
 | some r=>pure r
 | none=>do
  let d <-forIn [0:(Nn g).size] ((none,()):CS) fun _ _=>vG
  match d.1 with
  | some r=>pure r
  | none=>pure ()):=by
 rw[sortRuns'_eq]
 dsimp only
 refine congrArg (bind get) (funext fun g=>?_)
 refine congr (congrArg bind ?_) (funext fun c=>?_)
 ·refine congrArg (forIn _ _) (funext fun _=>funext fun c=>?_)
  unfold gZ
  refine ite_congr rfl (fun _=>rfl) (fun _=>?_)
  refine congrArg (bind _) (funext fun f=>?_)
  cases f with
  | none=>rfl
  | some n=>
   dsimp only
   refine ite_congr rfl (fun _=>congrArg (bind _) (funext fun _=>congrArg (bind _) (funext fun b=>ite_congr rfl (fun _=>rfl) (fun _=>?_)))) (fun _=>?_)
   all_goals
    unfold tl
    refine congrArg (bind _) (funext fun g=>?_)
    generalize (ND g).back?=bk
    rcases bk with _ | ⟨s1,n1,z⟩
    ·rfl
    dsimp only
    refine congr (congrArg bind ?_) (funext fun c=>?_)
    ·refine congrArg (forIn _ _) (funext fun _=>funext fun c=>?_)
     unfold kh
     refine congrArg (bind _) (funext fun g=>?_)
     generalize (if(ND g).size > 1 then(ND g)[(ND g).size - 2]? else none)=o
     rcases o with _ | ⟨_,_,_⟩ <;> rfl
    rcases c with⟨_ | _,_⟩ <;> rfl
 rcases c with⟨_ | _,_⟩
 ·dsimp only
  refine congr (congrArg bind ?_) (funext fun c=>?_)
  ·rfl
  rcases c with⟨_ | _,_⟩ <;> rfl
 rfl
noncomputable def Pd(rk:Nm->Nat)(xs:Array Nm):List (Nat × Nat × Nat)->Nat->Nat->Prop
 | [],a,b=>a=b
 | (c,n,_)::t,a,b=>c=a/\1<=n/\bD rk xs c n/\Pd rk xs t (a + n) b
section
variable{rk:Nm->Nat}
theorem Pd.le {xs:Array Nm}:∀ {l:List (Nat × Nat × Nat)} {a b:Nat},Pd rk xs l a b->a + l.length<=b
 | [],_,_,h=>K4 h
 | (c,n,_)::t,a,b,h=>by
  have:=h.2.2.2.le
  have:=h.2.1
  rw[i_]
  lia
theorem Pd.congr {xs ys:Array Nm}:∀ {l:List (Nat × Nat × Nat)} {a b:Nat},Pd rk xs l a b->(∀ i,a<=i->i < b->R rk ys i=R rk xs i)->Pd rk ys l a b
 | [],_,_,h,_=>h
 | (c,n,_)::t,a,b,h,e=>by
  have le:=h.2.2.2.le
  have ca:=h.1
  refine⟨h.1,h.2.1,fun i j hij hj=>?_,h.2.2.2.congr fun i h1 h2=>e i (by lia) h2⟩
  rw[e _ (by lia) (by lia),e _ (by lia) (by lia)]
  exact h.2.2.1 i j hij hj
theorem dw{xs:Array Nm}:∀ {l m:List (Nat × Nat × Nat)} {a b:Nat},Pd rk xs (l++m) a b↔∃ c,Pd rk xs l a c/\Pd rk xs m c b
 | [],m,a,b=>⟨fun h=>⟨a,rfl,h⟩,fun⟨c,e,h⟩=>by cases (show a=c from e);exact h⟩
 | (c,n,_)::t,m,a,b=>⟨fun h=>by
   obtain⟨d,h1,h2⟩:=dw.mp h.2.2.2
   exact⟨d,⟨h.1,h.2.1,h.2.2.1,h1⟩,h2⟩,fun⟨d,h,h2⟩=>⟨h.1,h.2.1,h.2.2.1,dw.mpr ⟨d,h.2.2.2,h2⟩⟩⟩
theorem Pd.modify {xs:Array Nm}{w0:Nat}:∀ {l:List (Nat × Nat × Nat)} {i a b:Nat},Pd rk xs l a b->Pd rk xs (l.modify i fun x=>(x.1,x.2.1,w0)) a b
 | [],i,_,_,h=>by cases i <;> exact h
 | (c,n,_)::t,0,a,b,h=>⟨h.1,h.2.1,h.2.2.1,h.2.2.2⟩
 | (c,n,_)::t,i + 1,a,b,h=>⟨h.1,h.2.1,h.2.2.1,h.2.2.2.modify⟩
theorem oD{α:Type}:∀ {l:List α} {i:Nat},i + 1 < l.length->∃ pre x y post,l=pre++x::y::post/\pre.length=i
 | x::y::t,0,_=>⟨[],x,y,t,rfl,rfl⟩
 | [_],0,h=>absurd h (by simp)
 | x::t,i + 1,h=>by
  obtain⟨p,a,b,q,e,f⟩:=oD (l:=t) (i:=i) (by rw[i_]at h;lia)
  exact⟨x::p,a,b,q,by rw[e];rfl,by rw[i_,f]⟩
 | [],_,h=>absurd h (by simp)
end
section
variable{M:Po}{A:NH}{E:Nf->Ni->Prop}{s:Ni}{kd:OC}{rk:Nm->Nat}{S:Nm->Prop}{a0:Array Nm}
structure Iv (kd:OC) (rk:Nm->Nat) (a0:Array Nm) (q0:Nat) (st:Nu):Prop where
 k:kindOf st=kd
 f:N6 st=none
 a:(Nn st).Perm a0
 pd:Pd rk (Nn st) (ND st).toList 0 q0
theorem Iv.all {q0:Nat}{st:Nu}(h:Iv kd rk a0 q0 st)(hS:∀ p∈a0.toList,S p):jv S st:=fun p hp=>hS p ((J9.mp h.a).mem_iff.mp hp)
theorem rM{q0 i:Nat}{st:Nu}{Q:Bool->Nu->Prop}(L:bU M A E s kd rk S)(hS:∀ p∈a0.toList,S p)(hr:∀ x,Nl M A (rule x) (fun _ s'=>s'=s) E s)(I:Iv kd rk a0 q0 st)(hq:q0<=a0.size)(hi:i + 1 < (ND st).size)
  (h:∀ st',Iv kd rk a0 q0 st'->(ND st').size + 1=(ND st).size->(∀ j,q0<=j->(Nn st')[j]?=(Nn st)[j]?)->Q true st'):wpS M A E s (R3 i) Q st:=by
 obtain⟨pre,⟨s1,n1,pw⟩,⟨s2,n2,p2⟩,post,e,el⟩:=oD (l:=(ND st).toList) (i:=i) (by rw[f'];exact hi)
 subst el
 have P:=I.pd
 rw[e]at P
 obtain⟨c,P1,e1,k1,o1,e2,k2,o2,P3⟩:=dw.mp P
 subst e1
 subst e2
 have le:=P3.le
 have sz:=I.a.size_eq
 refine EZ L I.k (I.all hS) I.f hr e k1 k2 (by lia) o1 o2 fun st' m=>?_
 have same:∀ j,(j < s1\/s1 + n1 + n2<=j)->R rk (Nn st') j=R rk (Nn st) j:=fun j hj=>cw (m.out j (by lia))
 refine h st' ⟨m.k.trans I.k,m.f,m.a.trans I.a,?_⟩ ?_ fun j hj=>m.out j (by lia)
 ·rw[m.p]
  refine dw.mpr ⟨s1,P1.congr fun j _ hj=>same j (by lia),rfl,by lia,m.srt,?_⟩
  rw[<-Le]
  exact P3.congr fun j hj _=>same j (by lia)
 rw[<-f',<-f',m.p,e]
 simp only[j',i_]
 lia
theorem tD{q0 w0:Nat}{st:Nu}{Q:ForInStep CS->Nu->Prop}(L:bU M A E s kd rk S)(hS:∀ p∈a0.toList,S p)(hr:∀ x,Nl M A (rule x) (fun _ s'=>s'=s) E s)(I:Iv kd rk a0 q0 st)(hq:q0<=a0.size)
  (h:∀ st' (d:Bool),Iv kd rk a0 q0 st'->(∀ j,q0<=j->(Nn st')[j]?=(Nn st)[j]?)->Q (if d=true then Nw (none,())else NG (none,())) st'):wpS M A E s (kh w0) Q st:=by
 unfold kh
 refine Nr (PV ?_)
 generalize ho:(if(ND st).size > 1 then(ND st)[(ND st).size - 2]? else none)=o
 rcases o with _ | ⟨x,y,old⟩
 ·exact Ny (h st true I fun _ _=>rfl)
 dsimp only
 have h1:(ND st).size > 1:=by
  by_cases z:(ND st).size > 1
  ·exact z
  rw[if_neg z]at ho;cases ho
 by_cases w:old<=w0
 ·rw[if_pos w]
  exact Ny (h st true I fun _ _=>rfl)
 rw[if_neg w]
 refine Nr (rM L hS hr I hq (by lia) fun st' I' _ e=>?_)
 rw[if_neg (by simp)]
 exact Ny (h st' false I' e)
theorem mY{q0 n:Nat}{st:Nu}{Q:ForInStep LS->Nu->Prop}(I:Iv kd rk a0 q0 st)(hn:1<=n)(o:bD rk (Nn st) q0 n)(h:∀ st',Iv kd rk a0 (q0 + n) st'->Q (NG (none,q0 + n)) st'):wpS M A E s (oy q0 n) Q st:=by
 unfold oy
 refine Nr (Qu (Ny (h _ ⟨I.k,I.f,I.a,?_⟩)))
 show Pd rk (Nn st) ((ND st).push (q0,n,0)).toList 0 (q0 + n)
 rw[JX]
 exact dw.mpr ⟨q0,I.pd,rfl,hn,o,rfl⟩
theorem D4{q0 n:Nat}{st:Nu}{Q:ForInStep LS->Nu->Prop}(L:bU M A E s kd rk S)(hS:∀ p∈a0.toList,S p)(hr:∀ x,Nl M A (rule x) (fun _ s'=>s'=s) E s)(I:Iv kd rk a0 q0 st)(hq:q0<=a0.size)(hn:1<=n)(o:bD rk (Nn st) q0 n)
  (h:∀ st',Iv kd rk a0 (q0 + n) st'->Q (NG (none,q0 + n)) st'):wpS M A E s (tl a0.size q0 n) Q st:=by
 unfold tl
 refine Nr (PV ?_)
 generalize (ND st).back?=bk
 rcases bk with _ | ⟨s1,n1,z⟩
 ·exact mY I hn o h
 dsimp only
 generalize power' a0.size (2 * s1 + n1) (2 * s1 + n1 + n1 + n) a0.size=w0
 refine Nr (Ov (N4 (I:=fun _ c st'=>c=(none,())/\Iv kd rk a0 q0 st'/\∀ j,q0<=j->(Nn st')[j]?=(Nn st)[j]?) (Q:=fun c st'=>c=(none,())/\Iv kd rk a0 q0 st'/\∀ j,q0<=j->(Nn st')[j]?=(Nn st)[j]?) ?_ (fun _ _ z=>z) ⟨rfl,I,fun _ _=>rfl⟩) ?_)
 ·rintro x c st1 _ _ ⟨rfl,I1,e1⟩
  refine tD L hS hr I1 hq fun st2 d I2 e2=>?_
  cases d
  ·exact⟨rfl,I2,fun j hj=>(e2 j hj).trans (e1 j hj)⟩
  exact⟨rfl,I2,fun j hj=>(e2 j hj).trans (e1 j hj)⟩
 rintro c st1 ⟨rfl,I1,e1⟩
 dsimp only
 refine Nr (Qu ?_)
 refine mY ⟨I1.k,I1.f,I1.a,?_⟩ hn (fun i j hij hj=>?_) h
 ·show Pd rk (Nn st1) ((ND st1).modify ((ND st1).size - 1) fun x=>(x.1,x.2.1,w0)).toList 0 q0
  rw[Array.toList_modify]
  exact I1.pd.modify
 show R rk (Nn st1) (q0 + i)<=R rk (Nn st1) (q0 + j)
 rw[cw (rk:=rk) (e1 (q0 + i) (by lia)),cw (rk:=rk) (e1 (q0 + j) (by lia))]
 exact o i j hij hj
theorem Iv.within {q0 n:Nat}{st st':Nu}(I:Iv kd rk a0 q0 st)(W:Within st st' q0 n):Iv kd rk a0 q0 st':=⟨W.kp.k.trans I.k,W.kp.f.trans I.f,W.kp.a.trans I.a,by
 rw[W.kp.p]
 exact I.pd.congr fun i _ hi=>cw (W.out i (.inl hi))⟩
theorem rN{q0:Nat}{st:Nu}{Q:ForInStep LS->Nu->Prop}(L:bU M A E s kd rk S)(hS:∀ p∈a0.toList,S p)(hr:∀ x,Nl M A (rule x) (fun _ s'=>s'=s) E s)(I:Iv kd rk a0 q0 st)(hq:q0<=a0.size)
  (h1:q0=a0.size->Q (Nw (none,q0)) st) (h2:∀ n st',1<=n->q0 + n<=a0.size->Iv kd rk a0 (q0 + n) st'->Q (NG (none,q0 + n)) st'):wpS M A E s (gZ a0.size q0) Q st:=by
 unfold gZ
 by_cases z:q0>=a0.size
 ·rw[if_pos z]
  exact Ny (h1 (by lia))
 rw[if_neg z]
 have qz:=Jd (LY z)
 have sz:=I.a.size_eq
 refine Nr (qH L I.k (I.all hS) (by lia) (by lia) hr fun n st1 g1 g2 W1 o1=>?_)
 dsimp only
 have I1:=I.within W1
 by_cases w:n < SE a0.size a0.size 0
 ·rw[if_pos w]
  generalize SE a0.size a0.size 0=mr at w ⊢
  refine Nr (Q9 (NN (hr _) (fun _ _ z=>⟨z,?_⟩) fun _ _ z=>z))
  have sz1:=I1.a.size_eq
  have f1:n<=min (a0.size - q0) mr:=Nat.le_min.mpr ⟨g2,Jd w⟩
  have f4:q0 + min (a0.size - q0) mr<=a0.size:=v_ (KP (Nat.min_le_left ..) q0) (K4 (KR qz))
  have f5:=v_ g1 f1
  generalize min (a0.size - q0) mr=fr at f1 f4 f5 ⊢
  refine Nr (BP L I1.k (I1.all hS) (by rw[sz1];exact f4) f1 o1 fun st2 W2 o2=>?_)
  rw[if_neg (by simp)]
  exact D4 L hS hr (I1.within W2) hq f5 o2 fun st3 I3=>h2 _ st3 f5 f4 I3
 rw[if_neg w]
 exact D4 L hS hr I1 hq g1 o1 fun st3 I3=>h2 _ st3 g1 (by lia) I3
theorem Av{ps:Array (Nat × Nat × Nat)}(h:1 < ps.size):pick ps + 1 < ps.size:=by
 unfold pick
 generalize M' (fun x=>decide (x < ps[ps.size - 2 + 1]?.elim 0 fun y=>y.2.1)) (if ps.size - 2 > 0 then Kb (fun y=>y.2.1) ps[ps.size - 2 - 1]? else none)=b
 cases b
 ·rw[if_neg (by simp)];lia
 rw[if_pos rfl];lia
theorem qt{st:Nu}{Q:Unit->Nu->Prop}(L:bU M A E s kd rk S)(hS:∀ p∈(Nn st).toList,S p)(hr:∀ x,Nl M A (rule x) (fun _ s'=>s'=s) E s)(hk:kindOf st=kd)(hf:N6 st=none)(hp:ND st=#[])
  (h:∀ st',(Nn st').Perm (Nn st)->N6 st'=none->Srt rk (Nn st').toList->Q () st'):wpS M A E s sortRuns' Q st:=by
 rw[GX]
 refine Nr (PV ?_)
 have I0:Iv kd rk (Nn st) 0 st:=⟨hk,hf,Mb _,by rw[hp];exact rfl⟩
 revert I0 hS h
 generalize Nn st=a0
 intro hS h I0
 refine Nr (Ov (N4 (I:=fun x c st'=>∃ q0,c=(none,q0)/\x<=q0/\q0<=a0.size/\Iv kd rk a0 q0 st') (Q:=fun c st'=>c=(none,a0.size)/\Iv kd rk a0 a0.size st') ?_ ?_ ⟨0,rfl,d_ _,G_ _,I0⟩) ?_)
 ·rintro x c st1 _ _ ⟨q0,rfl,g1,g2,I⟩
  exact rN L hS hr I g2 (fun e=>by subst e;exact⟨rfl,I⟩) fun n st2 k1 k2 I2=>⟨q0 + n,rfl,by lia,k2,I2⟩
 ·rintro c st1 ⟨q0,rfl,g1,g2,I⟩
  have e:q0=a0.size:=by lia
  subst e
  exact⟨rfl,I⟩
 rintro c st1 ⟨rfl,I1⟩
 dsimp only
 refine Nr (Ov (N4 (I:=fun x c st'=>c=(none,())/\Iv kd rk a0 a0.size st'/\((ND st').size<=1\/(ND st').size + x<=a0.size)) (Q:=fun c st'=>c=(none,())/\Iv kd rk a0 a0.size st'/\(ND st').size<=1) ?_ ?_ ⟨rfl,I1,.inr ?_⟩) ?_)
 ·rintro x c st2 _ _ ⟨rfl,I2,g⟩
  unfold vG
  refine Nr (PV ?_)
  by_cases z:(ND st2).size<=1
  ·rw[if_pos z]
   exact Ny ⟨rfl,I2,z⟩
  rw[if_neg z]
  refine Nr (rM L hS hr I2 (d_ _) (Av (by lia)) fun st3 I3 e _=>?_)
  rw[if_neg (by simp)]
  exact Ny ⟨rfl,I3,.inr (by lia)⟩
 ·rintro c st2 ⟨rfl,I2,g⟩
  exact⟨rfl,I2,by lia⟩
 ·have:=I1.pd.le
  rw[f']at this
  lia
 rintro c st2 ⟨rfl,I2,g⟩
 refine Ny (h st2 I2.a I2.f ?_)
 have P:=I2.pd
 have sz:=I2.a.size_eq
 have lp:(ND st2).toList.length<=1:=by rw[f'];exact g
 have o:bD rk (Nn st2) 0 a0.size:=by
  generalize (ND st2).toList=l at P lp
  match l,P,lp with
  | [],P,_=>
   have e:0=a0.size:=P
   intro i j _ hj
   lia
  | [(c,n,_)],P,_=>
   obtain⟨e1,_,o,e2⟩:=P
   have e2:0 + n=a0.size:=e2
   subst e1
   rw[<-e2,K7]
   exact o
  | _::_::_,_,lp=>simp at lp
 have:=eW o
 rw[Kz,Jx (by rw[f'];lia)]at this
 exact this
end
section
variable{κ:Type}{lt:κ->κ->Bool}
def rnk(lt:κ->κ->Bool)(ks:List κ)(k:κ):Nat:=ks.countP fun y=>lt y k
theorem count_le{p q:κ->Bool}:∀ {l:List κ},(∀ x∈l,p x=true->q x=true)->l.countP p<=l.countP q
 | [],_=>d_ _
 | x::t,h=>by
  have ih:=count_le (l:=t) fun y hy=>h y (.tail _ hy)
  have hx:=h x (.head _)
  rw[Lg,Lg]
  cases e:p x
  ·rw[if_neg (by simp)];lia
  rw[hx e,if_pos rfl];lia
theorem rD{p q:κ->Bool}:∀ {l:List κ} {z:κ},(∀ x∈l,p x=true->q x=true)->z∈l->p z=false->q z=true->l.countP p < l.countP q
 | x::t,z,h,hz,h1,h2=>by
  have ih:=count_le (l:=t) fun y hy=>h y (.tail _ hy)
  have hx:=h x (.head _)
  rw[Lg,Lg]
  rcases m_.mp hz with e | e
  ·subst e
   rw[h1,h2,if_neg (by simp),if_pos rfl];lia
  have:=rD (l:=t) (fun y hy=>h y (.tail _ hy)) e h1 h2
  cases e:p x
  ·rw[if_neg (by simp)];lia
  rw[hx e,if_pos rfl];lia
structure Tot (lt:κ->κ->Bool):Prop where
 irr:∀ a,lt a a=false
 tr:∀ a b c,lt a b=true->lt b c=true->lt a c=true
 tot:∀ a b,lt a b=false->lt b a=false->a=b
theorem FY(T:Tot lt){ks:List κ}{a b:κ}(h:lt b a=false):rnk lt ks a<=rnk lt ks b:=by
 refine count_le fun y _ hy=>?_
 cases e:lt a b
 ·rw[<-T.tot a b e h];exact hy
 exact T.tr _ _ _ hy e
theorem kS(T:Tot lt){ks:List κ}{a b:κ}(ha:a∈ks)(h:lt a b=true):rnk lt ks a < rnk lt ks b:=rD (fun y _ hy=>T.tr _ _ _ hy h) ha (T.irr a) h
theorem vF(T:Tot lt){ks:List κ}{a b:κ}(ha:a∈ks):decide (rnk lt ks a < rnk lt ks b)=lt a b:=by
 cases e:lt a b
 ·exact decide_eq_false (LR.mpr (FY T e))
 exact decide_eq_true (kS T ha e)
end
def ltL:List Int->List Int->Bool
 | _,[]=>false
 | [],_::_=>true
 | a::x,b::y=>if a=b then ltL x y else decide (a < b)
theorem uR:∀ x,ltL x x=false
 | []=>rfl
 | a::x=>by rw[ltL,if_pos rfl];exact uR x
theorem yO:∀ a b c,ltL a b=true->ltL b c=true->ltL a c=true
 | _,[],_,h,_=>by simp[ltL]at h
 | _,_::_,[],_,h=>by simp[ltL]at h
 | [],_::_,_::_,_,_=>rfl
 | a::x,b::y,c::z,h,g=>by
  rw[ltL]at h g ⊢
  by_cases e1:a=b
  ·subst e1
   rw[if_pos rfl]at h
   by_cases e2:a=c
   ·subst e2
    rw[if_pos rfl]at g ⊢
    exact yO x y z h g
   rw[if_neg e2]at g ⊢
   exact g
  rw[if_neg e1]at h
  have h:=of_decide_eq_true h
  by_cases e2:b=c
  ·subst e2
   rw[if_neg e1]
   exact decide_eq_true h
  rw[if_neg e2]at g
  have g:=of_decide_eq_true g
  rw[if_neg (by lia)]
  exact decide_eq_true (by lia)
theorem vU:∀ a b,ltL a b=false->ltL b a=false->a=b
 | [],[],_,_=>rfl
 | [],_::_,h,_=>by simp[ltL]at h
 | _::_,[],_,h=>by simp[ltL]at h
 | a::x,b::y,h,g=>by
  rw[ltL]at h g
  by_cases e:a=b
  ·subst e
   rw[if_pos rfl]at h g
   rw[vU x y h g]
  rw[if_neg e]at h
  rw[if_neg (fun z=>e z.symm)]at g
  have h:=of_decide_eq_false h
  have g:=of_decide_eq_false g
  lia
theorem Af:Tot ltL:=⟨uR,yO,vU⟩
def bW:Nf->Int
 | .int i _=>i
 | _=>0
noncomputable def dJ(h:NB):Nf->List Int
 | .ref a=>match h.get? a with
  | some o=>match o.data with
   | .seq xs _=>xs.toList.map bW
   | _=>[]
  | none=>[]
 | _=>[]
def AllInt(l:List Nf):Prop:=∀ v∈l,∃ i t,v=.int i t
noncomputable def Ci(h:NB)(v:Nf):Prop:=∃ a o xs n,v=.ref a/\h.get? a=some o/\o.cls=.type "tuple"/\o.data=.seq xs n/\AllInt xs.toList/\0 < xs.size
theorem qc{h:NB}{a:Nh}{o:Obj}{xs:Array Nf}{n:Nat}(e:h.get? a=some o)(d:o.data=.seq xs n):dJ h (.ref a)=xs.toList.map bW:=by
 unfold dJ
 dsimp only
 rw[e]
 dsimp only
 rw[d]
section
variable{prog:Nv}{w:NA}{A:NH}{E:Nf->Ni->Prop}{s:Ni}
theorem vO{Q:Bool->Ni->Prop}{fin:Bool}:∀(xs ys:List Nf) (i:Nat),AllInt xs->AllInt ys->fin=decide (xs.length < ys.length)->Q (ltL (xs.map bW) (ys.map bW)) s->PySem.W.KatLex prog w A true fin Q (xs.zip ys) i s
 | [],[],i,_,_,e,q=>by
  subst e
  exact Rq q
 | [],b::y,i,_,_,e,q=>by
  subst e
  exact Rq q
 | a::x,[],i,_,_,e,q=>by
  subst e
  exact Rq q
 | a::x,b::y,i,ha,hb,e,q=>by
  obtain⟨n,t,rfl⟩:=ha a (.head _)
  obtain⟨m,u,rfl⟩:=hb b (.head _)
  rw[f_,f_,ltL]at q
  refine PySem.W.kat_cons (S6 ?_)
  by_cases z:n=m
  ·have q:Q (ltL (x.map bW) (y.map bW)) s:=by
    rw[if_pos (show bW (.int n t)=bW (.int m u)from z)]at q
    exact q
   rw[show(n == m)=true by simpa using z]
   refine PySem.W.kat_yes (vO x y (i + 1) (fun v hv=>ha v (.tail _ hv)) (fun v hv=>hb v (.tail _ hv)) ?_ q)
   rw[e,i_,i_]
   exact decide_eq_decide.mpr (by lia)
  have q:Q (decide (n < m)) s:=by
   rw[if_neg (show ¬ bW (.int n t)=bW (.int m u)from z)]at q
   exact q
  rw[show(n == m)=false by simpa using z]
  refine PySem.W.kat_no ?_
  cases (true && i == 0)
  ·exact PySem.W.kat_one _ _ (lt_int q)
  exact oneLt_int q
theorem rY{h0:NB}{ks:List (List Int)}{S:Nm->Prop}(hS:∀ x,S x->Ci h0 x.1/\dJ h0 x.1∈ks)(hk:∀ b o,h0.get? b=some o->(∃ x n,o.cls=.type "tuple"/\o.data=.seq x n)->s.heap.get? b=some o) :
  bU (Nq prog w) A E s (T9 true) (fun x=>rnk ltL ks (dJ h0 x.1)) S:=by
 intro x y st Q sx sy kd q
 obtain⟨⟨a,oa,xs,na,ea,ga,ca,da,ia,_⟩,ma⟩:=hS x sx
 obtain⟨⟨b,ob,ys,nb,eb,gb,cb,db,ib,_⟩,mb⟩:=hS y sy
 rw[lt'_eq]
 refine Nr (PV ?_)
 rw[kd,ea,eb]
 refine Nr (Q9 (OG (PySem.W.kat_lt (hk _ _ ga ⟨_,_,ca,da⟩) da (hk _ _ gb ⟨_,_,cb,db⟩) db (vO _ _ 0 ia ib (by rw[f',f']) ⟨rfl,?_⟩))))
 refine Ny ?_
 dsimp only at q
 rw[vF Af ma,ea,eb,qc ga da,qc gb db]at q
 exact q
theorem rG{M:Po}{h0:NB}{vs:List Nf}{Q:OC->Ni->Prop}(hv:∀ v∈vs,Ci h0 v)(hk:∀ b o,h0.get? b=some o->(∃ x n,o.cls=.type "tuple"/\o.data=.seq x n)->s.heap.get? b=some o)(hne:vs≠[])(q:Q (T9 true) s):Nl M A (Q_ vs.toArray) Q E s:=by
 have mk:∀(l:List Nf),(∀ v∈l,Ci h0 v)->∃ fs,PySem.W.KatTups s.heap l fs/\AllInt fs/\fs.length=l.length:=by
  intro l
  induction l with
  | nil=>exact fun _=>⟨[],VI,fun v hv=>(nomatch hv),rfl⟩
  | cons v r ih=>
   intro hl
   obtain⟨fs,k1,k2,k3⟩:=ih fun v hv=>hl v (.tail _ hv)
   obtain⟨a,o,xs,n,rfl,g,c,d,i,z⟩:=hl v (.head _)
   obtain⟨f,hf⟩:∃ f,xs[0]?=some f:=⟨_,gV z⟩
   refine⟨f::fs,VA (hk _ _ g ⟨_,_,c,d⟩) c d hf k1,fun v hv=>?_,by rw[i_,i_,k3]⟩
   rcases m_.mp hv with e | e
   ·subst e
    rw[<-e_]at hf
    exact i _ (y_ hf)
   exact k2 v e
 obtain⟨fs,k1,k2,k3⟩:=mk vs hv
 refine PySem.W.kat_kind (T:=.type "int") k1 ?_ (fun v hv=>?_) rfl q
 ·rw[k3]
  exact Mt.mpr hne
 obtain⟨i,t,rfl⟩:=k2 v hv
 exact .now
end
section
variable{prog:Nv}{w:NA}{A:NH}{E:Nf->Ni->Prop}{s:Ni}
theorem kR(vs:List Nf):(vs.toArray.zip vs.toArray).toList=vs.map fun v=>(v,v):=by
 rw[Array.toList_zip]
 induction vs with
 | nil=>rfl
 | cons v r ih=>exact congrArg ((v,v)::·) ih
theorem jA{a:Nh}{vs:List Nf}{n:Nat}{kd:OC}{rk:Nm->Nat}{S:Nm->Prop}{P:PySem.Fin->Ni->Prop}(ho:s.heap.get? a=some (N3 "list" vs.toArray n))(hz:vs.length<=sizeLine)(hS:∀ v∈vs,S (v,v))
  (kind:∀ h',(∀ b o,b≠a->s.heap.get? b=some o->h'.get? b=some o)->∀ {Q:OC->Ni->Prop},vs≠[]->Q kd { s with heap:=h' }->Nl (Nq prog w) A (Q_ vs.toArray) Q E { s with heap:=h' })
  (lt:∀ h',(∀ b o,b≠a->s.heap.get? b=some o->h'.get? b=some o)->bU (Nq prog w) A E { s with heap:=h' } kd rk S)
  (h:∀(o:List Nf) c h',o.Perm vs->o.Pairwise (fun x y=>rk (x,x)<=rk (y,y))->(∀ b u,b≠a->s.heap.get? b=some u->h'.get? b=some u)->h'.get? a=some (N3 "list" o.toArray c)->P (.done (.ret .none)) { s with heap:=h' }) :
  Nl (Nq prog w) A (Ox.«list.sort» ⟨[.ref a],[]⟩) P E s:=by
 rw[list_sort_plain]
 have ha:a < s.heap.objs.size:=Nt ho
 refine Nd (listItems_at ho rfl ?_)
 refine Nd (Uu ho rfl ?_ (by rw[q_];exact hz) (G_ _))
 obtain⟨e1,ho1⟩:∃ e1,(s.heap.update a (N8 fun _=>(#[]:Array Nf))).get? a=some (N3 "list" #[] e1):=⟨_,TH ho fun _=>#[]⟩
 refine Nd (Vr ho1 rfl ?_)
 refine Nd (T7 ?_ hz)
 refine Nd (PH ?_ (G_ _))
 refine NJ ?_
 have k2:∀ b u,(s.heap.update a (N8 fun _=>(#[]:Array Nf))).get? b=some u->(((s.heap.update a (N8 fun _=>(#[]:Array Nf))).push (N3 "tuple" vs.toArray 0)).push (N3 "list" #[] 0)).get? b=some u:=fun b u e=>Nk _ (Nk _ e)
 have k3:∀ b u,b≠a->s.heap.get? b=some u->(((s.heap.update a (N8 fun _=>(#[]:Array Nf))).push (N3 "tuple" vs.toArray 0)).push (N3 "list" #[] 0)).get? b=some u:=fun b u hb e=>k2 b u (by rw[Qw _ _ _ _ hb];exact e)
 have ho6:=k2 _ _ ho1
 show Nl (Nq prog w) A _ P E { s with heap:=((s.heap.update a (N8 fun _=>(#[]:Array Nf))).push (N3 "tuple" vs.toArray 0)).push (N3 "list" #[] 0) }
 generalize ((s.heap.update a (N8 fun _=>(#[]:Array Nf))).push (N3 "tuple" vs.toArray 0)).push (N3 "list" #[] 0)=h1 at k3 ho6 ⊢
 dsimp only
 have fin:∀ st':Nu,(Nn st').Perm (vs.toArray.zip vs.toArray)->Srt rk (Nn st').toList->N6 st'=none->Nl (Nq prog w) A (do
   let touched:=(<-seqEpoch a) != e1
   Vg (.ref a) fun _=>(Nn st').map (·.2)
   if let some e:=N6 st' then rule "list.sort.comparison-raised";throw e
   if touched then rule "list.sort.modified";raiseError "ValueError" "list modified during sort"
   ret .none) P E { s with heap:=h1 }:=fun st' hp hs hf=>by
  have lp:(Nn st').toList.Perm (vs.map fun v=>(v,v)):=by
   have:=J9.mp hp
   rw[kR]at this
   exact this
  have op:((Nn st').toList.map (·.2)).Perm vs:=by
   have:=lp.map (·.2)
   rw[Jj,show((fun x:Nm=>x.2) ∘ fun v:Nf=>(v,v))=id from rfl,Mg]at this
   exact this
  have tw:∀ p∈(Nn st').toList,p=(p.2,p.2):=fun p hp=>by
   obtain⟨v,_,e⟩:=B'.mp (lp.mem_iff.mp hp)
   rw[<-e]
  have osr:((Nn st').toList.map (·.2)).Pairwise (fun x y=>rk (x,x)<=rk (y,y)):=by
   rw[JA]
   refine JI (fun{p q} hp hq hr=>?_) hs
   rw[<-tw p hp,<-tw q hq]
   exact hr
  have os:((Nn st').map (·.2)).size<=sizeLine + 1:=by
   rw[<-f',MM,op.length_eq]
   lia
  refine Nd (Vr ho6 rfl ?_)
  refine Nd (Uu ho6 rfl ?_ (G_ _) os)
  rw[hf]
  simp only[bne_self_eq_false,Ji,if_false]
  obtain⟨c,hc⟩:∃ c,(h1.update a (N8 fun _=>(Nn st').map (·.2))).get? a=some (N3 "list" ((Nn st').toList.map (·.2)).toArray c):=by
   have:=TH ho6 fun _=>(Nn st').map (·.2)
   rw[show((Nn st').toList.map (·.2)).toArray=(Nn st').map (·.2) by rw[<-MM]]
   exact⟨_,this⟩
  refine Nj (h _ c _ op osr (fun b u hb e=>?_) hc)
  rw[Qw _ _ _ _ hb]
  exact k3 b u hb e
 by_cases h2:vs.toArray.size < 2
 ·rw[if_pos h2,if_pos h2]
  refine Nd (Nj ?_)
  rw[StateT.run_pure]
  refine Nd (Nj ?_)
  refine fin (O2 general' (vs.toArray.zip vs.toArray) #[] 7 none) (Mb _) ?_ rfl
  show Srt rk (vs.toArray.zip vs.toArray).toList
  rw[kR]
  have h3:vs.length < 2:=h2
  clear fin h lt kind hS ho
  match vs,h3 with
  | [],_=>exact .nil
  | [v],_=>exact J2 _ _
  | _::_::_,h3=>exact absurd h3 (by rw[i_,i_];lia)
 rw[if_neg h2,if_neg h2]
 refine Nd (kind h1 k3 (fun z=>by rw[z]at h2;simp at h2) ?_)
 refine Nd (NN (qt (st:=O2 kd (vs.toArray.zip vs.toArray) #[] 7 none) (Q:=fun _ st'=>(Nn st').Perm (vs.toArray.zip vs.toArray)/\N6 st'=none/\Srt rk (Nn st').toList) (lt h1 k3) (fun p hp=>?_) (fun x=>OZ rfl) rfl rfl rfl fun st' a1 a2 a3=>⟨a1,a2,a3⟩) ?_ fun _ _ e=>e)
 ·rw[show(Nn (O2 kd (vs.toArray.zip vs.toArray) #[] 7 none))=vs.toArray.zip vs.toArray from rfl,kR]at hp
  obtain⟨v,hv,e⟩:=B'.mp hp
  rw[<-e]
  exact hS v hv
 rintro⟨⟨⟩,st'⟩ s' ⟨rfl,hp,hf,hs⟩
 exact fin st' hp hs hf
theorem mz{l:Nh}{vs:List Nf}{kd:OC}{rk:Nm->Nat}{S:Nm->Prop}{Q:Nf->Ni->Prop}(hl:s.heap.IsList l vs.toArray)(hz:vs.length<=sizeLine)(hS:∀ v∈vs,S (v,v))
  (kind:∀ h',(∀ b o,s.heap.get? b=some o->h'.get? b=some o)->∀ {Q:OC->Ni->Prop} {E:Nf->Ni->Prop},vs≠[]->Q kd { s with heap:=h' }->Nl (Nq prog w) A.in1.in1 (Q_ vs.toArray) Q E { s with heap:=h' })
  (lt:∀ h' E,(∀ b o,s.heap.get? b=some o->h'.get? b=some o)->bU (Nq prog w) A.in1.in1 E { s with heap:=h' } kd rk S)
  (h:∀(o:List Nf) a c h',o.Perm vs->o.Pairwise (fun x y=>rk (x,x)<=rk (y,y))->s.heap.objs.size<=a->(∀ b u,s.heap.get? b=some u->h'.get? b=some u)->h'.get? a=some (N3 "list" o.toArray c)->Q (.ref a) { s with heap:=h' }) :
  Nl (Nq prog w) A (call (.builtin "sorted") [.ref l]) Q E s:=by
 refine O3 S5 Su Sv (Sw _) ?_
 unfold Ox.«sorted»
 refine Nd (m:=TJ "sorted" 1 1 _) (Nj ?_)
 refine Nd (collect_list hl ?_ hz)
 refine Nd (PH ?_ hz)
 have hsz:((s.heap.push (N3 "list" #[] 0)).update s.heap.objs.size (N8 (·++vs.toArray))).objs.size=s.heap.objs.size + 1:=by
  rw[Heap.size_update,size_push']
 have hoL:(((s.heap.push (N3 "list" #[] 0)).update s.heap.objs.size (N8 (·++vs.toArray))).push (N3 "list" vs.toArray 0)).get? (s.heap.objs.size + 1)=some (N3 "list" vs.toArray 0):=by
  rw[<-hsz];exact Np _ rfl
 have keep:∀ b o,s.heap.get? b=some o->(((s.heap.push (N3 "list" #[] 0)).update s.heap.objs.size (N8 (·++vs.toArray))).push (N3 "list" vs.toArray 0)).get? b=some o:=fun b o q=>by
  have hlt:b < s.heap.objs.size:=Nt q
  rw[SR _ _ _ (by rw[hsz];exact r_ (Kv hlt)),Qw _ _ _ _ (r_ hlt),SR _ _ _ (r_ hlt)]
  exact q
 show Nl _ _ _ _ _ { s with heap:=((s.heap.push (N3 "list" #[] 0)).update s.heap.objs.size (N8 (·++vs.toArray))).push (N3 "list" vs.toArray 0) }
 rw[hsz]
 generalize ((s.heap.push (N3 "list" #[] 0)).update s.heap.objs.size (N8 (·++vs.toArray))).push (N3 "list" vs.toArray 0)=h1 at hoL keep ⊢
 have ne:∀ b o,s.heap.get? b=some o->b≠s.heap.objs.size + 1:=fun b o e=>r_ (Kv (Nt e))
 refine Nd (NJ (NX RJ ⟨_,hoL,rfl⟩ Rr ?body (RK _)))
 case body=>
  refine jA (s:={ s with heap:=h1 }) (kd:=kd) (rk:=rk) (S:=S) hoL hz hS (fun h' k {Q} hne q=>kind h' (fun b o e=>k b o (ne b o e) (keep b o e)) hne q) (fun h' k=>lt h' _ fun b o e=>k b o (ne b o e) (keep b o e)) fun o c h' g1 g2 g3 g4=>?_
  exact⟨_,rfl,Nj ⟨_,rfl,h o _ c h' g1 g2 (Km _) (fun b u e=>g3 b u (ne b u e) (keep b u e)) g4⟩⟩
end
end ZS
namespace PL
open PySem L2
inductive T where
 | any | hole (w:V) | bare | kp (G:Hp)
 | non | bl (b:Bool) | int (i:Int) | str (x:Str) | ty (n:String)
 | tup (ts:List T) | cst (ts:List T)
 | lst (o:Bool) (ts:List T)
 | dK (o:Bool) (kvs:List (Key × T))
 | dT (o:Bool) (kvs:List (List Key × T))
mutual
def er:T->T
 | .tup ts=>.tup (erL ts)
 | .cst ts=>.cst (erL ts)
 | .lst _ ts=>.lst false (erL ts)
 | .dK _ kvs=>.dK false (erK kvs)
 | .dT _ kvs=>.dT false (erT kvs)
 | .bare=>.any
 | t=>t
def erL:List T->List T
 | []=>[]
 | t::r=>er t::erL r
def erK:List (Key × T)->List (Key × T)
 | []=>[]
 | (k,t)::r=>(k,er t)::erK r
def erT:List (List Key × T)->List (List Key × T)
 | []=>[]
 | (k,t)::r=>(k,er t)::erT r
end
mutual
def aX:T->Bool
 | .tup ts=>bq ts
 | .cst ts=>bq ts
 | .lst o ts=>!o && bq ts
 | .dK o kvs=>!o && pz kvs
 | .dT o kvs=>!o && eC kvs
 | .bare=>false
 | _=>true
def bq:List T->Bool
 | []=>true
 | t::r=>aX t && bq r
def pz:List (Key × T)->Bool
 | []=>true
 | (_,t)::r=>aX t && pz r
def eC:List (List Key × T)->Bool
 | []=>true
 | (_,t)::r=>aX t && eC r
end
mutual
def bK:T->Bool
 | .tup ts=>bC ts
 | .cst ts=>bC ts
 | .lst o ts=>o && bC ts
 | .dK o kvs=>o && lI kvs
 | .dT o kvs=>o && iG kvs
 | .kp _=>false
 | _=>true
def bC:List T->Bool
 | []=>true
 | t::r=>bK t && bC r
def lI:List (Key × T)->Bool
 | []=>true
 | (_,t)::r=>bK t && lI r
def iG:List (List Key × T)->Bool
 | []=>true
 | (_,t)::r=>bK t && iG r
end
theorem fk{α:Type}(g:α->T):∀ l:List α,erL (l.map g)=l.map fun x=>er (g x)
 | []=>rfl
 | x::r=>by rw[f_,erL,fk g r,f_]
theorem lY:∀ l:List T,erL l=l.map er
 | []=>rfl
 | x::r=>by rw[erL,lY r,f_]
theorem k9(l:List T):(erL l).length=l.length:=by rw[lY,b_]
theorem Br(l m:List T):erL (l++m)=erL l++erL m:=by rw[lY,lY,lY,z_]
theorem lA:∀ l:List T,bq l=l.all aX
 | []=>rfl
 | x::r=>by rw[bq,lA r,LJ]
theorem dy:∀ l:List T,bC l=l.all bK
 | []=>rfl
 | x::r=>by rw[bC,dy r,LJ]
mutual
theorem bF:∀ t:T,aX (er t)=true
 | .tup ts=>by rw[er,aX,fF ts]
 | .cst ts=>by rw[er,aX,fF ts]
 | .lst _ ts=>by rw[er,aX,fF ts];rfl
 | .dK _ ts=>by rw[er,aX,nL ts];rfl
 | .dT _ ts=>by rw[er,aX,og ts];rfl
 | .bare=>rfl
 | .any=>rfl
 | .hole _=>rfl
 | .kp _=>rfl
 | .non=>rfl
 | .bl _=>rfl
 | .int _=>rfl
 | .str _=>rfl
 | .ty _=>rfl
theorem fF:∀ t:List T,bq (erL t)=true
 | []=>rfl
 | t::r=>by rw[erL,bq,bF t,fF r];rfl
theorem nL:∀ t:List (Key × T),pz (erK t)=true
 | []=>rfl
 | (_,t)::r=>by rw[erK,pz,bF t,nL r];rfl
theorem og:∀ t:List (List Key × T),eC (erT t)=true
 | []=>rfl
 | (_,t)::r=>by rw[erT,eC,bF t,og r];rfl
end
def Gr(G H:Hp):Prop:=∀ b u,Rd G b u->Rd H b u
theorem Gr.bz {H:Hp}:Gr H H:=fun _ _ h=>h
theorem Gr.trans {G H J:Hp}(a:Gr G H)(b:Gr H J):Gr G J:=fun c u h=>b c u (a c u h)
theorem Gr.of {G H:Hp}(h:aP G H):Gr G H:=fun b u r=>by
 rcases r with r | ⟨o,r⟩
 ·exact .inl (h _ _ r)
 exact .inr ⟨o,h _ _ r⟩
theorem Rd.some {H:Hp}{a:Nh}{u:HO}(h:Rd H a u):∃ w,H a=some w:=by
 rcases h with h | ⟨o,h⟩
 ·exact⟨_,h⟩
 exact⟨_,h⟩
theorem Gr.none {G H:Hp}(h:Gr G H){a:Nh}(e:H a=none):G a=none:=by
 cases q:G a with
 | none=>rfl
 | some u=>
  obtain⟨w,z⟩:=Rd.some (h a u (.inl q))
  rw[e]at z;cases z
def TK(H H':Hp):Prop:=∀ b xs,H b=some (.tup xs)->H' b=some (.tup xs)
theorem aP.tk {G H:Hp}(h:aP G H):TK G H:=fun b xs r=>h _ _ r
theorem Put.tk {H H':Hp}{a:Nh}{o:HO}(p:Put H a o H')(ht:∀ xs,H a≠some (.tup xs)):TK H H':=fun b xs r=>by
 have hb:b≠a:=fun z=>ht xs (z ▸ r)
 rw[p.else_ b hb];exact r
section
variable(K:Ng)(Hz H:Hp)
mutual
inductive RepT:T->V->List Nh->Prop
 | any {v:V}:RepT .any v []
 | hole {w:V}:RepT (.hole w) w []
 | bare {a:Nh} {u:HO} (h:H a=some u) (ht:∀ xs,H a≠some (.tup xs)):RepT .bare (.ref a) [a]
 | kp {G:Hp} {v:V} (h:Gr G Hz):RepT (.kp G) v []
 | non:RepT .non .non []
 | bl {b:Bool}:RepT (.bl b) (.bl b) []
 | int {i:Int}:RepT (.int i) (.int i) []
 | str {x:Str}:RepT (.str x) (.str x) []
 | ty {n:String}:RepT (.ty n) (.ty n) []
 | tup {a:Nh} {ts:List T} {vs:List V} {L:List Nh} (h:H a=some (.tup vs)) (c:RepTs ts vs L):RepT (.tup ts) (.ref a) L
 | cst {a:Nh} {ts:List T} {vs:List V} (h:SqT K (fun _=>none) a vs) (c:RepTs ts vs []):RepT (.cst ts) (.ref a) []
 | lstO {a:Nh} {ts:List T} {vs:List V} {L:List Nh} (h:H a=some (.lst vs)) (c:RepTs ts vs L):RepT (.lst true ts) (.ref a) (a::L)
 | lstZ {a:Nh} {ts:List T} {vs:List V} (h:Rd Hz a (.lst vs)) (c:RepTs ts vs []):RepT (.lst false ts) (.ref a) []
 | dKO {a:Nh} {ts:List (Key × T)} {vs:List (Key × V)} {L:List Nh} (h:H a=some (.dK vs)) (c:RepKs ts vs L):RepT (.dK true ts) (.ref a) (a::L)
 | dKZ {a:Nh} {ts:List (Key × T)} {vs:List (Key × V)} (h:Rd Hz a (.dK vs)) (c:RepKs ts vs []):RepT (.dK false ts) (.ref a) []
 | dTO {a:Nh} {ts:List (List Key × T)} {vs:List (List Key × V)} {L:List Nh} (h:H a=some (.dT vs)) (c:RepXs ts vs L):RepT (.dT true ts) (.ref a) (a::L)
 | dTZ {a:Nh} {ts:List (List Key × T)} {vs:List (List Key × V)} (h:Rd Hz a (.dT vs)) (c:RepXs ts vs []):RepT (.dT false ts) (.ref a) []
inductive RepTs:List T->List V->List Nh->Prop
 | nil:RepTs [] [] []
 | cons {t:T} {v:V} {L M N:List Nh} {ts:List T} {vs:List V} (e:N=L++M) (h:RepT t v L) (c:RepTs ts vs M):RepTs (t::ts) (v::vs) N
inductive RepKs:List (Key × T)->List (Key × V)->List Nh->Prop
 | nil:RepKs [] [] []
 | cons {k:Key} {t:T} {v:V} {L M N:List Nh} {ts:List (Key × T)} {vs:List (Key × V)} (e:N=L++M) (h:RepT t v L) (c:RepKs ts vs M):RepKs ((k,t)::ts) ((k,v)::vs) N
inductive RepXs:List (List Key × T)->List (List Key × V)->List Nh->Prop
 | nil:RepXs [] [] []
 | cons {k:List Key} {t:T} {v:V} {L M N:List Nh} {ts:List (List Key × T)} {vs:List (List Key × V)} (e:N=L++M) (h:RepT t v L) (c:RepXs ts vs M):RepXs ((k,t)::ts) ((k,v)::vs) N
end
end
section
variable{K:Ng}
theorem fj{Hz H:Hp}{P:T->V->List Nh->Prop}{Ps:List T->List V->List Nh->Prop}{Pk:List (Key × T)->List (Key × V)->List Nh->Prop}{Px:List (List Key × T)->List (List Key × V)->List Nh->Prop}
  (c1:∀ {v},P .any v []) (c2:∀ {w},P (.hole w) w []) (c3:∀ {a u},H a=some u->(∀ xs,H a≠some (.tup xs))->P .bare (.ref a) [a]) (c4:∀ {G v},Gr G Hz->P (.kp G) v [])
  (c5:P .non .non []) (c6:∀ {b},P (.bl b) (.bl b) []) (c7:∀ {i},P (.int i) (.int i) []) (c8:∀ {x},P (.str x) (.str x) []) (c9:∀ {n},P (.ty n) (.ty n) [])
  (c10:∀ {a ts vs L},H a=some (.tup vs)->Ps ts vs L->P (.tup ts) (.ref a) L) (c11:∀ {a ts vs},SqT K (fun _=>none) a vs->Ps ts vs []->P (.cst ts) (.ref a) [])
  (c12:∀ {a ts vs L},H a=some (.lst vs)->Ps ts vs L->P (.lst true ts) (.ref a) (a::L)) (c13:∀ {a ts vs},Rd Hz a (.lst vs)->Ps ts vs []->P (.lst false ts) (.ref a) [])
  (c14:∀ {a ts vs L},H a=some (.dK vs)->Pk ts vs L->P (.dK true ts) (.ref a) (a::L)) (c15:∀ {a ts vs},Rd Hz a (.dK vs)->Pk ts vs []->P (.dK false ts) (.ref a) [])
  (c16:∀ {a ts vs L},H a=some (.dT vs)->Px ts vs L->P (.dT true ts) (.ref a) (a::L)) (c17:∀ {a ts vs},Rd Hz a (.dT vs)->Px ts vs []->P (.dT false ts) (.ref a) [])
  (s0:Ps [] [] []) (s1:∀ {t v L M ts vs},P t v L->Ps ts vs M->Ps (t::ts) (v::vs) (L++M))
  (k0:Pk [] [] []) (k1:∀ {k t v L M ts vs},P t v L->Pk ts vs M->Pk ((k,t)::ts) ((k,v)::vs) (L++M))
  (x0:Px [] [] []) (x1:∀ {k t v L M ts vs},P t v L->Px ts vs M->Px ((k,t)::ts) ((k,v)::vs) (L++M)) :
  (∀ {t v L},RepT K Hz H t v L->P t v L)/\(∀ {t v L},RepTs K Hz H t v L->Ps t v L)/\(∀ {t v L},RepKs K Hz H t v L->Pk t v L)/\(∀ {t v L},RepXs K Hz H t v L->Px t v L):=by
 have m1:∀ {t v L},RepT K Hz H t v L->P t v L:=fun h=>RepT.rec (motive_1:=fun t v L _=>P t v L) (motive_2:=fun t v L _=>Ps t v L) (motive_3:=fun t v L _=>Pk t v L) (motive_4:=fun t v L _=>Px t v L)
  c1 c2 c3 c4 c5 c6 c7 c8 c9 (fun h _ i=>c10 h i) (fun h _ i=>c11 h i) (fun h _ i=>c12 h i) (fun h _ i=>c13 h i) (fun h _ i=>c14 h i) (fun h _ i=>c15 h i) (fun h _ i=>c16 h i) (fun h _ i=>c17 h i)
  s0 (fun e _ _ i j=>e ▸ s1 i j) k0 (fun e _ _ i j=>e ▸ k1 i j) x0 (fun e _ _ i j=>e ▸ x1 i j) h
 refine⟨m1,fun h=>?_,fun h=>?_,fun h=>?_⟩
 ·exact RepTs.rec (motive_1:=fun t v L _=>True) (motive_2:=fun t v L _=>Ps t v L) (motive_3:=fun t v L _=>True) (motive_4:=fun t v L _=>True)
   trivial trivial (fun _ _=>trivial) (fun _=>trivial) trivial trivial trivial trivial trivial (fun _ _ _=>trivial) (fun _ _ _=>trivial) (fun _ _ _=>trivial) (fun _ _ _=>trivial) (fun _ _ _=>trivial) (fun _ _ _=>trivial) (fun _ _ _=>trivial) (fun _ _ _=>trivial)
   s0 (fun e h _ _ j=>e ▸ s1 (m1 h) j) trivial (fun _ _ _ _ _=>trivial) trivial (fun _ _ _ _ _=>trivial) h
 ·exact RepKs.rec (motive_1:=fun t v L _=>True) (motive_2:=fun t v L _=>True) (motive_3:=fun t v L _=>Pk t v L) (motive_4:=fun t v L _=>True)
   trivial trivial (fun _ _=>trivial) (fun _=>trivial) trivial trivial trivial trivial trivial (fun _ _ _=>trivial) (fun _ _ _=>trivial) (fun _ _ _=>trivial) (fun _ _ _=>trivial) (fun _ _ _=>trivial) (fun _ _ _=>trivial) (fun _ _ _=>trivial) (fun _ _ _=>trivial)
   trivial (fun _ _ _ _ _=>trivial) k0 (fun e h _ _ j=>e ▸ k1 (m1 h) j) trivial (fun _ _ _ _ _=>trivial) h
 exact RepXs.rec (motive_1:=fun t v L _=>True) (motive_2:=fun t v L _=>True) (motive_3:=fun t v L _=>True) (motive_4:=fun t v L _=>Px t v L)
  trivial trivial (fun _ _=>trivial) (fun _=>trivial) trivial trivial trivial trivial trivial (fun _ _ _=>trivial) (fun _ _ _=>trivial) (fun _ _ _=>trivial) (fun _ _ _=>trivial) (fun _ _ _=>trivial) (fun _ _ _=>trivial) (fun _ _ _=>trivial) (fun _ _ _=>trivial)
  trivial (fun _ _ _ _ _=>trivial) trivial (fun _ _ _ _ _=>trivial) x0 (fun e h _ _ j=>e ▸ x1 (m1 h) j) h
noncomputable def Kps(H H':Hp)(L:List Nh):Prop:=∀ a∈L,∀ u,H a=some u->H' a=some u/\((∀ xs,H a≠some (.tup xs))->∀ xs,H' a≠some (.tup xs))
theorem Kps.hd {H H':Hp}{a:Nh}{L:List Nh}(h:Kps H H' (a::L)){u:HO}(e:H a=some u):H' a=some u/\((∀ xs,H a≠some (.tup xs))->∀ xs,H' a≠some (.tup xs)):=h _ p_ _ e
theorem Kps.tl {H H':Hp}{a:Nh}{L:List Nh}(h:Kps H H' (a::L)):Kps H H' L:=fun a m=>h a (n_ _ m)
theorem Kps.l {H H':Hp}{L M:List Nh}(h:Kps H H' (L++M)):Kps H H' L:=fun a m=>h a (Jf _ m)
theorem Kps.r {H H':Hp}{L M:List Nh}(h:Kps H H' (L++M)):Kps H H' M:=fun a m=>h a (s_ _ m)
theorem Aa{Hz H Hz' H':Hp}(ht:TK H H')(hz:Gr Hz Hz'):(∀ {t v L},RepT K Hz H t v L->Kps H H' L->RepT K Hz' H' t v L)/\(∀ {t v L},RepTs K Hz H t v L->Kps H H' L->RepTs K Hz' H' t v L)/\(∀ {t v L},RepKs K Hz H t v L->Kps H H' L->RepKs K Hz' H' t v L)/\(∀ {t v L},RepXs K Hz H t v L->Kps H H' L->RepXs K Hz' H' t v L):=
 fj (P:=fun t v L=>Kps H H' L->RepT K Hz' H' t v L) (Ps:=fun t v L=>Kps H H' L->RepTs K Hz' H' t v L) (Pk:=fun t v L=>Kps H H' L->RepKs K Hz' H' t v L) (Px:=fun t v L=>Kps H H' L->RepXs K Hz' H' t v L)
  (fun _=>.any) (fun _=>.hole) (fun h t o=>.bare (o.hd h).1 ((o.hd h).2 t)) (fun h _=>.kp (h.trans hz)) (fun _=>.non) (fun _=>.bl) (fun _=>.int) (fun _=>.str) (fun _=>.ty)
  (fun h c o=>.tup (ht _ _ h) (c o)) (fun h c o=>.cst h (c o)) (fun h c o=>.lstO (o.hd h).1 (c o.tl)) (fun h c o=>.lstZ (hz _ _ h) (c o)) (fun h c o=>.dKO (o.hd h).1 (c o.tl)) (fun h c o=>.dKZ (hz _ _ h) (c o)) (fun h c o=>.dTO (o.hd h).1 (c o.tl)) (fun h c o=>.dTZ (hz _ _ h) (c o))
  (fun _=>.nil) (fun i j o=>.cons rfl (i o.l) (j o.r)) (fun _=>.nil) (fun i j o=>.cons rfl (i o.l) (j o.r)) (fun _=>.nil) (fun i j o=>.cons rfl (i o.l) (j o.r))
theorem RepT.move {Hz H Hz' H':Hp}(ht:TK H H')(hz:Gr Hz Hz'){t:T}{v:V}{L:List Nh}(o:Kps H H' L)(h:RepT K Hz H t v L):RepT K Hz' H' t v L:=(Aa ht hz).1 h o
def Thr(H:Hp)(L:List Nh):Prop:=∀ a∈L,(∃ u,H a=some u)/\∀ xs,H a≠some (.tup xs)
theorem Thr.nil {H:Hp}:Thr H []:=fun a m=>nomatch m
theorem Thr.cons {H:Hp}{a:Nh}{u:HO}{L:List Nh}(h:H a=some u)(t:∀ xs,H a≠some (.tup xs))(c:Thr H L):Thr H (a::L):=fun b m=>by
 rcases m_.mp m with rfl | m
 ·exact⟨⟨_,h⟩,t⟩
 exact c b m
theorem Thr.app {H:Hp}{L M:List Nh}(c:Thr H L)(d:Thr H M):Thr H (L++M):=fun b m=>(F'.mp m).elim (c b) (d b)
theorem wQ{Hz H:Hp}:(∀ {t v L},RepT K Hz H t v L->Thr H L)/\(∀ {t v L},RepTs K Hz H t v L->Thr H L)/\(∀ {t v L},RepKs K Hz H t v L->Thr H L)/\(∀ {t v L},RepXs K Hz H t v L->Thr H L):=
 fj (P:=fun t v L=>Thr H L) (Ps:=fun t v L=>Thr H L) (Pk:=fun t v L=>Thr H L) (Px:=fun t v L=>Thr H L)
  .nil .nil (fun h t=>.cons h t .nil) (fun _=>.nil) .nil .nil .nil .nil .nil (fun _ c=>c) (fun _ c=>c) (fun h c=>.cons h (fun xs r=>by rw[h]at r;cases r) c) (fun _ c=>c) (fun h c=>.cons h (fun xs r=>by rw[h]at r;cases r) c) (fun _ c=>c) (fun h c=>.cons h (fun xs r=>by rw[h]at r;cases r) c) (fun _ c=>c)
  .nil (fun c d=>c.app d) .nil (fun c d=>c.app d) .nil (fun c d=>c.app d)
theorem RepT.there {Hz H:Hp}{t:T}{v:V}{L:List Nh}(h:RepT K Hz H t v L):Thr H L:=wQ.1 h
def Fzn(H Z:Hp)(L:List Nh):Prop:=∀ a∈L,Z a=H a
theorem Fzn.hd {H Z:Hp}{a:Nh}{L:List Nh}(h:Fzn H Z (a::L)){u:HO}(e:H a=some u):Rd Z a u:=.inl (by rw[h _ p_];exact e)
theorem Fzn.tl {H Z:Hp}{a:Nh}{L:List Nh}(h:Fzn H Z (a::L)):Fzn H Z L:=fun a m=>h a (n_ _ m)
theorem Fzn.l {H Z:Hp}{L M:List Nh}(h:Fzn H Z (L++M)):Fzn H Z L:=fun a m=>h a (Jf _ m)
theorem Fzn.r {H Z:Hp}{L M:List Nh}(h:Fzn H Z (L++M)):Fzn H Z M:=fun a m=>h a (s_ _ m)
theorem AK{Hz H Z:Hp}(hz:Gr Hz Z):(∀ {t v L},RepT K Hz H t v L->Fzn H Z L->RepT K Z H (er t) v [])/\(∀ {t v L},RepTs K Hz H t v L->Fzn H Z L->RepTs K Z H (erL t) v [])/\(∀ {t v L},RepKs K Hz H t v L->Fzn H Z L->RepKs K Z H (erK t) v [])/\(∀ {t v L},RepXs K Hz H t v L->Fzn H Z L->RepXs K Z H (erT t) v []):=
 fj (P:=fun t v L=>Fzn H Z L->RepT K Z H (er t) v []) (Ps:=fun t v L=>Fzn H Z L->RepTs K Z H (erL t) v []) (Pk:=fun t v L=>Fzn H Z L->RepKs K Z H (erK t) v []) (Px:=fun t v L=>Fzn H Z L->RepXs K Z H (erT t) v [])
  (fun _=>.any) (fun _=>.hole) (fun _ _ _=>.any) (fun h _=>.kp (h.trans hz)) (fun _=>.non) (fun _=>.bl) (fun _=>.int) (fun _=>.str) (fun _=>.ty)
  (fun h c o=>.tup h (c o)) (fun h c o=>.cst h (c o)) (fun h c o=>.lstZ (o.hd h) (c o.tl)) (fun h c o=>.lstZ (hz _ _ h) (c o)) (fun h c o=>.dKZ (o.hd h) (c o.tl)) (fun h c o=>.dKZ (hz _ _ h) (c o)) (fun h c o=>.dTZ (o.hd h) (c o.tl)) (fun h c o=>.dTZ (hz _ _ h) (c o))
  (fun _=>.nil) (fun i j o=>.cons rfl (i o.l) (j o.r)) (fun _=>.nil) (fun i j o=>.cons rfl (i o.l) (j o.r)) (fun _=>.nil) (fun i j o=>.cons rfl (i o.l) (j o.r))
theorem RepT.frz {Hz H Z:Hp}(hz:Gr Hz Z){t:T}{v:V}{L:List Nh}(o:Fzn H Z L)(h:RepT K Hz H t v L):RepT K Z H (er t) v []:=(AK hz).1 h o
theorem BY{Hz H:Hp}:(∀ {t v L},RepT K Hz H t v L->aX t=true->L=[])/\(∀ {t v L},RepTs K Hz H t v L->bq t=true->L=[])/\(∀ {t v L},RepKs K Hz H t v L->True)/\(∀ {t v L},RepXs K Hz H t v L->True):=
 fj (P:=fun t v L=>aX t=true->L=[]) (Ps:=fun t v L=>bq t=true->L=[]) (Pk:=fun t v L=>True) (Px:=fun t v L=>True)
  (fun _=>rfl) (fun _=>rfl) (fun _ _ n=>nomatch n) (fun _ _=>rfl) (fun _=>rfl) (fun _=>rfl) (fun _=>rfl) (fun _=>rfl) (fun _=>rfl)
  (fun _ c n=>c (by rw[aX]at n;exact n)) (fun _ _ _=>rfl) (fun _ _ n=>nomatch n) (fun _ _ _=>rfl) (fun _ _ n=>nomatch n) (fun _ _ _=>rfl) (fun _ _ n=>nomatch n) (fun _ _ _=>rfl)
  (fun _=>rfl) (fun i j n=>by
   rw[bq,E_]at n
   rw[i n.1,j n.2]
   rfl) trivial (fun _ _=>trivial) trivial (fun _ _=>trivial)
theorem RepT.nil_of {Hz H:Hp}{t:T}{v:V}{L:List Nh}(n:aX t=true)(h:RepT K Hz H t v L):L=[]:=BY.1 h n
theorem zA{Hz H Z H':Hp}(ht:TK H H'):(∀ {t v L},RepT K Hz H t v L->bK t=true->Kps H H' L->RepT K Z H' t v L)/\(∀ {t v L},RepTs K Hz H t v L->bC t=true->Kps H H' L->RepTs K Z H' t v L)/\(∀ {t v L},RepKs K Hz H t v L->lI t=true->Kps H H' L->RepKs K Z H' t v L)/\(∀ {t v L},RepXs K Hz H t v L->iG t=true->Kps H H' L->RepXs K Z H' t v L):=
 fj (P:=fun t v L=>bK t=true->Kps H H' L->RepT K Z H' t v L) (Ps:=fun t v L=>bC t=true->Kps H H' L->RepTs K Z H' t v L) (Pk:=fun t v L=>lI t=true->Kps H H' L->RepKs K Z H' t v L) (Px:=fun t v L=>iG t=true->Kps H H' L->RepXs K Z H' t v L)
  (fun _ _=>.any) (fun _ _=>.hole) (fun h t _ o=>.bare (o.hd h).1 ((o.hd h).2 t)) (fun _ n=>nomatch n) (fun _ _=>.non) (fun _ _=>.bl) (fun _ _=>.int) (fun _ _=>.str) (fun _ _=>.ty)
  (fun h c n o=>.tup (ht _ _ h) (c (by rw[bK]at n;exact n) o)) (fun h c n o=>.cst h (c (by rw[bK]at n;exact n) o)) (fun h c n o=>.lstO (o.hd h).1 (c (by rw[bK,Kg]at n;exact n) o.tl)) (fun _ _ n=>nomatch n) (fun h c n o=>.dKO (o.hd h).1 (c (by rw[bK,Kg]at n;exact n) o.tl)) (fun _ _ n=>nomatch n) (fun h c n o=>.dTO (o.hd h).1 (c (by rw[bK,Kg]at n;exact n) o.tl)) (fun _ _ n=>nomatch n)
  (fun _ _=>.nil) (fun i j n o=>.cons rfl (i (by rw[bC,E_]at n;exact n.1) o.l) (j (by rw[bC,E_]at n;exact n.2) o.r)) (fun _ _=>.nil) (fun i j n o=>.cons rfl (i (by rw[lI,E_]at n;exact n.1) o.l) (j (by rw[lI,E_]at n;exact n.2) o.r)) (fun _ _=>.nil) (fun i j n o=>.cons rfl (i (by rw[iG,E_]at n;exact n.1) o.l) (j (by rw[iG,E_]at n;exact n.2) o.r))
theorem RepT.DM {Hz H Z H':Hp}(ht:TK H H'){t:T}{v:V}{L:List Nh}(n:bK t=true)(o:Kps H H' L)(h:RepT K Hz H t v L):RepT K Z H' t v L:=(zA ht).1 h n o
abbrev Ev:=List T
abbrev Fm:=List (T × Option V)
def mQ(K:Ng)(Hz H:Hp)(t:T)(x:Option V)(L:List Nh):Prop:=(t=.any/\L=[])\/∃ v,x=some v/\RepT K Hz H t v L
inductive RepL (K:Ng) (Hz H:Hp):Fm->List Nh->Prop
 | nil:RepL K Hz H [] []
 | cons {t:T} {x:Option V} {L M N:List Nh} {r:Fm} (e:N=L++M) (h:mQ K Hz H t x L) (c:RepL K Hz H r M):RepL K Hz H ((t,x)::r) N
def Rp(K:Ng)(H:Hp)(Γ:Fm):Prop:=∃ Hz L,RepL K Hz H Γ L/\L.Nodup/\Gr Hz H/\∀ b∈L,Hz b=none
theorem mQ.move {Hz H Hz' H':Hp}(ht:TK H H')(hz:Gr Hz Hz'){t:T}{x:Option V}{L:List Nh}(ho:∀ a∈L,∀ u,H a=some u->H' a=some u/\((∀ xs,H a≠some (.tup xs))->∀ xs,H' a≠some (.tup xs)))(h:mQ K Hz H t x L):mQ K Hz' H' t x L:=by
 rcases h with⟨rfl,rfl⟩ | ⟨v,rfl,h⟩
 ·exact .inl ⟨rfl,rfl⟩
 exact .inr ⟨v,rfl,h.move ht hz ho⟩
theorem mQ.there {Hz H:Hp}{t:T}{x:Option V}{L:List Nh}(h:mQ K Hz H t x L):∀ a∈L,(∃ u,H a=some u)/\∀ xs,H a≠some (.tup xs):=by
 rcases h with⟨rfl,rfl⟩ | ⟨v,rfl,h⟩
 ·intro a m;cases m
 exact h.there
theorem RepL.move {Hz H Hz' H':Hp}(ht:TK H H')(hz:Gr Hz Hz'):∀ {Γ:Fm} {L:List Nh},(∀ a∈L,∀ u,H a=some u->H' a=some u/\((∀ xs,H a≠some (.tup xs))->∀ xs,H' a≠some (.tup xs)))->RepL K Hz H Γ L->RepL K Hz' H' Γ L
 | _,_,_,.nil=>.nil
 | _,_,ho,.cons e h c=>.cons e (h.move ht hz fun a m=>ho a (by rw[e];exact Jf _ m)) (c.move ht hz fun a m=>ho a (by rw[e];exact s_ _ m))
theorem RepL.there {Hz H:Hp}:∀ {Γ:Fm} {L:List Nh},RepL K Hz H Γ L->∀ a∈L,(∃ u,H a=some u)/\∀ xs,H a≠some (.tup xs)
 | _,_,.nil,a,m=>by cases m
 | _,_,.cons e h c,a,m=>by
  rw[e]at m
  rcases F'.mp m with m | m
  ·exact h.there a m
  exact c.there a m
theorem RepL.app {Hz H:Hp}:∀ {Γ Δ:Fm} {L M:List Nh},RepL K Hz H Γ L->RepL K Hz H Δ M->RepL K Hz H (Γ++Δ) (L++M)
 | _,_,_,_,.nil,d=>d
 | _,_,_,_,.cons e h c,d=>.cons (by rw[e,j_]) h (c.app d)
theorem RepL.split {Hz H:Hp}:∀ {Γ Δ:Fm} {N:List Nh},RepL K Hz H (Γ++Δ) N->∃ L M,N=L++M/\RepL K Hz H Γ L/\RepL K Hz H Δ M
 | [],_,N,h=>⟨[],N,rfl,.nil,h⟩
 | (t,x)::r,_,N,.cons e h c=>by
  obtain⟨L,M,rfl,h1,h2⟩:=c.split
  exact⟨_,M,by rw[e,j_],.cons rfl h h1,h2⟩
theorem RepL.perm {Hz H:Hp}{Γ Δ:Fm}(p:Γ.Perm Δ):∀ {L:List Nh},RepL K Hz H Γ L->∃ M,L.Perm M/\RepL K Hz H Δ M:=by
 induction p with
 | nil=>intro L h;exact⟨L,.refl _,h⟩
 | cons x q ih=>
  intro L h
  cases h with
  | cons e h c=>
   obtain⟨M,p1,h1⟩:=ih c
   exact⟨_,by rw[e];exact p1.append_left _,.cons rfl h h1⟩
 | swap x y l=>
  intro L h
  cases h with
  | cons e h c=>
   cases c with
   | cons e' h' c'=>
    refine⟨_,?_,.cons rfl h' (.cons rfl h c')⟩
    rw[e,e',<-j_,<-j_]
    exact JR.append_right _
 | trans p q ih1 ih2=>
  intro L h
  obtain⟨M,p1,h1⟩:=ih1 h
  obtain⟨N,p2,h2⟩:=ih2 h1
  exact⟨N,p1.trans p2,h2⟩
theorem Rp.perm {H:Hp}{Γ Δ:Fm}(h:Rp K H Γ)(p:Γ.Perm Δ):Rp K H Δ:=by
 obtain⟨Hz,L,h,nd,g,d⟩:=h
 obtain⟨M,q,h'⟩:=h.perm p
 exact⟨Hz,M,h',q.nodup_iff.mp nd,g,fun b m=>d b (q.mem_iff.mpr m)⟩
theorem Rp.part {H:Hp}{Γ Δ:Fm}(h:Rp K H (Γ++Δ)):Rp K H Δ:=by
 obtain⟨Hz,L,h,nd,g,d⟩:=h
 obtain⟨L1,L2,rfl,_,h2⟩:=h.split
 exact⟨Hz,L2,h2,(JE.mp nd).2.1,g,fun b m=>d b (s_ _ m)⟩
theorem Rp.tail {H:Hp}{x:T × Option V}{Γ:Fm}(h:Rp K H (x::Γ)):Rp K H Γ:=Rp.part (Γ:=[x]) h
theorem fm{H H':Hp}(s:aP H H')(a:Nh)(u:HO)(e:H a=some u):H' a=some u/\((∀ xs,H a≠some (.tup xs))->∀ xs,H' a≠some (.tup xs)):=
 ⟨s _ _ e,fun n xs r=>n xs (by rw[s _ _ e]at r;exact e.trans r)⟩
theorem Rp.same {H H':Hp}{Γ:Fm}(h:Rp K H Γ)(s:aP H H'):Rp K H' Γ:=by
 obtain⟨Hz,L,h,nd,g,d⟩:=h
 exact⟨Hz,L,h.move (aP.tk s) .bz (fun a m u e=>fm s a u e),nd,g.trans (.of s),d⟩
end
section
variable{K:Ng}
theorem qB{H H':Hp}{p:Nh}{o:HO}(s:Put H p o H')(a:Nh)(n:a≠p)(u:HO)(e:H a=some u):H' a=some u/\((∀ xs,H a≠some (.tup xs))->∀ xs,H' a≠some (.tup xs)):=
 ⟨by rw[s.else_ a n];exact e,fun m xs r=>m xs (by rw[s.else_ a n]at r;exact r)⟩
theorem RepTs.len {Hz H:Hp}:∀ {ts:List T} {vs:List V} {L:List Nh},RepTs K Hz H ts vs L->ts.length=vs.length
 | _,_,_,.nil=>rfl
 | _,_,_,.cons _ _ c=>by rw[i_,i_,c.len]
abbrev zz(ts:List T)(vs:List V):Fm:=ts.zip (vs.map some)
theorem RepTs.toL {Hz H:Hp}:∀ {ts:List T} {vs:List V} {L:List Nh},RepTs K Hz H ts vs L->RepL K Hz H (zz ts vs) L
 | _,_,_,.nil=>.nil
 | _,_,_,.cons e h c=>.cons e (.inr ⟨_,rfl,h⟩) c.toL
theorem RepL.t4 {Hz H:Hp}:∀ {ts:List T} {vs:List V} {L:List Nh},ts.length=vs.length->RepL K Hz H (zz ts vs) L->RepTs K Hz H ts vs L
 | [],[],_,_,.nil=>.nil
 | [],v::vs,_,l,_=>by simp at l
 | t::ts,[],_,l,_=>by simp at l
 | t::ts,v::vs,L,l,h=>by
  have h:RepL K Hz H ((t,some v)::zz ts vs) L:=h
  cases h with
  | cons e h c=>
   refine .cons e ?_ (c.t4 (by simpa using l))
   rcases h with⟨rfl,rfl⟩ | ⟨w,e2,h⟩
   ·exact .any
   cases e2;exact h
theorem RepKs.toL {Hz H:Hp}:∀ {ts:List (Key × T)} {vs:List (Key × V)} {L:List Nh},RepKs K Hz H ts vs L->ts.map (·.1)=vs.map (·.1)/\RepTs K Hz H (ts.map (·.2)) (vs.map (·.2)) L
 | _,_,_,.nil=>⟨rfl,.nil⟩
 | _,_,_,.cons e h c=>by
  obtain⟨e1,c1⟩:=c.toL
  exact⟨by rw[f_,f_,e1],.cons e h c1⟩
theorem RepKs.ofL {Hz H:Hp}:∀ {ts:List (Key × T)} {vs:List (Key × V)} {L:List Nh},ts.map (·.1)=vs.map (·.1)->RepTs K Hz H (ts.map (·.2)) (vs.map (·.2)) L->RepKs K Hz H ts vs L
 | [],[],_,_,.nil=>.nil
 | [],_::_,_,e,_=>by simp at e
 | _::_,[],_,e,_=>by simp at e
 | (k,t)::ts,(k',v)::vs,L,e,.cons e2 h c=>by
  rw[f_,f_,JW]at e
  have e0:k=k':=e.1
  subst e0
  exact .cons e2 h (RepKs.ofL e.2 c)
theorem RepXs.toL {Hz H:Hp}:∀ {ts:List (List Key × T)} {vs:List (List Key × V)} {L:List Nh},RepXs K Hz H ts vs L->ts.map (·.1)=vs.map (·.1)/\RepTs K Hz H (ts.map (·.2)) (vs.map (·.2)) L
 | _,_,_,.nil=>⟨rfl,.nil⟩
 | _,_,_,.cons e h c=>by
  obtain⟨e1,c1⟩:=c.toL
  exact⟨by rw[f_,f_,e1],.cons e h c1⟩
theorem RepXs.ofL {Hz H:Hp}:∀ {ts:List (List Key × T)} {vs:List (List Key × V)} {L:List Nh},ts.map (·.1)=vs.map (·.1)->RepTs K Hz H (ts.map (·.2)) (vs.map (·.2)) L->RepXs K Hz H ts vs L
 | [],[],_,_,.nil=>.nil
 | [],_::_,_,e,_=>by simp at e
 | _::_,[],_,e,_=>by simp at e
 | (k,t)::ts,(k',v)::vs,L,e,.cons e2 h c=>by
  rw[f_,f_,JW]at e
  have e0:k=k':=e.1
  subst e0
  exact .cons e2 h (RepXs.ofL e.2 c)
theorem A6{H H':Hp}{p:Nh}{o:HO}{t:T}{Γ Δ:Fm}(h:Rp K H (Γ++Δ))(hp:H p=none)(s:aP H H')(hn:H' p=some o)
  (mk:∀ Hz L,RepL K Hz H' Γ L->RepT K Hz H' t (.ref p) (p::L)):Rp K H' ((t,some (.ref p))::Δ):=by
 obtain⟨Hz,N,h,nd,g,d⟩:=h
 obtain⟨L,M,rfl,h1,h2⟩:=h.split
 have mv:∀ a∈L++M,∀ u,H a=some u->H' a=some u/\((∀ xs,H a≠some (.tup xs))->∀ xs,H' a≠some (.tup xs)):=fun a _ u e=>fm s a u e
 have h1':=h1.move (aP.tk s) .bz fun a m=>mv a (Jf _ m)
 have h2':=h2.move (aP.tk s) .bz fun a m=>mv a (s_ _ m)
 refine⟨Hz,(p::L)++M,.cons rfl (.inr ⟨_,rfl,mk Hz L h1'⟩) h2',?_,g.trans (.of s),?_⟩
 ·rw[Jy,D']
  refine⟨fun m=>?_,nd⟩
  obtain⟨⟨u,e⟩,_⟩:=h.there p m
  rw[hp]at e;cases e
 intro b m
 rcases m_.mp m with rfl | m
 ·exact g.none hp
 exact d b m
theorem cI{H H':Hp}{p:Nh}{ts:List T}{vs:List V}{Δ:Fm}(h:Rp K H (zz ts vs++Δ))(l:ts.length=vs.length)(hp:H p=none)(s:aP H H')(hn:H' p=some (.lst vs)):Rp K H' ((.lst true ts,some (.ref p))::Δ):=
 A6 h hp s hn fun _ _ q=>.lstO hn (q.t4 l)
theorem dB{H H':Hp}{p:Nh}{ts:List T}{vs:List V}{Δ:Fm}(h:Rp K H (zz ts vs++Δ))(l:ts.length=vs.length)(s:aP H H')(hn:H' p=some (.tup vs)):Rp K H' ((.tup ts,some (.ref p))::Δ):=by
 obtain⟨Hz,N,h,nd,g,d⟩:=h.same s
 obtain⟨L,M,rfl,h1,h2⟩:=h.split
 exact⟨Hz,L++M,.cons rfl (.inr ⟨_,rfl,.tup hn (h1.t4 l)⟩) h2,nd,g,d⟩
theorem fw{H:Hp}{ts:List T}{x:Option V}{Γ:Fm}(h:Rp K H ((.lst true ts,x)::Γ)):∃ a vs,x=some (.ref a)/\H a=some (.lst vs)/\ts.length=vs.length/\Rp K H ((.bare,some (.ref a))::(zz ts vs++Γ)):=by
 obtain⟨Hz,N,h,nd,g,d⟩:=h
 cases h with
 | cons e h c=>
  rcases h with⟨h,_⟩ | ⟨v,rfl,h⟩
  ·cases h
  cases h with
  | lstO h1 c1=>
   refine⟨_,_,rfl,h1,c1.len,Hz,N,.cons (L:=[_]) (M:=_++_) (by rw[e];rfl) (.inr ⟨_,rfl,.bare h1 fun xs r=>?_⟩) (c1.toL.app c),nd,g,d⟩
   rw[h1]at r;cases r
theorem oN{H H':Hp}{a:Nh}{o:HO}{t:T}{Γ Δ:Fm}(h:Rp K H ((.bare,some (.ref a))::(Γ++Δ)))(p:Put H a o H')
  (mk:∀ Hz L,RepL K Hz H' Γ L->RepT K Hz H' t (.ref a) (a::L)):Rp K H' ((t,some (.ref a))::Δ):=by
 obtain⟨Hz,N,h,nd,g,d⟩:=h
 cases h with
 | cons e h c=>
  rcases h with⟨h,_⟩ | ⟨v,ev,h⟩
  ·cases h
  cases ev
  cases h with
  | bare h1 nt=>
   obtain⟨L,M,e2,h2,h3⟩:=c.split
   subst e;subst e2
   rw[Mj,D']at nd
   have tk:TK H H':=Put.tk p nt
   have ne:∀ b∈L++M,b≠a:=fun b m z=>nd.1 (z ▸ m)
   have g':Gr Hz H':=fun b u r=>by
    have hb:b≠a:=fun z=>by
     obtain⟨w,q⟩:=Rd.some r
     rw[z,d a (by rw[Mj];exact p_)]at q
     cases q
    rcases g b u r with r | ⟨o,r⟩
    ·exact .inl (by rw[p.else_ b hb];exact r)
    exact .inr ⟨o,by rw[p.else_ b hb];exact r⟩
   refine⟨Hz,(a::L)++M,.cons rfl (.inr ⟨_,rfl,mk Hz L ?_⟩) ?_,?_,g',?_⟩
   ·exact h2.move tk .bz fun b m=>qB p b (ne b (Jf _ m))
   ·exact h3.move tk .bz fun b m=>qB p b (ne b (s_ _ m))
   ·rw[Jy,D'];exact nd
   exact d
theorem eN{H H':Hp}{a:Nh}{ts:List T}{vs:List V}{Γ:Fm}(h:Rp K H ((.bare,some (.ref a))::(zz ts vs++Γ)))(l:ts.length=vs.length)(p:Put H a (.lst vs) H'):Rp K H' ((.lst true ts,some (.ref a))::Γ):=
 oN h p fun _ _ q=>.lstO p.at_ (q.t4 l)
theorem qV{H:Hp}{ts:List (Key × T)}{x:Option V}{Γ:Fm}(h:Rp K H ((.dK true ts,x)::Γ)):∃ a vs,x=some (.ref a)/\H a=some (.dK vs)/\ts.map (·.1)=vs.map (·.1)/\Rp K H ((.bare,some (.ref a))::(zz (ts.map (·.2)) (vs.map (·.2))++Γ)):=by
 obtain⟨Hz,N,h,nd,g,d⟩:=h
 cases h with
 | cons e h c=>
  rcases h with⟨h,_⟩ | ⟨v,rfl,h⟩
  ·cases h
  cases h with
  | dKO h1 c1=>
   obtain⟨e1,c2⟩:=c1.toL
   refine⟨_,_,rfl,h1,e1,Hz,N,.cons (L:=[_]) (M:=_++_) (by rw[e];rfl) (.inr ⟨_,rfl,.bare h1 fun xs r=>?_⟩) (c2.toL.app c),nd,g,d⟩
   rw[h1]at r;cases r
theorem xV{H:Hp}{ts:List (List Key × T)}{x:Option V}{Γ:Fm}(h:Rp K H ((.dT true ts,x)::Γ)):∃ a vs,x=some (.ref a)/\H a=some (.dT vs)/\ts.map (·.1)=vs.map (·.1)/\Rp K H ((.bare,some (.ref a))::(zz (ts.map (·.2)) (vs.map (·.2))++Γ)):=by
 obtain⟨Hz,N,h,nd,g,d⟩:=h
 cases h with
 | cons e h c=>
  rcases h with⟨h,_⟩ | ⟨v,rfl,h⟩
  ·cases h
  cases h with
  | dTO h1 c1=>
   obtain⟨e1,c2⟩:=c1.toL
   refine⟨_,_,rfl,h1,e1,Hz,N,.cons (L:=[_]) (M:=_++_) (by rw[e];rfl) (.inr ⟨_,rfl,.bare h1 fun xs r=>?_⟩) (c2.toL.app c),nd,g,d⟩
   rw[h1]at r;cases r
theorem br{κ α β:Type}{ts:List (κ × α)}{vs:List (κ × β)}(e:ts.map (·.1)=vs.map (·.1)):ts.length=vs.length:=by
 have:=congrArg Ly e
 rwa[b_,b_]at this
theorem mZ{H H':Hp}{a:Nh}{ts:List (Key × T)}{vs:List (Key × V)}{Γ:Fm}(h:Rp K H ((.bare,some (.ref a))::(zz (ts.map (·.2)) (vs.map (·.2))++Γ)))(l:ts.map (·.1)=vs.map (·.1))(p:Put H a (.dK vs) H'):Rp K H' ((.dK true ts,some (.ref a))::Γ):=
 oN h p fun _ _ q=>.dKO p.at_ (RepKs.ofL l (q.t4 (by rw[b_,b_];exact br l)))
theorem xj{H H':Hp}{a:Nh}{ts:List (List Key × T)}{vs:List (List Key × V)}{Γ:Fm}(h:Rp K H ((.bare,some (.ref a))::(zz (ts.map (·.2)) (vs.map (·.2))++Γ)))(l:ts.map (·.1)=vs.map (·.1))(p:Put H a (.dT vs) H'):Rp K H' ((.dT true ts,some (.ref a))::Γ):=
 oN h p fun _ _ q=>.dTO p.at_ (RepXs.ofL l (q.t4 (by rw[b_,b_];exact br l)))
theorem Ax{H H':Hp}{p:Nh}{Δ:Fm}(h:Rp K H Δ)(hp:H p=none)(s:aP H H')(hn:H' p=some (.dT [])):Rp K H' ((.dT true [],some (.ref p))::Δ):=
 A6 (Γ:=[]) h hp s hn fun _ _ q=>by cases q;exact .dTO hn .nil
theorem pM{H:Hp}{t:T}{x:Option V}{Γ:Fm}(h:Rp K H ((t,x)::Γ)):Rp K H ((er t,x)::Γ):=by
 obtain⟨Hz,N,h,nd,g,d⟩:=h
 cases h with
 | @cons _ _ L M _ _ e h c=>
  rcases h with⟨rfl,rfl⟩ | ⟨v,rfl,h⟩
  ·exact⟨Hz,N,.cons e (.inl ⟨rfl,rfl⟩) c,nd,g,d⟩
  subst e
  have dz:∀ b∈L,Hz b=none:=fun b m=>d b (Jf _ m)
  let Z:Hp:=fun b=>if b∈L then H b else Hz b
  have hz:Gr Hz Z:=fun b u r=>by
   have nb:b ∉ L:=fun m=>by
    obtain⟨w,q⟩:=Rd.some r
    rw[dz b m]at q;cases q
   rcases r with r | ⟨o,r⟩
   ·exact .inl (by show(if b∈L then H b else Hz b)=_;rw[if_neg nb];exact r)
   exact .inr ⟨o,by show(if b∈L then H b else Hz b)=_;rw[if_neg nb];exact r⟩
  have zh:Gr Z H:=fun b u r=>by
   by_cases nb:b∈L
   ·rcases r with r | ⟨o,r⟩
    ·exact .inl (by have r:(if b∈L then H b else Hz b)=_:=r;rw[if_pos nb]at r;exact r)
    exact .inr ⟨o,by have r:(if b∈L then H b else Hz b)=_:=r;rw[if_pos nb]at r;exact r⟩
   refine g b u ?_
   rcases r with r | ⟨o,r⟩
   ·exact .inl (by have r:(if b∈L then H b else Hz b)=_:=r;rw[if_neg nb]at r;exact r)
   exact .inr ⟨o,by have r:(if b∈L then H b else Hz b)=_:=r;rw[if_neg nb]at r;exact r⟩
  have nd2:=JE.mp nd
  refine⟨Z,[]++M,.cons rfl (.inr ⟨v,rfl,h.frz hz fun b m=>?_⟩) (c.move (fun _ _ r=>r) hz fun b m u e=>⟨e,fun n=>n⟩),nd2.2.1,zh,fun b m=>?_⟩
  ·show(if b∈L then H b else Hz b)=_
   rw[if_pos m]
  show(if b∈L then H b else Hz b)=_
  rw[if_neg (fun z=>nd2.2.2 b z b m rfl)]
  exact d b (s_ _ m)
theorem jE{H:Hp}{t:T}{x:Option V}{Γ:Fm}(h:Rp K H ((t,x)::Γ))(n:aX t=true):Rp K H ((t,x)::(t,x)::Γ):=by
 obtain⟨Hz,N,h,nd,g,d⟩:=h
 cases h with
 | @cons _ _ L M _ _ e h c=>
  have hL:L=[]:=by
   rcases h with⟨_,rfl⟩ | ⟨v,_,h⟩
   ·rfl
   exact h.nil_of n
  subst hL
  exact⟨Hz,N,.cons (L:=[]) (M:=N) rfl h (.cons e h c),nd,g,d⟩
theorem mQ.view {Hz H:Hp}(g:Gr Hz H){t:T}{x:Option V}{L:List Nh}(h:mQ K Hz H t x L):mQ K H H (er t) x []:=by
 rcases h with⟨rfl,rfl⟩ | ⟨v,rfl,h⟩
 ·exact .inl ⟨rfl,rfl⟩
 exact .inr ⟨v,rfl,h.frz g fun _ _=>rfl⟩
theorem RepL.view {Hz H:Hp}(g:Gr Hz H):∀ {Γ:Fm} {L:List Nh},RepL K Hz H Γ L->RepL K H H (Γ.map fun p=>(er p.1,p.2)) []
 | _,_,.nil=>.nil
 | _,_,.cons e h c=>.cons rfl (h.view g) (c.view g)
theorem oE{H:Hp}{Γ:Fm}(h:Rp K H Γ):Rp K H ((Γ.map fun p=>(er p.1,p.2))++[(.kp H,some .non)]):=by
 obtain⟨Hz,N,h,nd,g,d⟩:=h
 refine⟨H,[]++[],(h.view g).app (.cons rfl (.inr ⟨_,rfl,.kp .bz⟩) .nil),Kd,.bz,fun b m=>by cases m⟩
def over(H H':Hp):Hp:=fun b=>match H b with
 | some u=>some u
 | none=>H' b
theorem d6{H H':Hp}{b:Nh}{u:HO}(e:H b=some u):over H H' b=some u:=by unfold over;rw[e]
theorem jw{H H':Hp}{b:Nh}(e:H b=none):over H H' b=H' b:=by unfold over;rw[e]
theorem xi(H H':Hp):aP H (over H H'):=fun b u e=>d6 e
theorem p8{H H':Hp}(g:Gr H H'){b:Nh}:over H H' b=H' b\/∃ o u,H' b=some (.frz o u)/\over H H' b=some u:=by
 cases q:H b with
 | none=>exact .inl (jw q)
 | some u=>
  rw[d6 q]
  rcases g b u (.inl q)with r | ⟨o,r⟩
  ·exact .inl r.symm
  exact .inr ⟨o,u,r,rfl⟩
theorem qR{H H':Hp}(g:Gr H H'){b:Nh}{xs:List V}(r:H' b=some (.tup xs)):over H H' b=some (.tup xs):=by
 rcases p8 g (b:=b)with e | ⟨o,u,e,_⟩
 ·rw[e];exact r
 rw[r]at e;cases e
theorem oK{H H':Hp}{t:T}{x:Option V}{Γ Δ:Fm}(h:Rp K H Γ)(q:Rp K H' ((t,x)::(Δ++[(.kp H,some .non)])))(n:bK t=true):Gr H H'/\Rp K (over H H') ((t,x)::Γ):=by
 obtain⟨Hy,N',q,nd',g',d'⟩:=q
 cases q with
 | @cons _ _ L M _ _ e h1 c=>
  have hkp:Gr H Hy:=by
   obtain⟨_,_,_,_,c2⟩:=c.split
   cases c2 with
   | cons _ h2 _=>
    rcases h2 with⟨z,_⟩ | ⟨_,_,h2⟩
    ·cases z
    cases h2 with
    | kp z=>exact z
  have gr:=hkp.trans g'
  refine⟨gr,?_⟩
  subst e
  have nd2:=JE.mp nd'
  have hL:∀ b∈L,H b=none:=fun b m=>hkp.none (d' b (Jf _ m))
  obtain⟨Hz,N,h,nd,g,d⟩:=h
  have so:=xi H H'
  have tk:TK H' (over H H'):=fun b xs r=>qR gr r
  have h1':mQ K Hz (over H H') t x L:=by
   rcases h1 with⟨rfl,rfl⟩ | ⟨v,rfl,h1⟩
   ·exact .inl ⟨rfl,rfl⟩
   refine .inr ⟨v,rfl,h1.DM tk n fun b m u e=>?_⟩
   have eo:=jw (H':=H') (hL b m)
   exact⟨eo.trans e,fun nt xs r=>nt xs (by rw[<-eo];exact r)⟩
  refine⟨Hz,L++N,.cons rfl h1' (h.move (aP.tk so) .bz fun b m u e=>fm so b u e),?_,g.trans (.of so),?_⟩
  ·rw[JE]
   refine⟨nd2.1,nd,fun b m b' m' z=>?_⟩
   subst z
   obtain⟨⟨u,e⟩,_⟩:=h.there b m'
   rw[hL b m]at e;cases e
  intro b m
  rcases F'.mp m with m | m
  ·exact g.none (hL b m)
  exact d b m
theorem oA:∀ {ts:List T} {vs:List V} {i:Nat} {t:T},ts.length=vs.length->ts[i]?=some t->∃ w,vs[i]?=some w
 | ts,vs,i,t,l,e=>by
  have h:i < ts.length:=(c_.mp e).1
  exact⟨vs[i]'(by omega),a_ (by omega)⟩
theorem i5{α:Type}:∀ {l:List α} {i:Nat} {x y:α},l[i]?=some y->(l.set i x).set i y=l
 | [],i,x,y,e=>by simp at e
 | a::l,0,x,y,e=>by simp at e;subst e;rfl
 | a::l,i + 1,x,y,e=>by
  simp only[Kf]at e
  rw[Lz,Lz,i5 e]
end
theorem kK{α β:Type}:∀ {l:List α} {m:List β} {i:Nat} {a:α} {b:β} (t:α) (y:β),l[i]?=some a->m[i]?=some b->((a,b)::(l.set i t).zip (m.set i y)).Perm ((t,y)::l.zip m)
 | [],m,i,a,b,t,y,h,_=>by simp at h
 | x::l,[],i,a,b,t,y,_,h=>by simp at h
 | x::l,z::m,0,a,b,t,y,h,g=>by
  simp only[La,MG]at h g
  subst h;subst g
  exact .swap _ _ _
 | x::l,z::m,i + 1,a,b,t,y,h,g=>by
  simp only[Kf]at h g
  have p:=kK t y h g
  show MV ((a,b)::(x,z)::(l.set i t).zip (m.set i y)) ((t,y)::(x,z)::l.zip m)
  exact(Lw _ _ _).trans ((p.cons _).trans (.swap _ _ _))
theorem set_same{α:Type}{l:List α}{i:Nat}{x:α}(h:l[i]?=some x):l.set i x=l:=by
 have:=i5 (x:=x) h
 rw[L4]at this
 exact this
section
variable{K:Ng}
def Rs(K:Ng)(H:Hp)(env:Ev)(σ:St)(Fr:Fm):Prop:=env.length=σ.length/\Rp K H (env.zip σ++Fr)
theorem eP{H:Hp}{x:Option V}{Γ:Fm}(h:Rp K H Γ):Rp K H ((.any,x)::Γ):=by
 obtain⟨Hz,N,h,nd,g,d⟩:=h
 exact⟨Hz,N,.cons (L:=[]) rfl (.inl ⟨rfl,rfl⟩) h,nd,g,d⟩
theorem Rs.perm {H:Hp}{env:Ev}{σ:St}{Fr Gr:Fm}(h:Rs K H env σ Fr)(p:Fr.Perm Gr):Rs K H env σ Gr:=⟨h.1,h.2.perm (p.append_left _)⟩
theorem Rs.drop {H:Hp}{env:Ev}{σ:St}{x:T × Option V}{Fr:Fm}(h:Rs K H env σ (x::Fr)):Rs K H env σ Fr:=⟨h.1,(h.2.perm h_).tail⟩
theorem Rs.head {H:Hp}{env:Ev}{σ:St}{x:T × Option V}{Fr:Fm}(h:Rs K H env σ (x::Fr)):Rp K H (x::(env.zip σ++Fr)):=h.2.perm h_
theorem Rs.of {H:Hp}{env:Ev}{σ:St}{x:T × Option V}{Fr:Fm}(l:env.length=σ.length)(h:Rp K H (x::(env.zip σ++Fr))):Rs K H env σ (x::Fr):=⟨l,h.perm h_.symm⟩
theorem Rs.chg {H H':Hp}{env:Ev}{σ:St}{Δ Δ' Fr:Fm}(h:Rs K H env σ (Δ++Fr))(f:∀ Γ,Rp K H (Δ++Γ)->Rp K H' (Δ'++Γ)):Rs K H' env σ (Δ'++Fr):=by
 refine⟨h.1,?_⟩
 have p:∀ A:Fm,(A++(env.zip σ++Fr)).Perm (env.zip σ++(A++Fr)):=fun A=>by
  rw[<-j_,<-j_]
  exact JR.append_right _
 exact(f _ (h.2.perm (p Δ).symm)).perm (p Δ')
theorem Rs.slot {H:Hp}{env:Ev}{σ:St}{Fr:Fm}{i:Nat}{t:T}(h:Rs K H env σ Fr)(e:env[i]?=some t):∃ x,σ[i]?=some x/\Rs K H (env.set i .any) σ ((t,x)::Fr):=by
 have hi:i < env.length:=(c_.mp e).1
 have hs:i < σ.length:=by rw[<-h.1];exact hi
 have ex:σ[i]?=some σ[i]:=a_ hs
 refine⟨σ[i],ex,by rw[Jg];exact h.1,?_⟩
 have p:=kK (T.any) σ[i] e ex
 rw[set_same ex]at p
 refine(eP (x:=σ[i]) h.2).perm ?_
 refine I_ ?_ h_.symm
 exact(p.symm.append_right Fr)
theorem Rs.jG {H:Hp}{env:Ev}{σ:St}{Fr:Fm}{i:Nat}{t:T}{x:Option V}(h:Rs K H env σ ((t,x)::Fr))(hi:i < env.length)(ex:σ[i]?=some x):Rs K H (env.set i t) σ Fr:=by
 have e:env[i]?=some env[i]:=a_ hi
 refine⟨by rw[Jg];exact h.1,?_⟩
 have p:=kK t x e ex
 rw[set_same ex]at p
 refine Rp.tail (x:=(env[i],x)) (h.2.perm ?_)
 refine h_.trans ?_
 exact(p.symm.append_right Fr)
theorem Rs.store {H:Hp}{env:Ev}{σ:St}{Fr:Fm}{i:Nat}{t:T}{v:V}(h:Rs K H env σ ((t,some v)::Fr))(hi:i < env.length):Rs K H (env.set i t) (σ.set i (some v)) Fr:=by
 have e:env[i]?=some env[i]:=a_ hi
 have hs:i < σ.length:=by rw[<-h.1];exact hi
 have ex:σ[i]?=some σ[i]:=a_ hs
 refine⟨by rw[Jg,Jg];exact h.1,?_⟩
 have p:=kK t (some v) e ex
 refine Rp.tail (x:=(env[i],σ[i])) (h.2.perm ?_)
 refine h_.trans ?_
 exact(p.symm.append_right Fr)
end
theorem lD{X:Cx}{pins:List (Nh × Obj)}{σ σ':St}{H H':Hp}{s s':Ni}(I:Inv X pins σ H s)(J:Inv X pins σ' H' s')(g:Gr H H'):Inv X pins σ' (over H H') s':=by
 have nn:∀ b,H' b=none->over H H' b=none:=fun b e=>by rw[jw (g.none e)];exact e
 refine⟨J.ok,J.os,J.bare,⟨J.base.keep,J.base.slot,?_,J.base.there,?_,?_,?_⟩,J.loc,J.cell,nn _ J.free,fun x c e=>nn _ (J.freeC x c e),fun p hp=>?_,?_,J.len⟩
 ·exact fun b o e1 e2 e3=>nn _ (J.base.free b o e1 e2 e3)
 ·exact fun b xs e=>d6 (I.base.tups b xs e)
 ·exact fun b o u e=>d6 (I.base.frzs b o u e)
 ·exact fun b ps e=>by
   obtain⟨m,em⟩:=I.base.tbls b ps e
   exact⟨m,d6 em⟩
 ·obtain⟨h1,h2,h3⟩:=J.pin p hp
  exact⟨h1,nn _ h2,h3⟩
 intro b u e
 have ho:∀ c y,H' c=some (.own y)->over H H' c=some (.own y):=fun c y q=>by
  rcases p8 g (b:=c)with z | ⟨o,w,z,_⟩
  ·rw[z];exact q
  rw[q]at z;cases z
 have ht:∀ c xs,H' c=some (.tup xs)->over H H' c=some (.tup xs):=fun c xs q=>qR g q
 have key:aZ X.prog X.w H' s'.heap b u:=by
  rcases p8 g (b:=b)with z | ⟨o,w,z,zw⟩
  ·rw[z]at e;exact J.hok b u e
  rw[zw]at e
  cases e
  exact(J.hok b _ z).2
 exact key.dI (fun c v _ q=>q) (fun c=>ho c b) ht
theorem Bs{X:Cx}{e:Nz}{t:TE}(h:PE X e t):PE X e (fun σ H Q=>t σ H fun v H'=>Gr H H'/\Q v (over H H')):=fun pins s σ H Q I q=>
 thn (h pins s σ H _ I q) fun u s' ⟨v,H',I',r,g,q'⟩=>⟨v,over H H',lD I I' g,r,q'⟩
theorem C8{X:Cx}{e:Nz}{t:TT}(h:PT X e t):PT X e (fun σ H Q=>t σ H fun b H'=>Gr H H'/\Q b (over H H')):=fun pins s σ H Q I q=>
 thn (h pins s σ H _ I q) fun b s' ⟨H',I',g,q'⟩=>⟨over H H',lD I I' g,q'⟩
abbrev PF:=Ev->(T->Ev->Prop)->Prop
abbrev PB:=Ev->(Bool->Ev->Prop)->Prop
abbrev PFs:=Ev->(List T->Ev->Prop)->Prop
noncomputable def wE(K:Ng)(f:PF):TE:=fun σ H Q=>∃ env Fr k,Rs K H env σ Fr/\f env k/\∀ t env' v H',k t env'->Rs K H' env' σ ((t,some v)::Fr)->Q v H'
def wB(K:Ng)(f:PB):TT:=fun σ H Q=>∃ env Fr k,Rs K H env σ Fr/\f env k/\∀ b env' H',k b env'->Rs K H' env' σ Fr->Q b H'
noncomputable def wA(K:Ng)(f:PFs):TA:=fun σ H Q=>∃ env Fr k,Rs K H env σ Fr/\f env k/\∀ ts env' vs H',k ts env'->ts.length=vs.length->Rs K H' env' σ (zz ts vs++Fr)->Q vs H'
def GE(X:Cx)(e:Nz)(f:PF):Prop:=PE X e (wE X.K f)
def GT(X:Cx)(e:Nz)(f:PB):Prop:=PT X e (wB X.K f)
def GW(X:Cx)(e:Nz)(f:PB):Prop:=PW X e (wB X.K f)
def GA(X:Cx)(es:List Nz)(f:PFs):Prop:=PA X es (wA X.K f)
theorem PE.imp {X:Cx}{e:Nz}{t t':TE}(h:PE X e t)(k:∀ σ H Q,t' σ H Q->t σ H Q):PE X e t':=fun pins s σ H Q I q=>h pins s σ H Q I (k _ _ _ q)
theorem PT.imp {X:Cx}{e:Nz}{t t':TT}(h:PT X e t)(k:∀ σ H Q,t' σ H Q->t σ H Q):PT X e t':=fun pins s σ H Q I q=>h pins s σ H Q I (k _ _ _ q)
theorem PW.imp {X:Cx}{e:Nz}{t t':TT}(h:PW X e t)(k:∀ σ H Q,t' σ H Q->t σ H Q):PW X e t':=fun wh pins s σ H Q I q=>h wh pins s σ H Q I (k _ _ _ q)
theorem PA.imp {X:Cx}{es:List Nz}{t t':TA}(h:PA X es t)(k:∀ σ H Q,t' σ H Q->t σ H Q):PA X es t':=fun pos pins s σ H Q I q=>h pos pins s σ H Q I (k _ _ _ q)
def fQ(f:PF):PF:=fun env k=>f (erL env) fun t _=>bK t=true/\k t env
def fQT(f:PB):PB:=fun env k=>f (erL env) fun b _=>k b env
theorem kG:∀(env:Ev) (σ:St),(env.zip σ).map (fun p=>(er p.1,p.2))=(erL env).zip σ
 | [],σ=>by simp[erL]
 | t::env,[]=>by simp
 | t::env,x::σ=>by
  rw[erL,J5,f_,J5,kG env σ]
theorem aN{X:Cx}{e:Nz}{f:PF}(h:GE X e f):GE X e (fQ f):=by
 refine PE.imp (Bs h) ?_
 rintro σ H Q ⟨env,Fr,k,rs,q,c⟩
 have rv:Rs X.K H (erL env) σ ((Fr.map fun p=>(er p.1,p.2))++[(.kp H,some .non)]):=by
  refine⟨by rw[k9];exact rs.1,?_⟩
  have:=oE rs.2
  rw[z_,kG,j_]at this
  exact this
 refine⟨erL env,_,_,rv,q,?_⟩
 rintro t env' v H' ⟨n,kt⟩ rs'
 obtain⟨g,r2⟩:=oK rs.2 (Δ:=env'.zip σ++(Fr.map fun p=>(er p.1,p.2))) (by rw[j_];exact rs'.head) n
 exact⟨g,c t env v _ kt (.of rs.1 r2)⟩
theorem yK{K:Ng}{H H':Hp}{Γ Δ:Fm}(h:Rp K H Γ)(q:Rp K H' (Δ++[(.kp H,some .non)])):Gr H H'/\Rp K (over H H') Γ:=by
 obtain⟨g,r⟩:=oK (t:=.any) (x:=none) h (eP q) rfl
 exact⟨g,r.tail⟩
theorem gB{X:Cx}{e:Nz}{f:PB}(h:GT X e f):GT X e (fQT f):=by
 refine PT.imp (C8 h) ?_
 rintro σ H Q ⟨env,Fr,k,rs,q,c⟩
 have rv:Rs X.K H (erL env) σ ((Fr.map fun p=>(er p.1,p.2))++[(.kp H,some .non)]):=by
  refine⟨by rw[k9];exact rs.1,?_⟩
  have:=oE rs.2
  rw[z_,kG,j_]at this
  exact this
 refine⟨erL env,_,_,rv,q,?_⟩
 rintro b env' H' kt rs'
 obtain⟨g,r2⟩:=yK rs.2 (Δ:=env'.zip σ++(Fr.map fun p=>(er p.1,p.2))) (by rw[j_];exact rs'.2)
 exact⟨g,c b env _ kt ⟨rs.1,r2⟩⟩
def fK(t:T):PF:=fun env k=>k t env
section
variable{X:Cx}{pos:Pos}
theorem kU{K:Ng}{H:Hp}{env:Ev}{σ:St}{Fr:Fm}{t:T}{v:V}(h:Rs K H env σ Fr)(r:∀ Hz,RepT K Hz H t v []):Rs K H env σ ((t,some v)::Fr):=by
 refine .of h.1 ?_
 obtain⟨Hz,N,q,nd,g,d⟩:=h.2
 exact⟨Hz,N,.cons (L:=[]) rfl (.inr ⟨v,rfl,r Hz⟩) q,nd,g,d⟩
theorem ge_int{i:Int}{j:Nat}:GE X (.Constant (.int i) j pos) (fK (.int i)):=PE.imp bu fun σ H Q ⟨env,Fr,k,rs,q,c⟩=>c _ _ _ _ q (kU rs fun _=>.int)
theorem vo{b:Bool}{j:Nat}:GE X (.Constant (.bool b) j pos) (fK (.bl b)):=PE.imp yq fun σ H Q ⟨env,Fr,k,rs,q,c⟩=>c _ _ _ _ q (kU rs fun _=>.bl)
theorem l7{j:Nat}:GE X (.Constant .none j pos) (fK .non):=PE.imp F4 fun σ H Q ⟨env,Fr,k,rs,q,c⟩=>c _ _ _ _ q (kU rs fun _=>.non)
def isAny:T->Bool
 | .any=>true
 | _=>false
def AQ(i:Nat):PF:=fun env k=>match env[i]? with
 | some t=>isAny t=false/\aX t=true/\k t env
 | none=>False
def fFz(i:Nat):PF:=fun env k=>match env[i]? with
 | some t=>isAny t=false/\k (er t) (env.set i (er t))
 | none=>False
def fMv(i:Nat):PF:=fun env k=>match env[i]? with
 | some t=>isAny t=false/\k t (env.set i .any)
 | none=>False
theorem cF{K:Ng}{H:Hp}{env:Ev}{σ:St}{Fr:Fm}{t:T}{x:Option V}(h:Rs K H env σ ((t,x)::Fr))(n:isAny t=false):∃ v,x=some v:=by
 obtain⟨Hz,N,q,_⟩:=h.head
 cases q with
 | cons e h c=>
  rcases h with⟨rfl,_⟩ | ⟨v,e,_⟩
  ·cases n
  exact⟨v,e⟩
theorem ab(i:Nat){x:Str}(hN:X.N[i]?=some x:=by rfl)(hv:Vis X.env.scope x:=by first | exact k_ rfl | exact l_ (k_ rfl) | exact l_ (l_ rfl))(hd:(x ==("__debug__":Str))=false:=by decide)(hcd:(x ==("__classdict__":Str))=false:=by decide):GE X (.Name x pos) (AQ i):=by
 refine PE.imp (gf hN hv hd hcd) ?_
 rintro σ H Q ⟨env,Fr,k,rs,q,c⟩
 unfold AQ at q
 split at q
 ·rename_i t e
  obtain⟨na,no,q⟩:=q
  obtain⟨y,ey,rs2⟩:=rs.slot e
  obtain⟨v,rfl⟩:=cF rs2 na
  refine⟨v,ey,c _ _ _ _ q ?_⟩
  have hi:i < env.length:=(c_.mp e).1
  have r3:Rs X.K H (env.set i .any) σ ((t,some v)::(t,some v)::Fr):=.of rs2.1 ((jE rs2.head no).perm (by
   refine Lx _ ?_
   exact h_.symm))
  have r4:=Rs.jG (i:=i) r3 (by rw[Jg];exact hi) ey
  rw[i5 e]at r4
  exact r4
 exact q.elim
theorem b9(i:Nat){x:Str}(hN:X.N[i]?=some x:=by rfl)(hv:Vis X.env.scope x:=by first | exact k_ rfl | exact l_ (k_ rfl) | exact l_ (l_ rfl))(hd:(x ==("__debug__":Str))=false:=by decide)(hcd:(x ==("__classdict__":Str))=false:=by decide):GE X (.Name x pos) (fFz i):=by
 refine PE.imp (gf hN hv hd hcd) ?_
 rintro σ H Q ⟨env,Fr,k,rs,q,c⟩
 unfold fFz at q
 split at q
 ·rename_i t e
  obtain⟨na,q⟩:=q
  obtain⟨y,ey,rs2⟩:=rs.slot e
  obtain⟨v,rfl⟩:=cF rs2 na
  refine⟨v,ey,c _ _ _ _ q ?_⟩
  have hi:i < env.length:=(c_.mp e).1
  have no:aX (er t)=true:=bF t
  have r3:Rs X.K H (env.set i .any) σ ((er t,some v)::(er t,some v)::Fr):=.of rs2.1 ((jE (pM rs2.head) no).perm (by
   refine Lx _ ?_
   exact h_.symm))
  have r4:=Rs.jG (i:=i) r3 (by rw[Jg];exact hi) ey
  rw[L4]at r4
  exact r4
 exact q.elim
theorem nF(i:Nat){x:Str}(hN:X.N[i]?=some x:=by rfl)(hv:Vis X.env.scope x:=by first | exact k_ rfl | exact l_ (k_ rfl) | exact l_ (l_ rfl))(hd:(x ==("__debug__":Str))=false:=by decide)(hcd:(x ==("__classdict__":Str))=false:=by decide):GE X (.Name x pos) (fMv i):=by
 refine PE.imp (gf hN hv hd hcd) ?_
 rintro σ H Q ⟨env,Fr,k,rs,q,c⟩
 unfold fMv at q
 split at q
 ·rename_i t e
  obtain⟨na,q⟩:=q
  obtain⟨y,ey,rs2⟩:=rs.slot e
  obtain⟨v,rfl⟩:=cF rs2 na
  exact⟨v,ey,c _ _ _ _ q rs2⟩
 exact q.elim
end
section
variable{K:Ng}{H:Hp}{Γ:Fm}
theorem fY{t:T}{y:V}(h:Rp K H ((t,some y)::Γ))(n:isAny t=false):∃ Hz L,RepT K Hz H t y L/\Gr Hz H:=by
 obtain⟨Hz,N,h,nd,g,d⟩:=h
 cases h with
 | cons e h c=>
  rcases h with⟨rfl,_⟩ | ⟨v,e2,h⟩
  ·cases n
  cases e2
  exact⟨Hz,_,h,g⟩
theorem aF{i:Int}{y:V}(h:Rp K H ((.int i,some y)::Γ)):y=.int i:=by
 obtain⟨_,_,r,_⟩:=fY h rfl
 cases r;rfl
theorem nh{i:Bool}{y:V}(h:Rp K H ((.bl i,some y)::Γ)):y=.bl i:=by
 obtain⟨_,_,r,_⟩:=fY h rfl
 cases r;rfl
theorem cU{i:Str}{y:V}(h:Rp K H ((.str i,some y)::Γ)):y=.str i:=by
 obtain⟨_,_,r,_⟩:=fY h rfl
 cases r;rfl
theorem yL{y:V}(h:Rp K H ((.non,some y)::Γ)):y=.non:=by
 obtain⟨_,_,r,_⟩:=fY h rfl
 cases r;rfl
theorem bg{t:T}{v:V}(h:Rp K H Γ)(r:∀ Hz,RepT K Hz H t v []):Rp K H ((t,some v)::Γ):=by
 obtain⟨Hz,N,q,nd,g,d⟩:=h
 exact⟨Hz,N,.cons (L:=[]) rfl (.inr ⟨v,rfl,r Hz⟩) q,nd,g,d⟩
def items:T->Option (List T)
 | .tup ts=>some ts
 | .cst ts=>some ts
 | .lst _ ts=>some ts
 | _=>none
def lu:T->Bool
 | .tup _=>true
 | .cst _=>true
 | _=>false
theorem uC{a:Nh}{vs:List V}(h:SqT K (fun _=>none) a vs)(H:Hp):SqT K H a vs:=by
 rcases h with (h | ⟨_,h⟩) | h
 ·cases h
 ·cases h
 exact .inr h
theorem aE{t:T}{ts:List T}{y:V}(e:items t=some ts)(h:Rp K H ((t,some y)::Γ)):∃ a vs,y=.ref a/\SqG (lu t) K H a vs/\ts.length=vs.length/\Rp K H (zz ts vs++Γ):=by
 obtain⟨Hz,N,h,nd,g,d⟩:=h
 cases h with
 | cons e1 h c=>
  rcases h with⟨rfl,_⟩ | ⟨v,e2,h⟩
  ·cases e
  cases e2
  cases h <;> cases e
  ·rename_i a vs h c1
   exact⟨a,vs,rfl,SqT.of h,c1.len,Hz,_,c1.toL.app c,by rw[<-e1];exact nd,g,fun b m=>d b (by rw[e1];exact m)⟩
  ·rename_i a vs h c1
   exact⟨a,vs,rfl,uC h H,c1.len,Hz,_,c1.toL.app c,by rw[<-e1];exact nd,g,fun b m=>d b (by rw[e1];exact m)⟩
  ·rename_i a vs L h c1
   rw[e1,Jy,D']at nd
   exact⟨a,vs,rfl,SqL.of h,c1.len,Hz,_,c1.toL.app c,nd.2,g,fun b m=>d b (by rw[e1,Jy];exact n_ _ m)⟩
  rename_i a vs h c1
  exact⟨a,vs,rfl,.inl (g _ _ h),c1.len,Hz,_,c1.toL.app c,by rw[<-e1];exact nd,g,fun b m=>d b (by rw[e1];exact m)⟩
theorem vL:∀ {ts:List T} {vs:List V} {i:Nat} {t:T} {w:V},ts[i]?=some t->vs[i]?=some w->∃ r,(zz ts vs).Perm ((t,some w)::r)
 | [],vs,i,t,w,e,f=>by simp at e
 | t::ts,[],i,_,w,e,f=>by simp at f
 | t::ts,v::vs,0,u,w,e,f=>by
  simp only[La,MG]at e f
  subst e;subst f
  exact⟨_,.refl _⟩
 | t::ts,v::vs,i + 1,u,w,e,f=>by
  simp only[Kf]at e f
  obtain⟨r,h⟩:=vL (ts:=ts) (vs:=vs) e f
  exact⟨(t,some v)::r,(h.cons _).trans (.swap _ _ _)⟩
theorem gQ{ts:List T}{vs:List V}{i:Nat}{t:T}{w:V}(h:Rp K H (zz ts vs++Γ))(e:ts[i]?=some t)(f:vs[i]?=some w):Rp K H ((t,some w)::Γ):=by
 obtain⟨r,p⟩:=vL e f
 refine Rp.part (Γ:=r) (h.perm ?_)
 refine(p.append_right Γ).trans ?_
 exact h_.symm
theorem xD{ts:List T}{vs:List V}{i:Int}{t:T}(l:ts.length=vs.length)(e:atI ts i=some t)(h:Rp K H (zz ts vs++Γ)):∃ w,atI vs i=some w/\Rp K H ((t,some w)::Γ):=by
 unfold atI at e ⊢
 rw[l]at e
 cases q:ixN vs.length i with
 | none=>rw[q]at e;cases e
 | some j=>
  rw[q]at e
  have e:ts[j]?=some t:=e
  obtain⟨w,f⟩:=oA l e
  exact⟨w,f,gQ h e f⟩
end
def got{α:Type}(o:Option α)(k:α->Prop):Prop:=match o with
 | some u=>k u
 | none=>False
theorem E3{α:Type}{o:Option α}{u:α}{k:α->Prop}(e:o=some u)(h:k u):got o k:=by rw[e];exact h
theorem aC{α:Type}{o:Option α}{k:α->Prop}(h:got o k):∃ u,o=some u/\k u:=by
 cases o with
 | none=>exact h.elim
 | some u=>exact⟨u,rfl,h⟩
def cnd(b:Bool)(A B:Prop):Prop:=(b=true->A)/\(b=false->B)
theorem CN{A B:Prop}(h:A):cnd true A B:=⟨fun _=>h,fun e=>by cases e⟩
theorem D3{A B:Prop}(h:B):cnd false A B:=⟨fun e=>(by cases e),fun _=>h⟩
theorem fv{b:Bool}{A B:Prop}(h:cnd b A B):if b=true then A else B:=by
 cases b with
 | true=>rw[if_pos rfl];exact h.1 rfl
 | false=>rw[if_neg (by decide)];exact h.2 rfl
abbrev P2:=T->T->(T->Prop)->Prop
noncomputable def w2(K:Ng)(g:P2):R2:=fun x y H Q=>∃ tx ty Γ k,Rp K H ((ty,some y)::(tx,some x)::Γ)/\g tx ty k/\∀ t v H',k t->Rp K H' ((t,some v)::Γ)->Q v H'
def OpP(X:Cx)(f:Nf->Nf->Sem Nf)(g:P2):Prop:=OpR X f (w2 X.K g)
theorem OpP.of {X:Cx}{f:Nf->Nf->Sem Nf}{g:P2}{r:R2}(h:OpR X f r)(k:∀ tx ty x y H Γ (k:T->Prop) (Q:VK),Rp X.K H ((ty,some y)::(tx,some x)::Γ)->g tx ty k->(∀ t v H',k t->Rp X.K H' ((t,some v)::Γ)->Q v H')->r x y H Q):OpP X f g:=
 fun pins s σ H x y v u Q I rx ry ⟨tx,ty,Γ,kk,rp,g,c⟩=>h pins s σ H x y v u Q I rx ry (k tx ty x y H Γ kk Q rp g c)
def wg(g:P2)(a b:PF):PF:=fun env k=>a env fun x env1=>b env1 fun y env2=>g x y fun t=>k t env2
theorem v8{X:Cx}{g:P2}{fa fb:PF}:∀ σ H Q,wE X.K (wg g fa fb) σ H Q->tOp (w2 X.K g) (wE X.K fa) (wE X.K fb) σ H Q:=by
 rintro σ H Q ⟨env,Fr,k,rs,q,c⟩
 refine⟨env,Fr,_,rs,q,fun tx env1 x H1 q1 rs1=>⟨env1,_,_,rs1,q1,fun ty env2 y H2 q2 rs2=>?_⟩⟩
 refine⟨tx,ty,env2.zip σ++Fr,_,?_,q2,fun t v H' kt rp=>c _ _ _ _ kt (.of rs2.1 rp)⟩
 exact rs2.head.perm (.cons _ h_)
section
variable{X:Cx}{a b c d:Nz}{fa fb fc fd:PF}{pos:Pos}
theorem aT{op:Q2}{g:P2}(ho:OpP X (N9 op) g)(ha:GE X a fa)(hb:GE X b fb):GE X (.BinOp a op b pos) (wg g fa fb):=PE.imp (bQ ho ha hb) v8
theorem dC{op:Ri}{g:P2}(ho:OpP X (NO op) g)(ha:GE X a fa)(hb:GE X b fb)(hm:OF op b=false):GE X (.Compare a [op] [b] pos) (wg g fa fb):=PE.imp (oW ho ha hb hm) v8
def Ff(f:PF):PB:=fun env k=>f env fun t env'=>match t with
 | .bl b=>k b env'
 | _=>False
theorem F5{K:Ng}{f:PF}:∀ σ H Q,wB K (Ff f) σ H Q->Dg (wE K f) σ H Q:=by
 rintro σ H Q ⟨env,Fr,k,rs,q,c⟩
 refine⟨env,Fr,_,rs,q,fun t env' v H' q1 rs1=>?_⟩
 cases t <;> first | exact q1.elim | skip
 rename_i b
 exact⟨b,nh rs1.head,c _ _ _ q1 rs1.drop⟩
theorem bA{op:Ri}{g:P2}(ho:OpP X (NO op) g)(ha:GE X a fa)(hb:GE X b fb)(hm:OF op b=false):GT X (.Compare a [op] [b] pos) (Ff (wg g fa fb)):=by
 refine PT.imp (f7 ho ha hb hm) fun σ H Q h=>?_
 obtain⟨env,Fr,k,rs,q,c⟩:=F5 σ H Q h
 exact v8 σ H _ ⟨env,Fr,k,rs,q,c⟩
noncomputable def zH:T->(Bool->Prop)->Prop
 | .non,k=>k false
 | .bl b,k=>k b
 | .int i,k=>k (i != 0)
 | .str x,k=>x.length<=sizeLine/\k ((x.length:Int) != 0)
 | .tup ts,k=>k (!ts.isEmpty)
 | .cst ts,k=>k (!ts.isEmpty)
 | .lst _ ts,k=>k (!ts.isEmpty)
 | _,_=>False
def HZ(f:PF):PB:=fun env k=>f env fun t env'=>zH t fun b=>k b env'
theorem se{α β:Type}{l:List α}{m:List β}(h:l.length=m.length):l.isEmpty=m.isEmpty:=by
 cases l <;> cases m <;> first | rfl | simp at h
theorem gq(ha:GE X a fa)(he:∀ whole,RD a X.env whole=(do let v <-whole;SD a.pos;PN [v] (UQ v)):=by intro _;rfl):GT X a (HZ fa):=by
 refine PT.imp (xO ha he) ?_
 rintro σ H Q ⟨env,Fr,k,rs,q,c⟩
 refine⟨env,Fr,_,rs,q,fun t env' v H' q1 rs1=>?_⟩
 have fin:∀ b,k b env'->Q b H':=fun b kb=>c _ _ _ kb rs1.drop
 have sq:∀ ts b,items t=some ts->b=(!ts.isEmpty)->k b env'->∃ b,DQ X.K v H' b/\Q b H':=fun ts b e eb kb=>by
  obtain⟨a,vs,rfl,hq,l,_⟩:=aE e rs1.head
  refine⟨b,?_,fin b kb⟩
  rw[se l]at eb
  revert hq
  cases lu t with
  | true=>exact fun hq=>.inr (.inl ⟨vs,hq,eb⟩)
  | false=>exact fun hq=>.inl ⟨vs,hq,eb⟩
 cases t with
 | non=>rw[yL rs1.head];exact⟨_,rfl,fin _ q1⟩
 | bl b=>rw[nh rs1.head];exact⟨_,rfl,fin _ q1⟩
 | int i=>rw[aF rs1.head];exact⟨_,rfl,fin _ q1⟩
 | str x=>rw[cU rs1.head];exact⟨_,⟨q1.1,rfl⟩,fin _ q1.2⟩
 | tup ts=>exact sq _ _ rfl rfl q1
 | cst ts=>exact sq _ _ rfl rfl q1
 | lst o ts=>exact sq _ _ rfl rfl q1
 | _=>exact q1.elim
def CD(ta tb:PB):PB:=fun env k=>ta env fun b env1=>cnd b (tb env1 k) (k false env1)
def CF(ta:PB):PB:=fun env k=>ta env fun b env1=>k (!b) env1
variable{ta tb:PB}{rest:List Nz}
theorem oP(ha:GT X a ta):GW X (.BoolOp .And [a] pos) ta:=Bu ha
theorem oJ(ha:GT X a ta)(hb:GW X (.BoolOp .And (b::rest) pos) tb):GW X (.BoolOp .And (a::b::rest) pos) (CD ta tb):=by
 refine PW.imp (F1 ha hb) ?_
 rintro σ H Q ⟨env,Fr,k,rs,q,c⟩
 refine⟨env,Fr,_,rs,q,fun b env' H' q1 rs1=>fv ⟨fun e=>?_,fun e=>?_⟩⟩
 ·exact⟨env',Fr,k,rs1,q1.1 e,c⟩
 exact c _ _ _ (q1.2 e) rs1
theorem FO{f:PB}(h:GW X a f):GT X a f:=PW.pt h
theorem sQ(ha:GT X a ta):GT X (.UnaryOp .Not a pos) (CF ta):=by
 refine PT.imp (FI ha) ?_
 rintro σ H Q ⟨env,Fr,k,rs,q,c⟩
 exact⟨env,Fr,_,rs,q,fun b env' H' q1 rs1=>c _ _ _ q1 rs1⟩
noncomputable def Hi(fa fb:PF):PF:=fun env k=>fa env fun t env1=>match t with
 | .bl b=>cnd b (fb env1 k) (k (.bl false) env1)
 | _=>False
def fIf(tc:PB)(fa fb:PF):PF:=fun env k=>tc env fun b env1=>cnd b (fa env1 k) (fb env1 k)
theorem Dz{op}(h:GE X a fa):GE X (.BoolOp op [a] pos) fa:=tu h
theorem Fv(ha:GE X a fa)(hb:GE X (.BoolOp .And (b::rest) pos) fb):GE X (.BoolOp .And (a::b::rest) pos) (Hi fa fb):=by
 refine PE.imp (oq ha hb) ?_
 rintro σ H Q ⟨env,Fr,k,rs,q,c⟩
 refine⟨env,Fr,_,rs,q,fun t env' v H' q1 rs1=>?_⟩
 cases t <;> first | exact q1.elim | skip
 rename_i bb
 refine⟨bb,nh rs1.head,fv ⟨fun e=>?_,fun e=>?_⟩⟩
 ·exact⟨env',Fr,k,rs1.drop,q1.1 e,c⟩
 exact c _ _ _ _ (q1.2 e) (kU rs1.drop fun _=>.bl)
theorem ge_if(hc:GT X c ta)(ha:GE X a fa)(hb:GE X b fb):GE X (.IfExp c a b pos) (fIf ta fa fb):=by
 refine PE.imp (xZ hc ha hb) ?_
 rintro σ H Q ⟨env,Fr,k,rs,q,c⟩
 refine⟨env,Fr,_,rs,q,fun b env' H' q1 rs1=>fv ⟨fun e=>?_,fun e=>?_⟩⟩
 ·exact⟨env',Fr,k,rs1,q1.1 e,c⟩
 exact⟨env',Fr,k,rs1,q1.2 e,c⟩
def G4:PFs:=fun env k=>k [] env
def De(f:PF)(r:PFs):PFs:=fun env k=>f env fun t env1=>r env1 fun ts env2=>k (t::ts) env2
variable{es:List Nz}{fr:PFs}
theorem ag:GA X [] G4:=PA.imp b7 fun σ H Q ⟨env,Fr,k,rs,q,c⟩=>c [] env [] H q rfl rs
theorem ae(ha:GE X a fa)(hr:GA X es fr)(hs:NF (a::es) X.env=(false,NS a X.env)::NF es X.env:=by rfl):GA X (a::es) (De fa fr):=by
 refine PA.imp (aq ha hr hs) ?_
 rintro σ H Q ⟨env,Fr,k,rs,q,c⟩
 refine⟨env,Fr,_,rs,q,fun t env1 v H1 q1 rs1=>⟨env1,_,_,rs1,q1,fun ts env2 vs H2 q2 l rs2=>c _ _ _ _ q2 (by rw[i_,i_,l]) ?_⟩⟩
 exact rs2.perm h_
def GH(fr:PFs):PF:=fun env k=>fr env fun ts env1=>ts.length<=sizeLine/\k (.tup ts) env1
def GL(fr:PFs):PF:=fun env k=>fr env fun ts env1=>ts.length<=sizeLine/\k (.lst true ts) env1
theorem cn{x1}(h:GA X es fr):GE X (.Tuple es x1 pos) (GH fr):=by
 refine PE.imp (Ck h) ?_
 rintro σ H Q ⟨env,Fr,k,rs,q,c⟩
 refine⟨env,Fr,_,rs,q,fun ts env1 vs H1 ⟨z,q1⟩ l rs1=>⟨by rw[<-l];exact z,fun p H2 hp g e=>c _ _ _ _ q1 ?_⟩⟩
 exact Rs.chg (Δ:=zz ts vs) (Δ':=[(.tup ts,some (.ref p))]) rs1 fun Γ r=>dB r l g e
theorem bp(h:GA X es fr):GE X (.List es pos) (GL fr):=by
 refine PE.imp (BO h) ?_
 rintro σ H Q ⟨env,Fr,k,rs,q,c⟩
 refine⟨env,Fr,_,rs,q,fun ts env1 vs H1 ⟨z,q1⟩ l rs1=>⟨by rw[<-l];exact z,fun p H2 hp g e=>c _ _ _ _ q1 ?_⟩⟩
 exact Rs.chg (Δ:=zz ts vs) (Δ':=[(.lst true ts,some (.ref p))]) rs1 fun Γ r=>cI r l hp g e
end
open PySem PySem.Spec PyProof.Rows L2
mutual
def dt:T->Dt
 | .int i=>.int i
 | .bl b=>.bl b
 | .str x=>.str x
 | .tup ts=>.tup (dtL ts)
 | .cst ts=>.tup (dtL ts)
 | .lst _ ts=>.lst (dtL ts)
 | _=>.non
def dtL:List T->List Dt
 | []=>[]
 | t::r=>dt t::dtL r
end
mutual
def isD:T->Bool
 | .tup ts=>cT ts
 | .cst ts=>cT ts
 | .lst _ ts=>cT ts
 | .int _=>true
 | .bl _=>true
 | .str _=>true
 | .non=>true
 | _=>false
def cT:List T->Bool
 | []=>true
 | t::r=>isD t && cT r
end
theorem uM{α:Type}(g:α->T):∀ l:List α,dtL (l.map g)=l.map fun x=>dt (g x)
 | []=>rfl
 | x::r=>by rw[f_,dtL,uM g r,f_]
theorem tJ(l:List T):dtL l=l.map dt:=by
 have:=uM (fun x=>x) l
 rw[List.map_id']at this
 exact this
section
variable{K:Ng}
theorem vj{Hz H:Hp}(g:Gr Hz H):(∀ {t v L},RepT K Hz H t v L->isD t=true->Has K H (dt t) v)/\(∀ {t v L},RepTs K Hz H t v L->cT t=true->ax K H (dtL t) v)/\(∀ {t v L},RepKs K Hz H t v L->True)/\(∀ {t v L},RepXs K Hz H t v L->True):=
 fj (P:=fun t v L=>isD t=true->Has K H (dt t) v) (Ps:=fun t v L=>cT t=true->ax K H (dtL t) v) (Pk:=fun t v L=>True) (Px:=fun t v L=>True)
  (fun n=>nomatch n) (fun n=>nomatch n) (fun _ _ n=>nomatch n) (fun _ n=>nomatch n) (fun _=>by show Has K H .non .non;rw[Has]) (fun _=>by rw[dt,Has]) (fun _=>by rw[dt,Has]) (fun _=>by rw[dt,Has]) (fun n=>nomatch n)
  (fun h c n=>by rw[dt,Has];exact⟨_,_,rfl,SqT.of h,c (by rw[isD]at n;exact n)⟩) (fun h c n=>by rw[dt,Has];exact⟨_,_,rfl,uC h H,c (by rw[isD]at n;exact n)⟩)
  (fun h c n=>by rw[dt,Has];exact⟨_,_,rfl,SqL.of h,c (by rw[isD]at n;exact n)⟩) (fun h c n=>by rw[dt,Has];exact⟨_,_,rfl,.inl (g _ _ h),c (by rw[isD]at n;exact n)⟩)
  (fun _ _ n=>nomatch n) (fun _ _ n=>nomatch n) (fun _ _ n=>nomatch n) (fun _ _ n=>nomatch n)
  (fun _=>by rw[dtL];exact i7) (fun i j n=>by
   rw[cT,E_]at n
   rw[dtL]
   exact jy (i n.1) (j n.2)) trivial (fun _ _=>trivial) trivial (fun _ _=>trivial)
theorem RepT.has {Hz H:Hp}(g:Gr Hz H){t:T}{v:V}{L:List Nh}(n:isD t=true)(h:RepT K Hz H t v L):Has K H (dt t) v:=(vj g).1 h n
theorem RepTs.has {Hz H:Hp}(g:Gr Hz H){t:List T}{v:List V}{L:List Nh}(n:cT t=true)(h:RepTs K Hz H t v L):ax K H (dtL t) v:=(vj g).2.1 h n
theorem Cf{t:T}(h:isD t=true):isAny t=false:=by cases t <;> first | rfl | cases h
theorem cV{H:Hp}{Γ:Fm}{t:T}{y:V}(h:Rp K H ((t,some y)::Γ))(n:isD t=true):Has K H (dt t) y:=by
 obtain⟨Hz,L,r,g⟩:=fY h (Cf n)
 exact r.has g n
theorem kH{H:Hp}{Γ:Fm}{ts:List T}{vs:List V}(h:Rp K H (zz ts vs++Γ))(l:ts.length=vs.length)(n:cT ts=true):ax K H (dtL ts) vs:=by
 obtain⟨Hz,N,h,nd,g,d⟩:=h
 obtain⟨L,M,_,h1,_⟩:=h.split
 exact(h1.t4 l).has g n
end
noncomputable def Fe:P2
 | .int i,.int j,k=>k (.int (i + j))
 | .str x,.str y,k=>x.length + y.length<=sizeLine/\k (.str (x++y))
 | .lst _ ts,.lst _ us,k=>ts.length + us.length<=sizeLine/\k (.lst true (ts++us))
 | .tup ts,.tup us,k=>ts.length + us.length<=sizeLine/\k (.tup (ts++us))
 | _,_,_=>False
def HJ:P2
 | .int i,.int j,k=>k (.int (i - j))
 | _,_,_=>False
def Ha:P2
 | .int i,.int j,k=>xq i j/\k (.int (i * 2 ^ j.toNat))
 | _,_,_=>False
def HK:P2
 | .int i,.int j,k=>k (.int (P9 i j))
 | _,_,_=>False
def orT:P2
 | .int i,.int j,k=>k (.int (OM i j))
 | _,_,_=>False
def DF(p:Int->Int->Bool):P2
 | .int i,.int j,k=>k (.bl (p i j))
 | _,_,_=>False
def ltT:P2:=DF fun i j=>decide (i < j)
def leT:P2:=DF fun i j=>decide (i<=j)
def gtT:P2:=DF fun i j=>decide (j < i)
def eqT:P2:=fun t u k=>isD t=true/\isD u=true/\dpt (dt t) < 190/\k (.bl (eqD (dt t) (dt u)))
def neT:P2:=fun t u k=>isD t=true/\isD u=true/\dpt (dt t) < 190/\k (.bl (!eqD (dt t) (dt u)))
section
variable{X:Cx}
theorem Bv{f:Nf->Nf->Sem Nf}{C:Int->Int->Prop}{r:Int->Int->T}{r':Int->Int->V}(h:OpR X f (rI C r'))(hr:∀ i j K Hz H,RepT K Hz H (r i j) (r' i j) []):OpP X f (fun t u k=>match t,u with | .int i,.int j=>C i j/\k (r i j) | _,_=>False):=by
 refine .of h ?_
 intro tx ty x y H Γ k Q rp g c
 cases tx <;> cases ty <;> first | exact g.elim | skip
 rename_i i j
 rw[aF rp,aF rp.tail]
 exact⟨i,j,rfl,rfl,g.1,c _ _ _ g.2 (bg rp.tail.tail fun Hz=>hr i j _ _ _)⟩
theorem dj{f:Nf->Nf->Sem Nf}{r:Int->Int->T}{r':Int->Int->V}(h:OpR X f (rI0 r'))(hr:∀ i j K Hz H,RepT K Hz H (r i j) (r' i j) []):OpP X f (fun t u k=>match t,u with | .int i,.int j=>k (r i j) | _,_=>False):=by
 refine .of h ?_
 intro tx ty x y H Γ k Q rp g c
 cases tx <;> cases ty <;> first | exact g.elim | skip
 rename_i i j
 rw[aF rp,aF rp.tail]
 exact⟨i,j,rfl,rfl,c _ _ _ g (bg rp.tail.tail fun Hz=>hr i j _ _ _)⟩
theorem OpP.imp {f:Nf->Nf->Sem Nf}{g g':P2}(h:OpP X f g)(k:∀ tx ty k,g' tx ty k->g tx ty k):OpP X f g':=OpR.imp h fun x y H Q ⟨tx,ty,Γ,kk,rp,gg,c⟩=>⟨tx,ty,Γ,kk,rp,k _ _ _ gg,c⟩
theorem Inv.Hm {pins:List (Nh × Obj)}{σ:L2.St}{H:Hp}{s:Ni}{l:Nh}{xs:List V}(I:Inv X pins σ H s)(hH:Rd H l (.lst xs)):xs.length<=sizeLine/\∃(its:List Nf) (n:Nat),Vals xs its/\xs.length=its.length/\s.heap.get? l=some { cls:=.type "list",data:=.seq its.toArray n }:=by
 obtain⟨z,its,n,r,e⟩:=hH.ok I.hok
 exact⟨z,its,n,r,r.length,e⟩
theorem B4:OpR X (N9 .Add) (fun x y H Q=>∃ l b xs zs,x=.ref l/\y=.ref b/\Rd H l (.lst xs)/\Rd H b (.lst zs)/\xs.length + zs.length<=sizeLine/\New (.lst (xs++zs)) H Q):=by
 intro pins s σ H x y v u Q I rx ry h
 obtain⟨l,b,xs,zs,rfl,rfl,hH,hB,hz,q⟩:=h
 cases rx
 cases ry
 obtain⟨z,its,n,r,hl,e⟩:=Inv.Hm I hH
 obtain⟨z2,its2,n2,r2,hl2,e2⟩:=Inv.Hm I hB
 refine PySem.P.add_list e e2 ?_ (by rw[q_,q_];lia)
 have ea:its.toArray++its2.toArray=(its++its2).toArray:=by simp
 rw[ea]
 exact⟨.ref _,_,I.Hh (t':=s.toks) (r.append r2) (by rw[j'];omega),rfl,q.at I.fresh⟩
theorem kc{K:Ng}{H:Hp}{Γ:Fm}{o:Bool}{ts:List T}{y:V}(h:Rp K H ((.lst o ts,some y)::Γ)):∃ a vs,y=.ref a/\Rd H a (.lst vs)/\ts.length=vs.length/\Rp K H (zz ts vs++Γ):=by
 obtain⟨Hz,N,h,nd,g,d⟩:=h
 cases h with
 | cons e1 h c=>
  rcases h with⟨z,_⟩ | ⟨v,e2,h⟩
  ·cases z
  cases e2
  cases h
  ·rename_i a vs L h c1
   rw[e1,Jy,D']at nd
   exact⟨a,vs,rfl,.inl h,c1.len,Hz,_,c1.toL.app c,nd.2,g,fun b m=>d b (by rw[e1,Jy];exact n_ _ m)⟩
  rename_i a vs h c1
  exact⟨a,vs,rfl,g _ _ h,c1.len,Hz,_,c1.toL.app c,by rw[<-e1];exact nd,g,fun b m=>d b (by rw[e1];exact m)⟩
theorem oR{K:Ng}{H:Hp}{Γ:Fm}{ts:List T}{y:V}(h:Rp K H ((.tup ts,some y)::Γ)):∃ a vs,y=.ref a/\H a=some (.tup vs)/\ts.length=vs.length/\Rp K H (zz ts vs++Γ):=by
 obtain⟨Hz,N,h,nd,g,d⟩:=h
 cases h with
 | cons e1 h c=>
  rcases h with⟨z,_⟩ | ⟨v,e2,h⟩
  ·cases z
  cases e2
  cases h with
  | tup h c1=>exact⟨_,_,rfl,h,c1.len,Hz,_,c1.toL.app c,by rw[<-e1];exact nd,g,fun b m=>d b (by rw[e1];exact m)⟩
theorem lR{ts us:List T}{vs ws:List V}(l:ts.length=vs.length):zz (ts++us) (vs++ws)=zz ts vs++zz us ws:=by
 show(ts++us).zip ((vs++ws).map some)=_
 rw[z_,MR (by rw[b_];exact l)]
theorem Bc:OpR X (N9 .Add) (fun x y H Q=>∃ a b ys,x=.ref a/\y=.ref b/\SqT X.K H a []/\SqT X.K H b ys/\Q (.ref b) H):=by
 intro pins s σ H x y v u Q I rx ry h
 obtain⟨a,b,ys,rfl,rfl,ha,hb,q⟩:=h
 cases rx
 cases ry
 obtain⟨its,r1,p1,_⟩:=I.tuple ha
 obtain⟨its2,r2,p2,_⟩:=I.tuple hb
 cases r1
 obtain⟨⟨cls,dd,data,sl⟩,ho,hc,n,hd⟩:=id p1
 obtain⟨⟨cls2,dd2,data2,sl2⟩,ho2,hc2,n2,hd2⟩:=id p2
 simp only at hc hd hc2 hd2
 subst hc hd hc2 hd2
 exact Sn ⟨_,ho,rfl⟩ ⟨_,ho2,rfl⟩ Q3 R8 Qk Qc (P4 _ _)
  (tuple_addW0 a b _ its2.toArray n n2 dd dd2 sl sl2 (by simp)) ⟨ho,ho2,⟨.ref b,H,I,rfl,q⟩⟩
theorem bM:OpP X (N9 .Add) Fe:=by
 rintro pins s σ H x y v u Q I rx ry ⟨tx,ty,Γ,k,rp,g,c⟩
 cases tx <;> cases ty <;> first | exact NC g | skip
 ·rename_i i j
  rw[aF rp]at ry;rw[aF rp.tail]at rx
  exact lX pins s σ H _ _ v u Q I rx ry ⟨i,j,rfl,rfl,c _ _ _ g (bg rp.tail.tail fun _=>.int)⟩
 ·rename_i i j
  rw[cU rp]at ry;rw[cU rp.tail]at rx
  exact tI pins s σ H _ _ v u Q I rx ry ⟨i,j,rfl,rfl,g.1,c _ _ _ g.2 (bg rp.tail.tail fun _=>.str)⟩
 ·rename_i ts us
  obtain⟨b,ws,rfl,hb,lb,rp2⟩:=oR rp
  obtain⟨a,vs,rfl,ha,la,rp3⟩:=oR (rp2.perm h_)
  have lz:vs.length + ws.length<=sizeLine:=by rw[<-la,<-lb];exact g.1
  have rp4:Rp X.K H (zz (ts++us) (vs++ws)++Γ):=by
   rw[lR la,j_];exact rp3
  by_cases hx:vs=[]
  ·subst hx
   refine Bc pins s σ H _ _ v u Q I rx ry ⟨a,b,ws,rfl,rfl,SqT.of ha,SqT.of hb,?_⟩
   refine c _ _ _ g.2 (dB rp4 (by rw[j',j',la,lb]) .bz ?_)
   rw[KU];exact hb
  refine Bi pins s σ H _ _ v u Q I rx ry ⟨a,b,vs,ws,rfl,rfl,SqT.of ha,SqT.of hb,hx,lz,fun e=>?_,fun _ p hp=>c _ _ _ g.2 (dB rp4 (by rw[j',j',la,lb]) (aV hp _) ay)⟩
  refine c _ _ _ g.2 (dB rp4 (by rw[j',j',la,lb]) .bz ?_)
  rw[e,H_];exact ha
 rename_i o ts o' us
 obtain⟨b,ws,rfl,hb,lb,rp2⟩:=kc rp
 obtain⟨a,vs,rfl,ha,la,rp3⟩:=kc (rp2.perm h_)
 have lz:vs.length + ws.length<=sizeLine:=by rw[<-la,<-lb];exact g.1
 have rp4:Rp X.K H (zz (ts++us) (vs++ws)++Γ):=by
  rw[lR la,j_];exact rp3
 exact B4 pins s σ H _ _ v u Q I rx ry ⟨a,b,vs,ws,rfl,rfl,ha,hb,lz,fun p H' hp g' e=>c _ _ _ g.2 (cI rp4 (by rw[j',j',la,lb]) hp g' e)⟩
theorem pg:OpP X (N9 .Sub) HJ:=(dj (r:=fun i j=>.int (i - j)) Ds fun _ _ _ _ _=>.int).imp fun tx ty k g=>by cases tx <;> cases ty <;> exact g
theorem h9:OpP X (N9 .LShift) Ha:=(Bv (r:=fun i j=>.int (i * 2 ^ j.toNat)) EC fun _ _ _ _ _=>.int).imp fun tx ty k g=>by cases tx <;> cases ty <;> exact g
theorem uQ:OpP X (N9 .BitAnd) HK:=(dj (r:=fun i j=>.int (P9 i j)) El fun _ _ _ _ _=>.int).imp fun tx ty k g=>by cases tx <;> cases ty <;> exact g
theorem E9:OpP X (N9 .BitOr) orT:=(dj (r:=fun i j=>.int (OM i j)) HC fun _ _ _ _ _=>.int).imp fun tx ty k g=>by cases tx <;> cases ty <;> exact g
theorem xW:OpP X (NO .Lt) ltT:=(dj (r:=fun i j=>.bl (decide (i < j))) GU fun _ _ _ _ _=>.bl).imp fun tx ty k g=>by cases tx <;> cases ty <;> exact g
theorem Dn:OpP X (NO .LtE) leT:=(dj (r:=fun i j=>.bl (decide (i<=j))) G9 fun _ _ _ _ _=>.bl).imp fun tx ty k g=>by cases tx <;> cases ty <;> exact g
theorem zP:OpP X (NO .Gt) gtT:=(dj (r:=fun i j=>.bl (decide (j < i))) Ik fun _ _ _ _ _=>.bl).imp fun tx ty k g=>by cases tx <;> cases ty <;> exact g
theorem CW{k:Nat}{A:NH}(r:Room k A){n:Nat}(h:n < 190):A.units + n < cLine:=by have:=r.un;lia
theorem eZ{k:Nat}(hr:Room k X.A):OpP X (NO .Eq) eqT:=.of yc fun tx ty x y H Γ k Q rp ⟨d1,d2,z,g⟩ c=>
 ⟨dt tx,dt ty,cV rp.tail d1,cV rp d2,CW hr z,c _ _ _ g (bg rp.tail.tail fun _=>.bl)⟩
theorem fZ{k:Nat}(hr:Room k X.A):OpP X (NO .NotEq) neT:=.of DK fun tx ty x y H Γ k Q rp ⟨d1,d2,z,g⟩ c=>
 ⟨dt tx,dt ty,cV rp.tail d1,cV rp d2,CW hr z,c _ _ _ g (bg rp.tail.tail fun _=>.bl)⟩
end
open PySem PySem.Spec PyProof.Rows L2
def rh:T->Option Key
 | .int i=>some (.inl i)
 | .str x=>some (.inr x)
 | .non=>some (.inr none)
 | _=>none
def cR:List T->Option (List Key)
 | []=>some []
 | t::r=>match rh t,cR r with
  | some k,some ks=>some (k::ks)
  | _,_=>none
section
variable{κ:Type}[DecidableEq κ]
def jk(kvs:List (κ × T))(k:κ):Option T:=(kvs.find? fun kv=>decide (kv.1=k)).map (·.2)
noncomputable def e7(kvs:List (κ × T))(k:κ)(v:T):List (κ × T):=
 if(kvs.any fun kv=>decide (kv.1=k))=true then kvs.map (fun kv=>if kv.1=k then(kv.1,v)else kv)else kvs++[(k,v)]
theorem jr:∀ {ts:List (κ × T)} {vs:List (κ × V)} {q:κ} {u:T},ts.map (·.1)=vs.map (·.1)->jk ts q=some u->∃(w:V) (i:Nat),ck vs q=some w/\(ts.map (·.2))[i]?=some u/\(vs.map (·.2))[i]?=some w
 | [],vs,q,u,e,h=>by cases h
 | (k,t)::ts,[],q,u,e,h=>by cases e
 | (k,t)::ts,(k',v)::vs,q,u,e,h=>by
  rw[f_,f_,JW]at e
  have e0:k=k':=e.1
  subst e0
  unfold jk at h
  rw[Jn]at h
  unfold ck
  rw[Jn]
  by_cases hk:k=q
  ·have hk':decide (k=q)=true:=decide_eq_true hk
   rw[show decide ((k,t).1=q)=true from hk']at h
   rw[show decide ((k,v).1=q)=true from hk']
   cases h
   exact⟨v,0,rfl,rfl,rfl⟩
  have hk':decide (k=q)=false:=decide_eq_false hk
  rw[show decide ((k,t).1=q)=false from hk']at h
  rw[show decide ((k,v).1=q)=false from hk']
  obtain⟨w,i,h1,h2,h3⟩:=jr (ts:=ts) (vs:=vs) e.2 h
  exact⟨w,i + 1,h1,by simpa using h2,by simpa using h3⟩
theorem d7:∀ {ts:List (κ × T)} {vs:List (κ × V)} (q:κ),ts.map (·.1)=vs.map (·.1)->(jk ts q).isSome=(ck vs q).isSome
 | [],[],q,e=>rfl
 | [],_::_,q,e=>by cases e
 | (k,t)::ts,[],q,e=>by cases e
 | (k,t)::ts,(k',v)::vs,q,e=>by
  rw[f_,f_,JW]at e
  have e0:k=k':=e.1
  subst e0
  have ih:=d7 (ts:=ts) (vs:=vs) q e.2
  unfold jk ck at ih ⊢
  rw[Jn,Jn]
  by_cases hk:k=q
  ·have hk':decide (k=q)=true:=decide_eq_true hk
   rw[show decide ((k,t).1=q)=true from hk']
   rfl
  have hk':decide (k=q)=false:=decide_eq_false hk
  rw[show decide ((k,t).1=q)=false from hk']
  exact ih
end
section
variable{K:Ng}{H:Hp}{Γ:Fm}
theorem oZ{o:Bool}{ts:List (Key × T)}{y:V}(h:Rp K H ((.dK o ts,some y)::Γ)):∃ a vs,y=.ref a/\Rd H a (.dK vs)/\ts.map (·.1)=vs.map (·.1)/\Rp K H (zz (ts.map (·.2)) (vs.map (·.2))++Γ):=by
 obtain⟨Hz,N,h,nd,g,d⟩:=h
 cases h with
 | cons e1 h c=>
  rcases h with⟨z,_⟩ | ⟨v,e2,h⟩
  ·cases z
  cases e2
  cases h
  ·rename_i a vs L h c1
   obtain⟨ek,c2⟩:=c1.toL
   rw[e1,Jy,D']at nd
   exact⟨a,vs,rfl,.inl h,ek,Hz,_,c2.toL.app c,nd.2,g,fun b m=>d b (by rw[e1,Jy];exact n_ _ m)⟩
  rename_i a vs h c1
  obtain⟨ek,c2⟩:=c1.toL
  exact⟨a,vs,rfl,g _ _ h,ek,Hz,_,c2.toL.app c,by rw[<-e1];exact nd,g,fun b m=>d b (by rw[e1];exact m)⟩
theorem lj{o:Bool}{ts:List (List Key × T)}{y:V}(h:Rp K H ((.dT o ts,some y)::Γ)):∃ a vs,y=.ref a/\Rd H a (.dT vs)/\ts.map (·.1)=vs.map (·.1)/\Rp K H (zz (ts.map (·.2)) (vs.map (·.2))++Γ):=by
 obtain⟨Hz,N,h,nd,g,d⟩:=h
 cases h with
 | cons e1 h c=>
  rcases h with⟨z,_⟩ | ⟨v,e2,h⟩
  ·cases z
  cases e2
  cases h
  ·rename_i a vs L h c1
   obtain⟨ek,c2⟩:=c1.toL
   rw[e1,Jy,D']at nd
   exact⟨a,vs,rfl,.inl h,ek,Hz,_,c2.toL.app c,nd.2,g,fun b m=>d b (by rw[e1,Jy];exact n_ _ m)⟩
  rename_i a vs h c1
  obtain⟨ek,c2⟩:=c1.toL
  exact⟨a,vs,rfl,g _ _ h,ek,Hz,_,c2.toL.app c,by rw[<-e1];exact nd,g,fun b m=>d b (by rw[e1];exact m)⟩
theorem kA{t:T}{k:Key}{y:V}(e:rh t=some k)(h:Rp K H ((t,some y)::Γ)):y=kV k:=by
 cases t <;> cases e
 ·rw[yL h];rfl
 ·rw[aF h];rfl
 rw[cU h];rfl
theorem xC{Hz:Hp}{t:T}{k:Key}{v:V}{L:List Nh}(e:rh t=some k)(h:RepT K Hz H t v L):v=kV k:=by
 cases t <;> cases e
 ·cases h;rfl
 ·cases h;rfl
 cases h;rfl
theorem nC{Hz:Hp}:∀ {ts:List T} {ks:List Key} {vs:List V} {L:List Nh},cR ts=some ks->RepTs K Hz H ts vs L->vs=ks.map kV
 | [],ks,_,_,e,r=>by cases r;cases e;rfl
 | t::ts,ks,_,_,e,r=>by
  cases r with
  | cons _ h c=>
   rw[cR]at e
   split at e
   ·rename_i k r e1 e2
    cases e
    rw[xC e1 h,nC e2 c]
    rfl
   cases e
theorem kC{ts:List T}{ks:List Key}{y:V}(e:cR ts=some ks)(h:Rp K H ((.tup ts,some y)::Γ)):∃ b,y=.ref b/\H b=some (.tup (ks.map kV)):=by
 obtain⟨Hz,L,r,g⟩:=fY h rfl
 cases r with
 | tup h1 c1=>exact⟨_,rfl,by rw[h1,nC e c1]⟩
end
noncomputable def ixT:P2
 | .tup ts,.int i,k=>got (atI ts i) k
 | .cst ts,.int i,k=>got (atI ts i) k
 | .lst _ ts,.int i,k=>got (atI ts i) k
 | .str x,.int i,k=>x.length<=sizeLine/\got (atI x.cps.toList i) fun c=>k (.str ⟨#[c]⟩)
 | .dK _ kvs,y,k=>got (rh y) fun q=>got (jk kvs q) k
 | .dT _ kvs,.tup ts,k=>got (cR ts) fun q=>got (jk kvs q) k
 | _,_,_=>False
section
variable{X:Cx}
theorem vE(hu:X.A.units + 1 < cLine):IxR X (fun x y H Q=>∃ a v,x=.ref a/\gJ H a y (some v)/\Q v H):=by
 intro value slice pins s σ H x y v u Q I rx ry h hs
 obtain⟨a,z,rfl,g,q⟩:=h
 cases rx
 have hT:=jQ I g
 unfold Ql
 refine Nd ?_
 rw[RG hT.not_modules]
 refine Nd (Rk hT QX.lookup ?_)
 have fin:Nl (Nq X.prog X.w) X.A (QF slice false (.ref a) u) (fun r s₃=>Nl (Nq X.prog X.w) X.A (T6 value (.ref a) r >>= fun _=>pure r) (EP X pins σ Q) X.xe s₃) X.xe s:=by
  rw[hs]
  refine Tv (nQ hu I g ry fun w' s' I' r'=>Nd (RY (Nj ⟨z,H,I',r',q⟩)))
 first
  | exact Nj (Nd fin)
  | exact Nd (Nj (Nd fin))
  | exact Nd fin
theorem IG{kr:Nat}(hr:Room kr X.A):IxR X (w2 X.K ixT):=by
 rintro value slice pins s σ H x y v u Q I rx ry ⟨tx,ty,Γ,k,rp,g,c⟩ hs
 have sq:∀ ts i,items tx=some ts->ty=.int i->got (atI ts i) k->Nl (Nq X.prog X.w) X.A (Ql value slice v u) (EP X pins σ Q) X.xe s:=fun ts i e1 e2 g=>by
  obtain⟨t,et,kt⟩:=aC g
  subst e2
  rw[aF rp]at ry
  obtain⟨a,vs,rfl,hq,l,rp2⟩:=aE e1 rp.tail
  obtain⟨w,ew,rp3⟩:=xD l et rp2
  exact Il value slice pins s σ H _ _ v u Q I rx ry ⟨_,a,vs,i,w,rfl,rfl,hq,ew,c _ _ _ kt rp3⟩ hs
 cases tx with
 | tup ts=>cases ty <;> first | exact NC g | exact sq _ _ rfl rfl g
 | cst ts=>cases ty <;> first | exact NC g | exact sq _ _ rfl rfl g
 | lst o ts=>cases ty <;> first | exact NC g | exact sq _ _ rfl rfl g
 | str z=>
  cases ty <;> first | exact NC g | skip
  rename_i i
  obtain⟨hz,g⟩:=g
  obtain⟨t,et,kt⟩:=aC g
  rw[aF rp]at ry
  rw[cU rp.tail]at rx
  exact Ag value slice pins s σ H _ _ v u Q I rx ry ⟨z,i,t,rfl,rfl,hz,et,c _ _ _ kt (bg rp.tail.tail fun _=>.str)⟩ hs
 | dK o kvs=>
  have g:got (rh ty) fun q=>got (jk kvs q) k:=by cases ty <;> exact g
  obtain⟨q,eq,g⟩:=aC g
  obtain⟨t,et,kt⟩:=aC g
  rw[kA eq rp]at ry
  obtain⟨a,vs,rfl,hq,ek,rp2⟩:=oZ rp.tail
  obtain⟨w,i,ew,e1,e2⟩:=jr ek et
  exact vE (fO hr) value slice pins s σ H _ _ v u Q I rx ry ⟨a,w,rfl,.inl ⟨vs,q,hq,rfl,ew.symm⟩,c _ _ _ kt (gQ rp2 e1 e2)⟩ hs
 | dT o kvs=>
  cases ty <;> first | exact NC g | skip
  rename_i ts
  obtain⟨q,eq,g⟩:=aC g
  obtain⟨t,et,kt⟩:=aC g
  obtain⟨b,rfl,hb⟩:=kC eq rp
  obtain⟨a,vs,rfl,hq,ek,rp2⟩:=lj rp.tail
  obtain⟨w,i,ew,e1,e2⟩:=jr ek et
  exact vE (fO hr) value slice pins s σ H _ _ v u Q I rx ry ⟨a,w,rfl,.inr ⟨vs,q,b,hq,rfl,hb,ew.symm⟩,c _ _ _ kt (gQ rp2 e1 e2)⟩ hs
 | _=>cases ty <;> exact NC g
theorem aK{kr:Nat}{a b:Nz}{fa fb:PF}{pos:Pos}(hr:Room kr X.A)(ha:GE X a fa)(hb:GE X b fb)(hs:vb b:=by intro _ _;rfl):GE X (.Subscript a b pos) (wg ixT fa fb):=PE.imp (D8 (IG hr) ha hb hs) v8
def mS(x:T)(ts:List T):Bool:=ts.any fun e=>eqD (dt e) (dt x)
noncomputable def inT:P2:=fun x y k=>match y with
 | .dK _ kvs=>got (rh x) fun q=>k (.bl (jk kvs q).isSome)
 | .dT _ kvs=>match x with
  | .tup ts=>got (cR ts) fun q=>k (.bl (jk kvs q).isSome)
  | _=>False
 | .str b=>match x with
  | .str a=>k (.bl (!(Qb b a 0 b.length 1).isEmpty))
  | _=>False
 | y=>got (items y) fun ts=>isD x=true/\cT ts=true/\bo (dtL ts) < 180/\k (.bl (mS x ts))
def EF:P2:=fun x y k=>inT x y fun t=>match t with
 | .bl b=>k (.bl (!b))
 | _=>False
theorem zB:OpR X (NO .In) (fun x y H Q=>∃ p xs d ds,y=.ref p/\SqT X.K H p xs/\Has X.K H d x/\ax X.K H ds xs/\X.A.in1.units + bo ds < cLine/\Q (.bl (ds.any fun e=>eqD e d)) H):=by
 intro pins s σ H x y v u Q I rx ry h
 obtain⟨p,xs,d,ds,rfl,hq,hd,hl,hA,q⟩:=h
 cases ry
 obtain⟨its,r,pl,hz⟩:=I.tuple hq
 obtain⟨e,e1,_,e3⟩:=lO I (A:=X.A.in1) hA hd rx (d_ _) hl r
 refine SeqAt.in_tupleAt e pl (fun w hw=>e1 w (by simpa using hw)) ⟨.bl _,H,I,rfl,?_⟩
 rw[show its.toArray.any e=its.any e by simp,e3]
 exact q
theorem x8:OpR X (NO .NotIn) (fun x y H Q=>∃ p xs d ds,y=.ref p/\SqT X.K H p xs/\Has X.K H d x/\ax X.K H ds xs/\X.A.in1.units + bo ds < cLine/\Q (.bl (!ds.any fun e=>eqD e d)) H):=by
 intro pins s σ H x y v u Q I rx ry h
 obtain⟨p,xs,d,ds,rfl,hq,hd,hl,hA,q⟩:=h
 cases ry
 obtain⟨its,r,pl,hz⟩:=I.tuple hq
 obtain⟨e,e1,_,e3⟩:=lO I (A:=X.A.in1) hA hd rx (d_ _) hl r
 refine SeqAt.notIn_tupleAt e pl (fun w hw=>e1 w (by simpa using hw)) ⟨.bl _,H,I,rfl,?_⟩
 rw[show its.toArray.any e=its.any e by simp,e3]
 exact q
theorem vh(x:T)(ts:List T):mS x ts=(dtL ts).any fun e=>eqD e (dt x):=by
 unfold mS
 rw[tJ,MB]
 rfl
theorem tP{kr:Nat}(hr:Room kr X.A):OpP X (NO .In) inT:=by
 rintro pins s σ H x y v u Q I rx ry ⟨tx,ty,Γ,k,rp,g,c⟩
 have sq:(got (items ty) fun ts=>isD tx=true/\cT ts=true/\bo (dtL ts) < 180/\k (.bl (mS tx ts)))->Nl (Nq X.prog X.w) X.A (NO .In v u) (EP X pins σ Q) X.xe s:=fun g=>by
  obtain⟨ts,e,d1,d2,z,kt⟩:=aC g
  obtain⟨a,vs,rfl,hq,l,rp2⟩:=aE e rp
  have fin:=c _ _ _ kt (bg (H:=H) (v:=.bl (mS tx ts)) rp.tail.tail fun _=>.bl)
  rw[vh]at fin
  have hA:X.A.in1.units + bo (dtL ts) < cLine:=by have:=hr.un;show X.A.units + 1 + _ < _;omega
  revert hq
  cases lu ty with
  | true=>exact fun hq=>zB pins s σ H _ _ v u Q I rx ry ⟨a,vs,_,_,rfl,hq,cV rp.tail d1,kH rp2 l d2,hA,fin⟩
  | false=>exact fun hq=>DT pins s σ H _ _ v u Q I rx ry ⟨a,vs,_,_,rfl,hq,cV rp.tail d1,kH rp2 l d2,hA,fin⟩
 cases ty with
 | tup ts=>exact sq g
 | cst ts=>exact sq g
 | lst o ts=>exact sq g
 | str b=>
  cases tx <;> first | exact NC g | skip
  rename_i a
  rw[cU rp]at ry
  rw[cU rp.tail]at rx
  exact x9 pins s σ H _ _ v u Q I rx ry ⟨a,b,rfl,rfl,c _ _ _ g (bg rp.tail.tail fun _=>.bl)⟩
 | dK o kvs=>
  obtain⟨q,eq,g⟩:=aC g
  rw[kA eq rp.tail]at rx
  obtain⟨a,vs,rfl,hq,ek,rp2⟩:=oZ rp
  cases ry
  rw[d7 q ek]at g
  exact Gi (fO hr) I (.inl ⟨vs,q,hq,rfl,rfl⟩) rx fun s' I'=>⟨.bl _,H,I',rfl,c _ _ _ g (bg rp.tail.tail fun _=>.bl)⟩
 | dT o kvs=>
  cases tx <;> first | exact NC g | skip
  rename_i ts
  obtain⟨q,eq,g⟩:=aC g
  obtain⟨b,rfl,hb⟩:=kC eq rp.tail
  obtain⟨a,vs,rfl,hq,ek,rp2⟩:=lj rp
  cases ry
  rw[d7 q ek]at g
  exact Gi (fO hr) I (.inr ⟨vs,q,b,hq,rfl,hb,rfl⟩) rx fun s' I'=>⟨.bl _,H,I',rfl,c _ _ _ g (bg rp.tail.tail fun _=>.bl)⟩
 | _=>exact NC g
theorem qg{kr:Nat}(hr:Room kr X.A):OpP X (NO .NotIn) EF:=by
 rintro pins s σ H x y v u Q I rx ry ⟨tx,ty,Γ,k,rp,g,c⟩
 unfold EF at g
 have sq:(got (items ty) fun ts=>isD tx=true/\cT ts=true/\bo (dtL ts) < 180/\k (.bl (!mS tx ts)))->Nl (Nq X.prog X.w) X.A (NO .NotIn v u) (EP X pins σ Q) X.xe s:=fun g=>by
  obtain⟨ts,e,d1,d2,z,kt⟩:=aC g
  obtain⟨a,vs,rfl,hq,l,rp2⟩:=aE e rp
  have fin:=c _ _ _ kt (bg (H:=H) (v:=.bl (!mS tx ts)) rp.tail.tail fun _=>.bl)
  rw[vh]at fin
  have hA:X.A.in1.units + bo (dtL ts) < cLine:=by have:=hr.un;show X.A.units + 1 + _ < _;omega
  revert hq
  cases lu ty with
  | true=>exact fun hq=>x8 pins s σ H _ _ v u Q I rx ry ⟨a,vs,_,_,rfl,hq,cV rp.tail d1,kH rp2 l d2,hA,fin⟩
  | false=>exact fun hq=>wj pins s σ H _ _ v u Q I rx ry ⟨a,vs,_,_,rfl,hq,cV rp.tail d1,kH rp2 l d2,hA,fin⟩
 cases ty with
 | tup ts=>exact sq g
 | cst ts=>exact sq g
 | lst o ts=>exact sq g
 | str b=>
  cases tx <;> first | exact NC g | skip
  rename_i a
  rw[cU rp]at ry
  rw[cU rp.tail]at rx
  exact pG pins s σ H _ _ v u Q I rx ry ⟨a,b,rfl,rfl,c _ _ _ g (bg rp.tail.tail fun _=>.bl)⟩
 | dK o kvs=>
  obtain⟨q,eq,g⟩:=aC g
  rw[kA eq rp.tail]at rx
  obtain⟨a,vs,rfl,hq,ek,rp2⟩:=oZ rp
  cases ry
  rw[d7 q ek]at g
  exact vk (fO hr) I (.inl ⟨vs,q,hq,rfl,rfl⟩) rx fun s' I'=>⟨.bl _,H,I',rfl,c _ _ _ g (bg rp.tail.tail fun _=>.bl)⟩
 | dT o kvs=>
  cases tx <;> first | exact NC g | skip
  rename_i ts
  obtain⟨q,eq,g⟩:=aC g
  obtain⟨b,rfl,hb⟩:=kC eq rp.tail
  obtain⟨a,vs,rfl,hq,ek,rp2⟩:=lj rp
  cases ry
  rw[d7 q ek]at g
  exact vk (fO hr) I (.inr ⟨vs,q,b,hq,rfl,hb,rfl⟩) rx fun s' I'=>⟨.bl _,H,I',rfl,c _ _ _ g (bg rp.tail.tail fun _=>.bl)⟩
 | _=>exact NC g
def fUn(g:T->(T->Prop)->Prop)(fa:PF):PF:=fun env k=>fa env fun t env1=>g t fun u=>k u env1
def GB:T->(T->Prop)->Prop
 | .int i,k=>k (.int (-i))
 | _,_=>False
theorem uu{a:Nz}{fa:PF}{pos:Pos}(ha:GE X a fa):GE X (.UnaryOp .USub a pos) (fUn GB fa):=by
 refine PE.imp (G8 Fn ha) ?_
 rintro σ H Q ⟨env,Fr,k,rs,q,c⟩
 refine⟨env,Fr,_,rs,q,fun t env1 v H1 q1 rs1=>?_⟩
 cases t <;> first | exact NC q1 | skip
 rename_i i
 exact⟨i,aF rs1.head,c _ _ _ _ q1 (kU rs1.drop fun _=>.int)⟩
end
open PySem PySem.Spec PyProof.Rows L2
abbrev P1s:=List T->(T->Prop)->Prop
noncomputable def w1s(K:Ng)(g:P1s):List V->Hp->VK->Prop:=fun xs H Q=>∃ ts Γ k,ts.length=xs.length/\Rp K H (zz ts xs++Γ)/\g ts k/\∀ t v H',k t->Rp K H' ((t,some v)::Γ)->Q v H'
def gP(X:Cx)(f:Nf)(g:P1s):Prop:=bh X f (w1s X.K g)
def fCl(g:P1s)(fr:PFs):PF:=fun env k=>fr env fun ts env1=>g ts fun t=>k t env1
section
variable{X:Cx}{e:Nz}{es:List Nz}{fr:PFs}{pos p:Pos}{x:Str}{g:P1s}
theorem Dd:∀ σ H Q,wE X.K (fCl g fr) σ H Q->tCB (w1s X.K g) (wA X.K fr) σ H Q:=by
 rintro σ H Q ⟨env,Fr,k,rs,q,c⟩
 refine⟨env,Fr,_,rs,q,fun ts env1 vs H1 q1 l rs1=>?_⟩
 refine⟨ts,env1.zip σ++Fr,_,l,?_,q1,fun t v H' kt rp=>c _ _ _ _ kt (.of rs1.1 rp)⟩
 refine rs1.2.perm ?_
 rw[<-j_,<-j_]
 exact JR.append_right _
theorem aL{id:String}(hc:gP X (.builtin id) g)(hg:Gl X x)(hm:X.mg x=none)(hv:O5 x=some (.builtin id))(ha:GA X (e::es) fr)(hn:x≠"__name__":=by decide)(hdb:(x ==("__debug__":Str))=false:=by decide)
  (he:NF (e::es) X.env=(false,NS e X.env)::NF es X.env:=by rfl) (hpl:(Pt pos (NF es X.env)).any (·.1)=false:=by rfl):GE X (.Call (.Name x p) (e::es) [] pos) (fCl g fr):=PE.imp (aQ hc hg hm hv ha hn hdb he hpl) Dd
theorem cB{id:String}(hc:gP X (.type id) g)(hg:Gl X x)(hm:X.mg x=none)(hv:O5 x=some (.type id))(ha:GA X (e::es) fr)(hn:x≠"__name__":=by decide)(hdb:(x ==("__debug__":Str))=false:=by decide)
  (he:NF (e::es) X.env=(false,NS e X.env)::NF es X.env:=by rfl) (hpl:(Pt pos (NF es X.env)).any (·.1)=false:=by rfl):GE X (.Call (.Name x p) (e::es) [] pos) (fCl g fr):=PE.imp (ny hc hg hm hv ha hn hdb he hpl) Dd
end
section
variable{X:Cx}
theorem zz1{ts:List T}{xs:List V}{t:T}(l:ts.length=xs.length)(e:ts=[t]):∃ x,xs=[x]:=by
 subst e
 rcases xs with _ | ⟨x,_ | ⟨y,xs⟩⟩
 ·cases l
 ·exact⟨x,rfl⟩
 cases l
theorem zz2{ts:List T}{xs:List V}{t u:T}(l:ts.length=xs.length)(e:ts=[t,u]):∃ x y,xs=[x,y]:=by
 subst e
 rcases xs with _ | ⟨x,xs⟩
 ·cases l
 obtain⟨y,rfl⟩:=zz1 (ts:=[u]) (J6 l) rfl
 exact⟨x,y,rfl⟩
theorem zz3{ts:List T}{xs:List V}{t u w:T}(l:ts.length=xs.length)(e:ts=[t,u,w]):∃ x y z,xs=[x,y,z]:=by
 subst e
 rcases xs with _ | ⟨x,xs⟩
 ·cases l
 obtain⟨y,z,rfl⟩:=zz2 (ts:=[u,w]) (J6 l) rfl
 exact⟨x,y,z,rfl⟩
theorem tH{prog:Nv}{w:NA}(d:Nh)(nd:(d == Om)=false) :
  MeetsIn prog w (Ox.«dict.__len__» ⟨[.ref d],[]⟩) (fun _ R s=>∃ o es ep,s.heap.get? d=some o/\o.data=.dict es ep/\R (.ok (.ret (.int es.size s.toks))) { s with toks:=s.toks + 1 }):=
 .of_wp fun A R s ⟨o,es,ep,ho,hdat,q⟩=>by
  show Nl _ _ (dictSize d >>= _) _ _ s
  unfold dictSize
  refine Nd (Nd (Qe ho hdat (Nj ?_)))
  show Nl _ _ (UO d >>= _) _ _ s
  exact Nd (wpAny_pendingCount_other nd (wpAny_ret_mkInt (by rw[L0];exact q)))
theorem Bb{prog:Nv}{w:NA}{A:NH}{E:Nf->Ni->Prop}{s:Ni}{d:Nh}{o:Obj}{es:Array Ph}{ep:Nat}{Q:Nf->Ni->Prop}(nd:(d == Om)=false)(ho:s.heap.get? d=some o)(hc:o.ExactDict)(hdat:o.data=.dict es ep)
  (fit:(es.size:Int) < 2 ^ 63) (q:∀ t tk,Q (.int es.size t) { s with toks:=tk }):Nl (Nq prog w) A (call (.builtin "len") [.ref d]) Q E s:=by
 have ty:s.TypeIs (.ref d) "dict":=⟨_,ho,hc.1⟩
 refine O3 kind_len plain_len entry_len (args_len1 _) ?_
 unfold Ox.«len»
 refine Nd (m:=oneArg "len" _) (Nj ?_)
 refine Nd (m:=callSpecial? (.ref d) (N7 "__len__")) (N0 (name:=N7 "__len__") ty RL
  (call_meetsIn RL ty PySem.F.entry_dict_len (PySem.F.args_dict_len_1 _) (tH d nd) ⟨o,es,ep,ho,hdat,?_⟩))
 show Nl _ _ _ _ _ { s with toks:=s.toks + 1 }
 refine Nd (NJ (Nj (Nd (Pm ?_))))
 show Nl _ _ (if((es.size:Nat):Int) < 0 then _ else _) _ _ _
 rw[if_neg (by lia)]
 show Nl _ _ (if((es.size:Nat):Int)>=2 ^ 63 then _ else _) _ _ _
 rw[if_neg (by lia)]
 exact Nd (Vj (Nj ⟨_,rfl,q _ _⟩))
theorem Ef{pins:List (Nh × Obj)}{σ:L2.St}{H:Hp}{s:Ni}{a:Nh}{kvs:List (List Key × V)}{Q:Nf->Ni->Prop}{E:Nf->Ni->Prop}(I:Inv X pins σ H s)(e:Rd H a (.dT kvs))(q:∀ t s',Inv X pins σ H s'->Q (.int kvs.length t) s'):Nl (Nq X.prog X.w) X.A (call (.builtin "len") [.ref a]) Q E s:=by
 obtain⟨z,hd,xs,rel,o,es,ep,h1,h2,h3,h4,_⟩:=n8 I.hok e
 have hs:es.size=kvs.length:=by
  have:=congrArg Ly h4
  rw[b_]at this
  rw[<-f',this]
  exact(Pz rel).symm
 refine Bb hd h1 h2 h3 (by rw[NQ]at z;lia) fun t tk=>?_
 rw[hs]
 exact q _ _ (I.tok _)
noncomputable def DP:P1s
 | [t],k=>match t with
  | .str x=>x.length<=sizeLine/\k (.int x.length)
  | .dK _ kvs=>k (.int kvs.length)
  | .dT _ kvs=>k (.int kvs.length)
  | t=>got (items t) fun ts=>k (.int ts.length)
 | _,_=>False
theorem bc:gP X (.builtin "len") DP:=by
 rintro pins s σ H xs us Q I r ⟨ts,Γ,k,l,rp,g,c⟩
 match ts,l,g with
 | [t],l,g=>
  obtain⟨x,rfl⟩:=zz1 l rfl
  have rp:Rp X.K H ((t,some x)::Γ):=rp
  have sq:(got (items t) fun ts=>k (.int ts.length))->Nl (Nq X.prog X.w) X.A (call (.builtin "len") us) (EP X pins σ Q) X.xe s:=fun g=>by
   obtain⟨us',e,kt⟩:=aC g
   obtain⟨a,vs,rfl,hq,l2,rp2⟩:=aE e rp
   rw[l2]at kt
   exact wb pins s σ H _ us Q I r ⟨_,a,vs,rfl,hq,c _ _ _ kt (bg rp.tail fun _=>.int)⟩
  cases t with
  | str z=>
   rw[cU rp]at r
   exact oX pins s σ H _ us Q I r ⟨z,rfl,g.1,c _ _ _ g.2 (bg rp.tail fun _=>.int)⟩
  | dK o kvs=>
   obtain⟨a,vs,rfl,hq,ek,rp2⟩:=oZ rp
   obtain⟨u,rfl,ru⟩:=vals1 r
   cases ru
   have g:k (.int kvs.length):=g
   rw[br ek]at g
   exact Gs I hq fun t s' I'=>⟨.int vs.length,H,I',⟨t,rfl⟩,c _ _ _ g (bg rp.tail fun _=>.int)⟩
  | dT o kvs=>
   obtain⟨a,vs,rfl,hq,ek,rp2⟩:=lj rp
   obtain⟨u,rfl,ru⟩:=vals1 r
   cases ru
   have g:k (.int kvs.length):=g
   rw[br ek]at g
   exact Ef I hq fun t s' I'=>⟨.int vs.length,H,I',⟨t,rfl⟩,c _ _ _ g (bg rp.tail fun _=>.int)⟩
  | _=>exact sq g
 | [],_,g=>exact NC g
 | _::_::_,_,g=>exact NC g
noncomputable def intsOf:List T->Option (List Int)
 | []=>some []
 | .int i::r=>match intsOf r with
  | some ns=>some (i::ns)
  | none=>none
 | _::_=>none
theorem cG(ns:List Int):intsOf (ns.map T.int)=some ns:=by
 induction ns with
 | nil=>rfl
 | cons n r ih=>rw[f_,intsOf,ih]
theorem cz:∀ {ts:List T} {ns:List Int},intsOf ts=some ns->ts=ns.map T.int
 | [],ns,e=>by cases e;rfl
 | t::ts,ns,e=>by
  cases t <;> first | cases e | skip
  rename_i i
  rw[intsOf]at e
  split at e
  ·rename_i ms em
   cases e
   rw[f_,cz em]
  cases e
theorem cL{K:Ng}{H:Hp}{Γ:Fm}:∀ {ns:List Int} {vs:List V},(ns.map T.int).length=vs.length->Rp K H (zz (ns.map T.int) vs++Γ)->vs=ns.map V.int
 | [],[],_,_=>rfl
 | [],_::_,l,_=>by simp at l
 | _::_,[],l,_=>by simp at l
 | n::ns,v::vs,l,h=>by
  have h:Rp K H ((.int n,some v)::(zz (ns.map T.int) vs++Γ)):=h
  rw[aF h,cL (by simpa using l) h.tail]
  rfl
noncomputable def Fw:P1s
 | [.int i,.int j],k=>k (.int (min i j))
 | [.int i,.int j,.int l],k=>k (.int (min (min i j) l))
 | [t],k=>got (items t) fun ts=>got (intsOf ts) fun ns=>ns≠[]/\∀ r,v9 ns r->k (.int r)
 | _,_=>False
theorem nM(hc:X.calm=true):gP X (.builtin "min") Fw:=by
 rintro pins s σ H xs us Q I r ⟨ts,Γ,k,l,rp,g,c⟩
 unfold Fw at g
 split at g
 ·rename_i k i j
  obtain⟨x,y,rfl⟩:=zz2 l rfl
  have rp:Rp X.K H ((.int i,some x)::(.int j,some y)::Γ):=rp
  rw[aF rp,aF rp.tail]at r
  refine wZ hc pins s σ H _ us Q I r ⟨i,j,rfl,?_⟩
  have e:(if j < i then j else i)=min i j:=by split <;> lia
  rw[e]
  exact c _ _ _ g (bg rp.tail.tail fun _=>.int)
 ·rename_i k i j m
  obtain⟨x,y,z,rfl⟩:=zz3 l rfl
  have rp:Rp X.K H ((.int i,some x)::(.int j,some y)::(.int m,some z)::Γ):=rp
  rw[aF rp,aF rp.tail,aF rp.tail.tail]at r
  refine wo hc pins s σ H _ us Q I r ⟨i,j,m,rfl,fun w h1 h2 h3 h4=>?_⟩
  have e:w=min (min i j) m:=by lia
  rw[e]
  exact c _ _ _ g (bg rp.tail.tail.tail fun _=>.int)
 ·rename_i k t
  obtain⟨x,rfl⟩:=zz1 l rfl
  have rp:Rp X.K H ((t,some x)::Γ):=rp
  obtain⟨us',e,g⟩:=aC g
  obtain⟨ns,en,ne,kt⟩:=aC g
  have:=cz en
  subst this
  obtain⟨a,vs,rfl,hq,l2,rp2⟩:=aE e rp
  have:=cL l2 rp2
  subst this
  revert hq
  cases lu t with
  | true=>exact fun hq=>wu hc pins s σ H _ us Q I r ⟨a,ns,rfl,hq,ne,fun w hw=>c _ _ _ (kt w hw) (bg rp.tail fun _=>.int)⟩
  | false=>exact fun hq=>wa hc pins s σ H _ us Q I r ⟨a,ns,rfl,hq,ne,fun w hw=>c _ _ _ (kt w hw) (bg rp.tail fun _=>.int)⟩
 exact NC g
def E5:P1s
 | [.int i],k=>k (.int i)
 | [.bl b],k=>k (.int (if b then 1 else 0))
 | _,_=>False
theorem fq:gP X (.type "int") E5:=by
 rintro pins s σ H xs us Q I r ⟨ts,Γ,k,l,rp,g,c⟩
 unfold E5 at g
 split at g
 ·rename_i k i
  obtain⟨x,rfl⟩:=zz1 l rfl
  have rp:Rp X.K H ((.int i,some x)::Γ):=rp
  rw[aF rp]at r
  exact nk pins s σ H _ us Q I r (.inl ⟨i,rfl,c _ _ _ g (bg rp.tail fun _=>.int)⟩)
 ·rename_i k i
  obtain⟨x,rfl⟩:=zz1 l rfl
  have rp:Rp X.K H ((.bl i,some x)::Γ):=rp
  rw[nh rp]at r
  exact nk pins s σ H _ us Q I r (.inr ⟨i,rfl,c _ _ _ g (bg rp.tail fun _=>.int)⟩)
 exact NC g
def A2:P1s
 | [t],k=>got (items t) fun ts=>k (.lst true ts)
 | _,_=>False
theorem uk:gP X (.type "list") A2:=by
 rintro pins s σ H xs us Q I r ⟨ts,Γ,k,l,rp,g,c⟩
 unfold A2 at g
 split at g
 ·rename_i k t
  obtain⟨x,rfl⟩:=zz1 l rfl
  have rp:Rp X.K H ((t,some x)::Γ):=rp
  obtain⟨us',e,kt⟩:=aC g
  obtain⟨a,vs,rfl,hq,l2,rp2⟩:=aE e rp
  exact u9 pins s σ H _ us Q I r ⟨_,a,vs,rfl,hq,fun p H' hp g' e'=>c _ _ _ kt (cI rp2 l2 hp g' e')⟩
 exact NC g
def tq:P1s
 | [.tup ts],k=>k (.tup ts)
 | [.cst ts],k=>k (.cst ts)
 | [.lst _ ts],k=>k (.tup ts)
 | _,_=>False
theorem qQ:gP X (.type "tuple") tq:=by
 rintro pins s σ H xs us Q I r ⟨ts,Γ,k,l,rp,g,c⟩
 unfold tq at g
 split at g
 ·rename_i k ts
  obtain⟨x,rfl⟩:=zz1 l rfl
  have rp:Rp X.K H ((.tup ts,some x)::Γ):=rp
  obtain⟨a,vs,rfl,hq,l2,rp2⟩:=aE rfl rp
  exact jW pins s σ H _ us Q I r ⟨a,vs,rfl,hq,c _ _ _ g rp⟩
 ·rename_i k ts
  obtain⟨x,rfl⟩:=zz1 l rfl
  have rp:Rp X.K H ((.cst ts,some x)::Γ):=rp
  obtain⟨a,vs,rfl,hq,l2,rp2⟩:=aE rfl rp
  exact jW pins s σ H _ us Q I r ⟨a,vs,rfl,hq,c _ _ _ g rp⟩
 ·rename_i k o ts
  obtain⟨x,rfl⟩:=zz1 l rfl
  have rp:Rp X.K H ((.lst o ts,some x)::Γ):=rp
  obtain⟨a,vs,rfl,hq,l2,rp2⟩:=aE rfl rp
  exact sg pins s σ H _ us Q I r ⟨a,vs,rfl,hq,fun p H' hp g' e'=>c _ _ _ g (dB rp2 l2 g' e')⟩
 exact NC g
noncomputable def boolsOf:List T->Option (List Bool)
 | []=>some []
 | .bl i::r=>match boolsOf r with
  | some ns=>some (i::ns)
  | none=>none
 | _::_=>none
theorem kT:∀ {ts:List T} {ns:List Bool},boolsOf ts=some ns->ts=ns.map T.bl
 | [],ns,e=>by cases e;rfl
 | t::ts,ns,e=>by
  cases t <;> first | cases e | skip
  rename_i i
  rw[boolsOf]at e
  split at e
  ·rename_i ms em
   cases e
   rw[f_,kT em]
  cases e
theorem si{K:Ng}{H:Hp}{Γ:Fm}:∀ {ns:List Bool} {vs:List V},(ns.map T.bl).length=vs.length->Rp K H (zz (ns.map T.bl) vs++Γ)->vs=bools ns
 | [],[],_,_=>rfl
 | [],_::_,l,_=>by simp at l
 | _::_,[],l,_=>by simp at l
 | n::ns,v::vs,l,h=>by
  have h:Rp K H ((.bl n,some v)::(zz (ns.map T.bl) vs++Γ)):=h
  rw[nh h,si (by simpa using l) h.tail]
  rfl
def Ew:P1s
 | [.lst _ ts],k=>got (boolsOf ts) fun bs=>k (.bl (bs.all id))
 | _,_=>False
theorem jq(hc:X.calm=true):gP X (.builtin "all") Ew:=by
 rintro pins s σ H xs us Q I r ⟨ts,Γ,k,l,rp,g,c⟩
 unfold Ew at g
 split at g
 ·rename_i k o ts
  obtain⟨x,rfl⟩:=zz1 l rfl
  have rp:Rp X.K H ((.lst o ts,some x)::Γ):=rp
  obtain⟨bs,e,kt⟩:=aC g
  have:=kT e
  subst this
  obtain⟨a,vs,rfl,hq,l2,rp2⟩:=aE rfl rp
  have:=si l2 rp2
  subst this
  exact qN hc pins s σ H _ us Q I r ⟨a,bs,rfl,hq,c _ _ _ kt (bg rp.tail fun _=>.bl)⟩
 exact NC g
abbrev PO':=Ev->(Option Int->Ev->Prop)->Prop
def wO(K:Ng)(f:PO'):TO:=fun σ H Q=>∃ env Fr k,Rs K H env σ Fr/\f env k/\∀ o env' H',k o env'->Rs K H' env' σ Fr->Q o H'
def GO(X:Cx)(e:Option Nz)(f:PO'):Prop:=PO X e (wO X.K f)
def Ho:PO':=fun env k=>k none env
def Gp(f:PF):PO':=fun env k=>f env fun t env1=>match t with
 | .int i=>k (some i) env1
 | _=>False
theorem BZ:GO X none Ho:=fun pins s σ H Q I ⟨env,Fr,k,rs,q,c⟩=>vA pins s σ H Q I (c _ _ _ q rs)
theorem BW{e:Nz}{f:PF}(h:GE X e f):GO X (some e) (Gp f):=by
 rintro pins s σ H Q I ⟨env,Fr,k,rs,q,c⟩
 refine uL h pins s σ H Q I ⟨env,Fr,_,rs,q,fun t env1 v H1 q1 rs1=>?_⟩
 cases t <;> first | exact NC q1 | skip
 exact⟨_,aF rs1.head,c _ _ _ q1 rs1.drop⟩
noncomputable def mW(ts:List T)(lo hi:Option Int):List T:=(ts.drop (HT.sIx ts.length 0 lo)).take (HT.sIx ts.length ts.length hi - HT.sIx ts.length 0 lo)
noncomputable def slT:T->Option Int->Option Int->(T->Prop)->Prop
 | .lst _ ts,lo,hi,k=>k (.lst true (mW ts lo hi))
 | .tup ts,lo,hi,k=>¬(HT.sIx ts.length 0 lo=0/\HT.sIx ts.length ts.length hi=ts.length)/\k (.tup (mW ts lo hi))
 | .cst ts,lo,hi,k=>¬(HT.sIx ts.length 0 lo=0/\HT.sIx ts.length ts.length hi=ts.length)/\k (.tup (mW ts lo hi))
 | _,_,_,_=>False
theorem ve:∀(ts:List T) (vs:List V) (n:Nat),zz (ts.drop n) (vs.drop n)=(zz ts vs).drop n
 | ts,vs,0=>rfl
 | [],vs,n + 1=>by simp[zz]
 | t::ts,[],n + 1=>by simp[zz]
 | t::ts,v::vs,n + 1=>by
  show zz (ts.drop n) (vs.drop n)=(zz ts vs).drop n
  exact ve ts vs n
theorem uP:∀(ts:List T) (vs:List V) (n:Nat),zz (ts.take n) (vs.take n)=(zz ts vs).take n
 | ts,vs,0=>by simp[zz]
 | [],vs,n + 1=>by simp[zz]
 | t::ts,[],n + 1=>by simp[zz]
 | t::ts,v::vs,n + 1=>by
  show(t,some v)::zz (ts.take n) (vs.take n)=(t,some v)::(zz ts vs).take n
  rw[uP ts vs n]
theorem uf{K:Ng}{H:Hp}{Γ:Fm}{ts:List T}{vs:List V}(l:ts.length=vs.length)(lo hi:Option Int)(h:Rp K H (zz ts vs++Γ)):Rp K H (zz (mW ts lo hi) (eL vs lo hi)++Γ)/\(mW ts lo hi).length=(eL vs lo hi).length:=by
 unfold mW eL
 rw[<-l]
 refine⟨?_,?_⟩
 ·rw[uP,ve]
  have e1:=Ja (HT.sIx ts.length 0 lo) (zz ts vs)
  have e2:=Ja (HT.sIx ts.length ts.length hi - HT.sIx ts.length 0 lo) ((zz ts vs).drop (HT.sIx ts.length 0 lo))
  have h2:Rp K H ((zz ts vs).drop (HT.sIx ts.length 0 lo)++Γ):=by
   rw[<-e1,j_]at h
   exact h.part
  rw[<-e2,j_]at h2
  have h3:=h2.perm (A_ _ _ _)
  exact h3.part
 rw[Jc,Jc,Jl,Jl,l]
noncomputable def fSl(fa:PF)(fl fh:PO'):PF:=fun env k=>fa env fun t env1=>fl env1 fun lo env2=>fh env2 fun hi env3=>slT t lo hi fun u=>k u env3
theorem xt{e:Nz}{lo hi:Option Nz}{fa:PF}{fl fh:PO'}{p2 pos:Pos}(he:GE X e fa)(hl:GO X lo fl)(hh:GO X hi fh):GE X (.Subscript e (.Slice lo hi none p2) pos) (fSl fa fl fh):=by
 have sl:SlR X (fun x lo hi H Q=>∃ t Γ k,Rp X.K H ((t,some x)::Γ)/\slT t lo hi k/\∀ u v H',k u->Rp X.K H' ((u,some v)::Γ)->Q v H'):=by
  rintro pins s σ H x v vl vu lo hi sl Q I rx hs pl pu ⟨t,Γ,k,rp,g,c⟩
  cases t with
  | lst o ts=>
   obtain⟨a,vs,rfl,hq,l,rp2⟩:=aE rfl rp
   obtain⟨rp3,l3⟩:=uf l lo hi rp2
   exact Ae pins s σ H _ v vl vu lo hi sl Q I rx hs pl pu ⟨a,vs,rfl,hq,fun p H' hp g' e=>c _ _ _ g (cI rp3 l3 hp g' e)⟩
  | tup ts=>
   obtain⟨a,vs,rfl,hq,l,rp2⟩:=aE rfl rp
   obtain⟨rp3,l3⟩:=uf l lo hi rp2
   exact vX pins s σ H _ v vl vu lo hi sl Q I rx hs pl pu ⟨a,vs,rfl,hq,by rw[<-l];exact g.1,fun p H' hp g' e=>c _ _ _ g.2 (dB rp3 l3 g' e)⟩
  | cst ts=>
   obtain⟨a,vs,rfl,hq,l,rp2⟩:=aE rfl rp
   obtain⟨rp3,l3⟩:=uf l lo hi rp2
   exact vX pins s σ H _ v vl vu lo hi sl Q I rx hs pl pu ⟨a,vs,rfl,hq,by rw[<-l];exact g.1,fun p H' hp g' e=>c _ _ _ g.2 (dB rp3 l3 g' e)⟩
  | _=>exact NC g
 refine PE.imp (qO sl he hl hh) ?_
 rintro σ H Q ⟨env,Fr,k,rs,q,c⟩
 refine⟨env,Fr,_,rs,q,fun t env1 v H1 q1 rs1=>⟨env1,_,_,rs1,q1,fun lo env2 H2 q2 rs2=>⟨env2,_,_,rs2,q2,fun hi env3 H3 q3 rs3=>?_⟩⟩⟩
 exact⟨t,_,_,rs3.head,q3,fun u w H' ku rp=>c _ _ _ _ ku (.of rs3.1 rp)⟩
end
open PySem PySem.Spec PyProof.Rows L2
inductive Arg where
 | val (t:T) | bor (i:Nat)
def mL:Arg->T
 | .val t=>t
 | .bor _=>.any
noncomputable def lend:List Arg->Ev->List T × Ev
 | [],env=>([],env)
 | .val t::r,env=>(t::(lend r env).1,(lend r env).2)
 | .bor i::r,env=>match env[i]? with
  | some t=>(t::(lend r (env.set i .any)).1,(lend r (env.set i .any)).2)
  | none=>(.any::(lend r env).1,(lend r env).2)
noncomputable def back:List Arg->List T->Ev->Ev
 | .bor i::r,t::ts,env=>back r ts (env.set i t)
 | .val _::r,_::ts,env=>back r ts env
 | _,_,env=>env
noncomputable def gG:List Arg->List (Option V)->L2.St->Prop
 | [],[],_=>True
 | .val _::r,_::xs,σ=>gG r xs σ
 | .bor i::r,x::xs,σ=>(σ[i]?=some x\/σ.length<=i)/\gG r xs σ
 | _,_,_=>False
section
variable{K:Ng}{H:Hp}{σ:L2.St}
theorem gH:∀ {as:List Arg} {xs:List (Option V)} {env:Ev} {Fr:Fm},gG as xs σ->Rs K H env σ ((as.map mL).zip xs++Fr)->Rs K H (lend as env).2 σ ((lend as env).1.zip xs++Fr)
 | [],[],env,Fr,_,h=>h
 | [],_::_,env,Fr,o,_=>o.elim
 | .val t::r,[],env,Fr,o,_=>o.elim
 | .bor i::r,[],env,Fr,o,_=>o.elim
 | .val t::r,x::xs,env,Fr,o,h=>by
  have h:Rs K H env σ ((t,x)::((r.map mL).zip xs++Fr)):=h
  have h2:Rs K H env σ ((r.map mL).zip xs++((t,x)::Fr)):=h.perm h_.symm
  exact(gH (as:=r) o h2).perm h_
 | .bor i::r,x::xs,env,Fr,o,h=>by
  have h:Rs K H env σ ((.any,x)::((r.map mL).zip xs++Fr)):=h
  have h:=h.drop
  rw[lend]
  split
  ·rename_i t e
   obtain⟨y,ey,h2⟩:=h.slot e
   have o1:σ[i]?=some x:=by
    rcases o.1 with z | z
    ·exact z
    have:=(c_.mp ey).1
    lia
   rw[o1]at ey
   cases ey
   have h3:Rs K H (env.set i .any) σ ((r.map mL).zip xs++((t,x)::Fr)):=h2.perm h_.symm
   exact(gH (as:=r) o.2 h3).perm h_
  have h3:Rs K H env σ ((r.map mL).zip xs++((.any,x)::Fr)):=(Rs.of h.1 (eP (x:=x) h.2)).perm h_.symm
  exact(gH (as:=r) o.2 h3).perm h_
theorem gI:∀ {as:List Arg} {xs:List (Option V)} {ts:List T} {env:Ev} {Fr:Fm},gG as xs σ->Rs K H env σ (ts.zip xs++Fr)->Rs K H (back as ts env) σ Fr
 | [],xs,ts,env,Fr,_,h=>by
  have:back [] ts env=env:=by cases ts <;> rfl
  rw[this]
  exact⟨h.1,(h.2.perm (A_ _ _ _)).part⟩
 | a::r,xs,[],env,Fr,_,h=>by
  have:back (a::r) [] env=env:=by cases a <;> rfl
  rw[this]
  exact h
 | .val t::r,[],u::ts,env,Fr,o,_=>o.elim
 | .bor i::r,[],u::ts,env,Fr,o,_=>o.elim
 | .val t::r,x::xs,u::ts,env,Fr,o,h=>by
  have h:Rs K H env σ ((u,x)::(ts.zip xs++Fr)):=h
  exact gI (as:=r) o h.drop
 | .bor i::r,x::xs,u::ts,env,Fr,o,h=>by
  have h:Rs K H env σ ((u,x)::(ts.zip xs++Fr)):=h
  rw[back]
  by_cases hi:i < env.length
  ·have o1:σ[i]?=some x:=by
    rcases o.1 with z | z
    ·exact z
    have:=h.1
    lia
   exact gI (as:=r) o.2 (h.jG hi o1)
  have e:env.set i u=env:=K8 (by lia)
  rw[e]
  exact gI (as:=r) o.2 h.drop
theorem Rs.put {env:Ev}{Fr:Fm}{i:Nat}{t:T}{v:V}(h:Rs K H env σ ((t,some v)::Fr)):Rs K H (env.set i t) (σ.set i (some v)) Fr:=by
 by_cases hi:i < env.length
 ·exact h.store hi
 rw[K8 (by lia),K8 (by rw[<-h.1];lia)]
 exact h.drop
end
abbrev PAs:=Ev->(List Arg->Ev->Prop)->Prop
noncomputable def wR(K:Ng)(f:PAs):TA:=fun σ H Q=>∃ env Fr k,Rs K H env σ Fr/\f env k/\∀ as env' vs H',k as env'->as.length=vs.length->gG as (vs.map some) σ->Rs K H' env' σ ((as.map mL).zip (vs.map some)++Fr)->Q vs H'
def GR(X:Cx)(es:List Nz)(f:PAs):Prop:=PA X es (wR X.K f)
def HL:PAs:=fun env k=>k [] env
def Hx(f:PF)(r:PAs):PAs:=fun env k=>f env fun t env1=>r env1 fun as env2=>k (.val t::as) env2
noncomputable def F3(i:Nat)(r:PAs):PAs:=fun env k=>(match env[i]? with
 | some t=>isAny t=false
 | none=>False)/\r env fun as env2=>k (.bor i::as) env2
section
variable{X:Cx}{e:Nz}{es:List Nz}{f:PF}{fr:PAs}
theorem aB:GR X [] HL:=PA.imp b7 fun σ H Q ⟨env,Fr,k,rs,q,c⟩=>c [] env [] H q rfl trivial rs
theorem ai(he:GE X e f)(hr:GR X es fr)(hs:NF (e::es) X.env=(false,NS e X.env)::NF es X.env:=by rfl):GR X (e::es) (Hx f fr):=by
 refine PA.imp (aq he hr hs) ?_
 rintro σ H Q ⟨env,Fr,k,rs,q,c⟩
 refine⟨env,Fr,_,rs,q,fun t env1 v H1 q1 rs1=>⟨env1,_,_,rs1,q1,fun as env2 vs H2 q2 l ao rs2=>c _ _ _ _ q2 (by rw[i_,i_,l]) ao ?_⟩⟩
 exact rs2.perm h_
theorem bI(i:Nat){x:Str}{pos:Pos}(hr:GR X es fr)(hN:X.N[i]?=some x:=by rfl)(hv:Vis X.env.scope x:=by first | exact k_ rfl | exact l_ (k_ rfl) | exact l_ (l_ rfl))(hd:(x ==("__debug__":Str))=false:=by decide)(hcd:(x ==("__classdict__":Str))=false:=by decide)
  (hs:NF (.Name x pos::es) X.env=(false,NS (.Name x pos) X.env)::NF es X.env:=by rfl):GR X (.Name x pos::es) (F3 i fr):=by
 refine PA.imp (aq (gf hN hv hd hcd) hr hs) ?_
 rintro σ H Q ⟨env,Fr,k,rs,⟨na,q⟩,c⟩
 split at na
 ·rename_i t e
  obtain⟨y,ey,rs2⟩:=rs.slot e
  obtain⟨v,rfl⟩:=cF rs2 na
  refine⟨v,ey,env,Fr,_,rs,q,fun as env2 vs H2 q2 l ao rs2=>c _ _ _ _ q2 (by rw[i_,i_,l]) ⟨.inl ey,ao⟩ ?_⟩
  exact .of rs2.1 (eP rs2.2)
 exact na.elim
end
abbrev FP:=List T->(T->List T->Prop)->Prop
noncomputable def aG(K:Ng)(n:Nat)(P:FP):Sp:=fun vs H Q _=>∃ ts Fr k,ts.length=vs.length/\vs.length=n/\Rp K H (zz ts vs++Fr)/\P ts k/\∀ t ts' v H',k t ts'->Rp K H' ((t,some v)::(zz ts' vs++Fr))->Q v H'
def GZ(P:FP)(ts:List T)(k:T->List T->Prop):Prop:=P ts k
noncomputable def Ec(n:Nat)(P:FP)(fr:PAs):PF:=fun env k=>fr env fun as env1=>as.length=n/\GZ P (lend as env1).1 fun t ts'=>k t (back as ts' (lend as env1).2)
section
variable{X:Cx}
theorem eh:∀(as:List Arg) (env:Ev),(lend as env).1.length=as.length
 | [],env=>rfl
 | .val t::r,env=>by rw[lend,i_,i_,eh r]
 | .bor i::r,env=>by
  rw[lend]
  split
  ·rw[i_,i_,eh r]
  rw[i_,i_,eh r]
theorem BU{n:Nat}{P:FP}{fr:PAs}:∀ σ H Q,wE X.K (Ec n P fr) σ H Q->A5 (aG X.K n P) [] E0 (wR X.K fr) σ H Q:=by
 rintro σ H Q ⟨env,Fr,k,rs,q,c⟩
 refine⟨env,Fr,_,rs,q,fun as env1 vs H1 ⟨hn,q1⟩ l ao rs1=>?_⟩
 show aG X.K n P (vs++[]) H1 Q E0
 rw[H_]
 have rs2:=gH ao rs1
 refine⟨(lend as env1).1,(lend as env1).2.zip σ++Fr,_,by rw[eh,l],by rw[<-l];exact hn,?_,q1,fun t ts' v H' kt rp=>c _ _ _ _ kt ?_⟩
 ·exact rs2.2.perm (A_ _ _ _)
 have h3:Rs X.K H' (lend as env1).2 σ (zz ts' vs++((t,some v)::Fr)):=⟨rs2.1,rp.perm (by
  refine I_ ?_ (A_ _ _ _)
  refine I_ h_.symm ?_
  exact Js _ h_.symm)⟩
 exact gI ao h3
theorem aA{j k n:Nat}{x:Str}{ps:List Str}{P:FP}{e:Nz}{es:List Nz}{fr:PAs}{p pos:Pos}(D:Cal X.prog X.w X.K X.mg X.base j x ps (aG X.K n P))(hr:Room k X.A)(hg:Gl X x)(ha:GR X (e::es) fr)(hjk:j<=k:=by omega)(hdb:(x ==("__debug__":Str))=false:=by decide)
  (he:NF (e::es) X.env=(false,NS e X.env)::NF es X.env:=by rfl) (hpl:(Pt pos (NF es X.env)).any (·.1)=false:=by rfl):GE X (.Call (.Name x p) (e::es) [] pos) (Ec n P fr):=PE.imp (zW D hr hg ha hjk hdb he hpl) BU
end
structure PEn where
 nx:Ev->Prop
 rt:T->Ev->Prop
 bk:Ev->Prop:=fun _=>False
 ct:Ev->Prop:=fun _=>False
abbrev PSt:=PEn->Ev->Prop
def Kept(κ:Nat->Bool)(σ σ':L2.St):Prop:=σ'.length=σ.length/\∀ j,κ j=true->σ'[j]?=σ[j]?
theorem Kept.refl {κ:Nat->Bool}{σ:L2.St}:Kept κ σ σ:=⟨rfl,fun _ _=>rfl⟩
theorem Kept.trans {κ:Nat->Bool}{σ σ' σ'':L2.St}(a:Kept κ σ σ')(b:Kept κ σ' σ''):Kept κ σ σ'':=⟨b.1.trans a.1,fun j h=>(b.2 j h).trans (a.2 j h)⟩
theorem Kept.set {κ:Nat->Bool}{σ:L2.St}{i:Nat}{x:Option V}(h:κ i=false):Kept κ σ (σ.set i x):=⟨Jg,fun j hj=>by
 by_cases e:i=j
 ·subst e;rw[h]at hj;cases hj
 rw[KC e]⟩
structure EndOk (K:Ng) (κ:Nat->Bool) (σ:L2.St) (Fr:Fm) (pe:PEn) (D:Ends):Prop where
 nx:∀ env' σ' H',pe.nx env'->Rs K H' env' σ' Fr->Kept κ σ σ'->D.nx σ' H'
 rt:∀ t env' v σ' H',pe.rt t env'->Rs K H' env' σ' ((t,some v)::Fr)->Kept κ σ σ'->D.rt v H'
 bk:∀ env' σ' H',pe.bk env'->Rs K H' env' σ' Fr->Kept κ σ σ'->D.bk σ' H'
 ct:∀ env' σ' H',pe.ct env'->Rs K H' env' σ' Fr->Kept κ σ σ'->D.ct σ' H'
theorem EndOk.later {K:Ng}{κ:Nat->Bool}{σ σ':L2.St}{Fr:Fm}{pe:PEn}{D:Ends}(h:EndOk K κ σ Fr pe D)(k:Kept κ σ σ'):EndOk K κ σ' Fr pe D:=
 ⟨fun a b c p q r=>h.nx a b c p q (k.trans r),fun a b c d e p q r=>h.rt a b c d e p q (k.trans r),fun a b c p q r=>h.bk a b c p q (k.trans r),fun a b c p q r=>h.ct a b c p q (k.trans r)⟩
def wS(K:Ng)(κ:Nat->Bool)(f:PSt):TS:=fun D σ H=>∃ env Fr pe,Rs K H env σ Fr/\f pe env/\EndOk K κ σ Fr pe D
def GS(κ:Nat->Bool)(X:Cx)(st:NZ)(f:PSt):Prop:=PS X st (wS X.K κ f)
def GSs(κ:Nat->Bool)(X:Cx)(sts:List NZ)(f:PSt):Prop:=PSs X sts (wS X.K κ f)
theorem PS.imp {X:Cx}{st:NZ}{t t':TS}(h:PS X st t)(k:∀ D σ H,t' D σ H->t D σ H):PS X st t':=fun pins s σ H D I q=>h pins s σ H D I (k _ _ _ q)
theorem PSs.imp {X:Cx}{st:List NZ}{t t':TS}(h:PSs X st t)(k:∀ D σ H,t' D σ H->t D σ H):PSs X st t':=fun pins s σ H D I q=>h pins s σ H D I (k _ _ _ q)
def D7:PSt:=fun pe env=>pe.nx env
def Hu(f g:PSt):PSt:=fun pe env=>f { pe with nx:=g pe } env
section
variable{X:Cx}{κ:Nat->Bool}{pos:Pos}{st:NZ}{rest:List NZ}{f g:PSt}{e:Nz}{fe:PF}
theorem cf:GSs κ X [] D7:=PSs.imp cy fun D σ H ⟨env,Fr,pe,rs,q,c⟩=>c.nx _ _ _ q rs .refl
theorem af(h1:GS κ X st f)(h2:GSs κ X rest g):GSs κ X (st::rest) (Hu f g):=by
 refine PSs.imp (aM h1 h2) ?_
 rintro D σ H ⟨env,Fr,pe,rs,q,c⟩
 refine⟨env,Fr,_,rs,q,⟨fun env' σ' H' q1 rs1 k1=>⟨env',Fr,pe,rs1,q1,c.later k1⟩,c.rt,c.bk,c.ct⟩⟩
theorem ak(h1:GS κ X st f):GSs κ X [st] f:=bS h1
def D6(fe:PF):PSt:=fun pe env=>fe env fun _ env1=>pe.nx env1
theorem i9(he:GE X e fe)(hs:P0 e none pos.line X.env=pure false:=by rfl):GS κ X (.Expr e pos) (D6 fe):=by
 refine PS.imp (B8 he hs) ?_
 rintro D σ H ⟨env,Fr,pe,rs,q,c⟩
 exact⟨env,Fr,_,rs,q,fun t env' v H' q1 rs1=>c.nx _ _ _ q1 rs1.drop .refl⟩
def HN(fe:PF):PSt:=fun pe env=>fe env fun t env1=>pe.rt t env1
theorem b6(he:GE X e fe):GS κ X (.Return (some e) pos) (HN fe):=by
 refine PS.imp (cQ he) ?_
 rintro D σ H ⟨env,Fr,pe,rs,q,c⟩
 exact⟨env,Fr,_,rs,q,fun t env' v H' q1 rs1=>c.rt _ _ _ _ _ q1 rs1 .refl⟩
def sIf(tc:PB)(f g:PSt):PSt:=fun pe env=>tc env fun b env1=>cnd b (f pe env1) (g pe env1)
theorem fH{c:Nz}{a b:List NZ}{tc:PB}(hc:GT X c tc)(ha:GSs κ X a f)(hb:GSs κ X b g):GS κ X (.If c a b pos) (sIf tc f g):=by
 refine PS.imp (iA hc ha hb) ?_
 rintro D σ H ⟨env,Fr,pe,rs,q,c⟩
 refine⟨env,Fr,_,rs,q,fun b env' H' q1 rs1=>fv ⟨fun h=>⟨env',Fr,pe,rs1,q1.1 h,c⟩,fun h=>⟨env',Fr,pe,rs1,q1.2 h,c⟩⟩⟩
def Al(i:Nat)(fe:PF):PSt:=fun pe env=>fe env fun t env1=>pe.nx (env1.set i t)
theorem az{i:Nat}{x:Str}{pos':Pos}(hN:X.N.Nodup)(hi:X.N[i]?=some x)(hx:Loc X.env.scope x)(hκ:κ i=false)(he:GE X e fe)(hs:P0 e (some (.Name x pos')) pos.line X.env=pure false:=by rfl)(hf:X.fn x=true\/X.env.scope.names.lookup x=some .local:=by first | exact .inl rfl | exact .inr rfl | assumption) :
  GS κ X (.Assign [.Name x pos'] e pos) (Al i fe):=by
 refine PS.imp (dR hN hi hx he hs hf) ?_
 rintro D σ H ⟨env,Fr,pe,rs,q,c⟩
 exact⟨env,Fr,_,rs,q,fun t env' v H' q1 rs1=>c.nx _ _ _ q1 rs1.put (.set hκ)⟩
abbrev PG':=T->Ev->(Ev->Prop)->Prop
abbrev qj:=List T->Ev->(Ev->Prop)->Prop
noncomputable def wG(K:Ng)(κ:Nat->Bool)(f:PG'):TG:=fun v σ H Q=>∃ t env Fr k,Rs K H env σ ((t,some v)::Fr)/\f t env k/\∀ env' σ' H',k env'->Rs K H' env' σ' Fr->Kept κ σ σ'->Q σ' H'
noncomputable def wGs(K:Ng)(κ:Nat->Bool)(f:qj):TGs:=fun vs σ H Q=>∃ ts env Fr k,ts.length=vs.length/\Rs K H env σ (zz ts vs++Fr)/\f ts env k/\∀ env' σ' H',k env'->Rs K H' env' σ' Fr->Kept κ σ σ'->Q σ' H'
def GG(κ:Nat->Bool)(X:Cx)(tg:Nz)(f:PG'):Prop:=PG X tg (wG X.K κ f)
def GGs(κ:Nat->Bool)(X:Cx)(tgs:List Nz)(f:qj):Prop:=PGs X tgs (wGs X.K κ f)
def gN(i:Nat):PG':=fun t env k=>k (env.set i t)
theorem av{i:Nat}{x:Str}(hN:X.N.Nodup)(hi:X.N[i]?=some x)(hx:Loc X.env.scope x)(hκ:κ i=false)(hf:X.fn x=true\/X.env.scope.names.lookup x=some .local:=by first | exact .inl rfl | exact .inr rfl | assumption):GG κ X (.Name x pos) (gN i):=
 fun pins s σ H v u Q I r ⟨t,env,Fr,k,rs,q,c⟩=>kN hN hi hx hf pins s σ H v u Q I r (c _ _ _ q rs.put (.set hκ))
def CY:qj:=fun ts env k=>ts=[]/\k env
def y3(f:PG')(r:qj):qj:=fun ts env k=>match ts with
 | t::ts=>f t env fun env1=>r ts env1 k
 | []=>False
noncomputable def gTp(n:Nat)(f:qj):PG':=fun t env k=>match t with
 | .tup ts=>ts.length=n/\f ts env k
 | .cst ts=>ts.length=n/\f ts env k
 | _=>False
end
open PySem PySem.Spec PyProof.Rows L2
section
variable{X:Cx}{κ:Nat->Bool}{pos:Pos}{e tg:Nz}{es:List Nz}{fe:PF}{g:PG'}{gs:qj}
theorem cN:GGs κ X [] CY:=by
 rintro pins s σ H vs us Q I r ⟨ts,env,Fr,k,l,rs,⟨e,q⟩,c⟩
 subst e
 have:vs=[]:=by cases vs with | nil=>rfl | cons _ _=>cases l
 subst this
 exact pK pins s σ H [] us Q I r ⟨rfl,c _ _ _ q rs .refl⟩
theorem aW(h1:GG κ X e g)(h2:GGs κ X es gs)(hs:(OP (e::es) X.env).map (·.2)=Qi e X.env::(OP es X.env).map (·.2):=by rfl):GGs κ X (e::es) (y3 g gs):=by
 rintro pins s σ H vs us Q I r ⟨ts,env,Fr,k,l,rs,q,c⟩
 cases ts with
 | nil=>exact NC q
 | cons t ts=>
  cases vs with
  | nil=>cases l
  | cons v vs=>
   have q:g t env fun env1=>gs ts env1 k:=q
   refine dZ h1 h2 hs pins s σ H (v::vs) us Q I r ⟨v,vs,rfl,t,env,zz ts vs++Fr,_,rs,q,fun env1 σ1 H1 q1 rs1 k1=>?_⟩
   exact⟨ts,env1,Fr,k,by simpa using l,rs1,q1,fun env2 σ2 H2 q2 rs2 k2=>c _ _ _ q2 rs2 (k1.trans k2)⟩
theorem eQ{x1 n:Nat}(hc:X.calm=true)(h:GGs κ X es gs)(hn:(OP es X.env).length=n:=by rfl)(hst:(OP es X.env).findIdx? (·.1)=none:=by rfl):GG κ X (.Tuple es x1 pos) (gTp n gs):=by
 rintro pins s σ H v u Q I r ⟨t,env,Fr,k,rs,q,c⟩
 have go:∀ ts,items t=some ts->lu t=true->ts.length=n->gs ts env k->Nl (Nq X.prog X.w) X.A (Qi (.Tuple es x1 pos) X.env u) (fun _ s'=>∃ σ' H',Inv X pins σ' H' s'/\Q σ' H') X.xe s:=fun ts e1 e2 e3 q=>by
  obtain⟨a,vs,rfl,hq,l,rp⟩:=aE e1 rs.head
  rw[e2]at hq
  refine ux hc h hn hst pins s σ H _ u Q I r ⟨a,vs,rfl,hq,by rw[<-l];exact e3,ts,env,Fr,k,l,⟨rs.1,?_⟩,q,c⟩
  exact rp.perm (A_ _ _ _)
 cases t with
 | tup ts=>exact go ts rfl rfl q.1 q.2
 | cst ts=>exact go ts rfl rfl q.1 q.2
 | _=>exact NC q
def HX(fe:PF)(g:PG'):PSt:=fun pe env=>fe env fun t env1=>g t env1 pe.nx
theorem sN(he:GE X e fe)(hg:GG κ X tg g)(hs:QN [tg] e pos.line X.env=pure false:=by rfl)(hw:QO [tg] e X.env=pure none:=by rfl)(h1:(OP [tg] X.env).map (·.2)=[Qi tg X.env]:=by rfl) :
  GS κ X (.Assign [tg] e pos) (HX fe g):=by
 refine PS.imp (xQ he hg hs hw h1) ?_
 rintro D σ H ⟨env,Fr,pe,rs,q,c⟩
 exact⟨env,Fr,_,rs,q,fun t env' v H' q1 rs1=>⟨t,env',Fr,_,rs1,q1,fun env2 σ2 H2 q2 rs2 k2=>c.nx _ _ _ q2 rs2 k2⟩⟩
noncomputable def HR(i j:Nat)(fr:PFs):PSt:=fun pe env=>fr env fun ts env1=>match ts with
 | [t,u]=>pe.nx ((env1.set i t).set j u)
 | _=>False
theorem DN{i j:Nat}{x y:Str}{a b:Nz}{fr:PFs}{px py pt:Pos}{kt k2 pt2}(hc:X.calm=true)(hN:X.N.Nodup)(hi:X.N[i]?=some x)(hj:X.N[j]?=some y)(hij:i≠j)
  (hx:X.env.scope.names.lookup x=some .local) (hy:X.env.scope.names.lookup y=some .local) (hκi:κ i=false) (hκj:κ j=false) (ha:GA X [a,b] fr)
  (hw:QO [.Tuple [.Name x px,.Name y py] kt pt] (.Tuple [a,b] k2 pt2) X.env=pure (some [x,y])) (hs:QN [.Tuple [.Name x px,.Name y py] kt pt] (.Tuple [a,b] k2 pt2) pos.line X.env=pure false:=by rfl) :
  GS κ X (.Assign [.Tuple [.Name x px,.Name y py] kt pt] (.Tuple [a,b] k2 pt2) pos) (HR i j fr):=by
 refine PS.imp (Ex hc hN hi hj hij hx hy ha hw hs) ?_
 rintro D σ H ⟨env,Fr,pe,rs,q,c⟩
 refine⟨env,Fr,_,rs,q,fun ts env1 vs H1 q1 l rs1=>?_⟩
 rcases ts with _ | ⟨t,_ | ⟨u,_ | ⟨t3,ts⟩⟩⟩
 ·exact q1.elim
 ·exact q1.elim
 ·obtain⟨v,w,rfl⟩:=zz2 l rfl
  refine⟨v,w,rfl,c.nx _ _ _ q1 ?_ ((Kept.set hκi).trans (Kept.set hκj))⟩
  have r1:Rs X.K H1 env1 σ ((t,some v)::(u,some w)::Fr):=rs1
  exact Rs.put (Rs.put r1)
 exact q1.elim
noncomputable def DS(i:Nat)(fe:PF)(g:P2):PSt:=fun pe env=>(match env[i]? with
 | some t=>isAny t=false/\aX t=true
 | none=>False)/\fe env fun u env1=>match env[i]? with
 | some t=>g t u fun w=>pe.nx (env1.set i w)
 | none=>False
def IpP(X:Cx)(op:Q2)(g:P2):Prop:=PIp X op (w2 X.K g)
theorem tf{i:Nat}{x:Str}{op:Q2}{g:P2}{pos':Pos}(hN:X.N.Nodup)(hi:X.N[i]?=some x)(hx:Loc X.env.scope x)(hκ:κ i=false)(he:GE X e fe)(ho:IpP X op g)(hf:X.fn x=true\/X.env.scope.names.lookup x=some .local:=by first | exact .inl rfl | exact .inr rfl | assumption) :
  GS κ X (.AugAssign (.Name x pos') op e pos) (DS i fe g):=by
 refine PS.imp (FX hN hi hx he ho hf) ?_
 rintro D σ H ⟨env,Fr,pe,rs,⟨q0,q⟩,c⟩
 cases e0:env[i]? with
 | none=>rw[e0]at q0;exact q0.elim
 | some t=>
  simp only[e0]at q0 q
  obtain⟨y,ey,rs2⟩:=rs.slot e0
  obtain⟨v,rfl⟩:=cF rs2 q0.1
  have hi':i < env.length:=(c_.mp e0).1
  have r3:Rs X.K H (env.set i .any) σ ((t,some v)::(t,some v)::Fr):=.of rs2.1 ((jE rs2.head q0.2).perm (Lx _ h_.symm))
  have r4:=Rs.jG (i:=i) r3 (by rw[Jg];exact hi') ey
  rw[i5 e0]at r4
  refine⟨v,ey,env,(t,some v)::Fr,_,r4,q,fun u env1 w H1 q1 rs1=>?_⟩
  refine⟨t,u,env1.zip σ++Fr,_,rs1.head.perm (.cons _ h_),q1,fun z b H2 kz rp=>?_⟩
  exact c.nx _ _ _ kz (Rs.put (.of rs1.1 rp)) (.set hκ)
noncomputable def tW(tc:PB)(fb:PSt)(pe:PEn)(env:Ev):Prop:=∃ W:Nat->Ev->Prop,(∃ m,W m env)/\∀ m env,W m env->tc env fun b env1=>cnd b (fb { pe with nx:=fun e=>∃ m',m' < m/\W m' e,ct:=fun e=>∃ m',m' < m/\W m' e,bk:=pe.nx } env1) (pe.nx env1)
def yu(tc:PB)(fb:PSt):PSt:=fun pe env=>tW tc fb pe env
theorem gK{c:Nz}{body:List NZ}{tc:PB}{fb:PSt}(hp:Si (Nq X.prog X.w) X.A X.env X.xe)(hc:GT X c tc)(hb:GSs κ X body fb):GS κ X (.While c body [] pos) (yu tc fb):=by
 refine PS.imp (xJ hp hc hb) ?_
 rintro D σ H ⟨env,Fr,pe,rs,⟨W,⟨m0,w0⟩,wt⟩,c⟩
 refine⟨fun m σ' H'=>∃ env',W m env'/\Rs X.K H' env' σ' Fr/\Kept κ σ σ',⟨m0,env,w0,rs,.refl⟩,?_⟩
 rintro m σ1 H1 ⟨env1,w1,rs1,k1⟩
 refine⟨env1,Fr,_,rs1,wt m env1 w1,fun b env2 H2 q2 rs2=>fv ⟨fun h=>?_,fun h=>c.nx _ _ _ (q2.2 h) rs2 k1⟩⟩
 refine⟨fun σ' H'=>∃ m' env',m' < m/\W m' env'/\Rs X.K H' env' σ' Fr/\Kept κ σ σ',fun σ' H' ⟨m',env',hm,w',r',k'⟩=>⟨m',hm,env',w',r',k'⟩,env2,Fr,_,rs2,q2.1 h,⟨?_,?_,?_,?_⟩⟩
 ·exact fun env' σ' H' ⟨m',hm,w'⟩ r' k'=>⟨m',env',hm,w',r',k1.trans k'⟩
 ·exact fun t env' v σ' H' p r' k'=>c.rt _ _ _ _ _ p r' (k1.trans k')
 ·exact fun env' σ' H' p r' k'=>c.nx _ _ _ p r' (k1.trans k')
 exact fun env' σ' H' ⟨m',hm,w'⟩ r' k'=>⟨m',env',hm,w',r',k1.trans k'⟩
structure ItOk (K:Ng) (J:It) (its:List T) (Fg:Fm):Prop where
 turn:∀ i t H Γ,its[i]?=some t->Rp K H (Fg++Γ)->J.go i H/\∀ x H',J.yld i H x H'->Rp K H' ((t,some x)::(Fg++Γ))
 stop:∀ H Γ,Rp K H (Fg++Γ)->J.stop its.length H
abbrev PIt:=Ev->(List T->Ev->Prop)->Prop
noncomputable def wI(K:Ng)(f:PIt):TI:=fun σ H R=>∃ env Fr k,Rs K H env σ Fr/\f env k/\∀ its env' J Fg H',k its env'->Rs K H' env' σ (Fg++Fr)->ItOk K J its Fg->R J H'
def GI(X:Cx)(tg iter:Nz)(f:PIt):Prop:=PI X tg iter (wI X.K f)
noncomputable def forL(its:List T)(g:PG')(fb:PSt)(pe:PEn)(env1:Ev):Prop:=∃ W:Nat->Ev->Prop,W 0 env1/\(∀ i t env,W i env->its[i]?=some t->g t env fun env2=>fb { pe with nx:=W (i + 1),ct:=W (i + 1),bk:=pe.nx } env2)/\∀ env,W its.length env->pe.nx env
def HY(fi:PIt)(g:PG')(fb:PSt):PSt:=fun pe env=>fi env fun its env1=>forL its g fb pe env1
theorem lq{K:Ng}{H:Hp}{env:Ev}{σ:L2.St}{Fg Fr:Fm}(h:Rs K H env σ (Fg++Fr)):Rs K H env σ Fr:=⟨h.1,(h.2.perm (A_ _ _ _)).part⟩
theorem eF{iter:Nz}{body:List NZ}{fi:PIt}{g:PG'}{fb:PSt}(hp:Si (Nq X.prog X.w) X.A X.env X.xe)(hc:X.calm=true)(hi:GI X tg iter fi)(hg:GG κ X tg g)(hb:GSs κ X body fb)(hs:∀ x,Of iter X.env x=pure x:=by intro _;rfl):GS κ X (.For tg iter body [] pos) (HY fi g fb):=by
 refine PS.imp (FV hp hc hi hg hb hs) ?_
 rintro D σ H ⟨env,Fr,pe,rs,q,c⟩
 refine⟨env,Fr,_,rs,q,?_⟩
 rintro its env1 J Fg H1 ⟨W,w0,wt,we⟩ rs1 ok
 refine⟨fun i m σ' H'=>∃ env',W i env'/\Rs X.K H' env' σ' (Fg++Fr)/\Kept κ σ σ'/\m + i=its.length,⟨its.length,env1,w0,rs1,.refl,rfl⟩,?_⟩
 rintro i m σ1 H2 ⟨env2,w2,rs2,k2,hm⟩
 have rp2:Rp X.K H2 (Fg++(env2.zip σ1++Fr)):=rs2.2.perm (A_ _ _ _)
 by_cases hlt:i < its.length
 ·have ei:its[i]?=some its[i]:=a_ hlt
  obtain⟨hgo,hy⟩:=ok.turn i its[i] H2 _ ei rp2
  refine .inr ⟨hgo,fun σ' H'=>∃ env',W (i + 1) env'/\Rs X.K H' env' σ' (Fg++Fr)/\Kept κ σ σ',fun σ' H' ⟨env',w',r',k'⟩=>⟨m - 1,by lia,env',w',r',k',by lia⟩,fun x H' hx=>?_⟩
  have rp3:=hy x H' hx
  have rs3:Rs X.K H' env2 σ1 ((its[i],some x)::(Fg++Fr)):=.of rs2.1 (rp3.perm (.cons _ (A_ _ _ _)))
  refine⟨its[i],env2,Fg++Fr,_,rs3,wt i its[i] env2 w2 ei,fun env3 σ3 H3 q3 rs4 k4=>?_⟩
  refine⟨env3,Fg++Fr,_,rs4,q3,⟨?_,?_,?_,?_⟩⟩
  ·exact fun env' σ' H' w' r' k'=>⟨env',w',r',k2.trans (k4.trans k')⟩
  ·exact fun t env' v σ' H' p r' k'=>c.rt _ _ _ _ _ p (lq (Fg:=Fg) (r'.perm h_.symm)) (k2.trans (k4.trans k'))
  ·exact fun env' σ' H' p r' k'=>c.nx _ _ _ p (lq r') (k2.trans (k4.trans k'))
  exact fun env' σ' H' w' r' k'=>⟨env',w',r',k2.trans (k4.trans k')⟩
 have:i=its.length:=by lia
 subst this
 exact .inl ⟨ok.stop H2 _ rp2,c.nx _ _ _ (we env2 w2) (lq rs2) k2⟩
end
section
variable{X:Cx}{pos:Pos}{e tg:Nz}{fe:PF}
def Ie(fe:PF):PIt:=fun env k=>fe env fun t env1=>got (items t) fun ts=>k (erL ts) env1
theorem DH{K:Ng}{t:T}{ts:List T}{a:Nh}(e:items t=some ts)(n:aX t=true):ItOk K (Its K (lu t) a) ts [(t,some (.ref a))] where
 turn:=fun i u H Γ ei rp=>by
  obtain⟨a',vs,ea,hq,l,rp2⟩:=aE e (jE rp n)
  cases ea
  obtain⟨w,ew⟩:=oA l ei
  refine⟨DW hq rfl i H .bz (by have:=(c_.mp ew).1;exact this),fun x H' hy=>?_⟩
  obtain⟨rfl,hx⟩:=Bg hq .bz hy
  rw[ew]at hx
  cases hx
  exact gQ rp2 ei ew
 stop:=fun H Γ rp=>by
  obtain⟨a',vs,ea,hq,l,rp2⟩:=aE e rp
  cases ea
  exact A8 hq l.symm H .bz
theorem rq{t:T}{ts:List T}(e:items t=some ts):items (er t)=some (erL ts)/\lu (er t)=lu t:=by
 cases t <;> cases e <;> exact⟨rfl,rfl⟩
theorem bL(h:GE X e fe):GI X tg e (Ie fe):=by
 rintro pins s σ H R I ⟨env,Fr,k,rs,q,c⟩
 refine G3 h pins s σ H R I ⟨env,Fr,_,rs,q,fun t env1 v H1 q1 rs1=>?_⟩
 obtain⟨ts,e1,kt⟩:=aC q1
 have rf:Rp X.K H1 ((er t,some v)::(env1.zip σ++Fr)):=pM rs1.head
 obtain⟨e2,e3⟩:=rq e1
 obtain⟨a,vs,rfl,hq,l,rp2⟩:=aE e2 rf
 exact⟨lu (er t),a,vs,rfl,hq,c _ _ _ _ _ kt (Rs.of (Fr:=Fr) rs1.1 rf) (DH e2 (bF t))⟩
def gu(lo:Int)(n:Nat):List T:=(o_ n).map fun(i:Nat)=>.int (lo + (i:Int))
theorem F0{K:Ng}(lo:Int)(n:Nat):ItOk K (Itr lo n) (gu lo n) [] where
 turn:=fun i t H Γ ei rp=>by
  unfold gu at ei
  rw[A']at ei
  have hi:i < n:=by
   cases h:(o_ n)[i]? with
   | none=>rw[h]at ei;cases ei
   | some j=>
    have:=(c_.mp h).1
    simpa using this
  rw[Ke hi]at ei
  cases ei
  refine⟨hi,fun x H' ⟨e1,e2⟩=>?_⟩
  subst e1;subst e2
  exact bg rp fun _=>.int
 stop:=fun H Γ rp=>by
  show n<=_
  unfold gu
  rw[b_,u_]
  exact d_ _
noncomputable def iR1(fr:PFs):PIt:=fun env k=>fr env fun ts env1=>match ts with
 | [.int j]=>(-(2 ^ 62)<=j/\j < 2 ^ 62)/\k (gu 0 j.toNat) env1
 | _=>False
variable{a b c:Nz}{fr:PFs}{p:Pos}
theorem j8(hg:Gl X "range")(hm:X.mg "range"=none)(ha:GA X [a] fr)(hs:NF [a] X.env=[(false,NS a X.env)]:=by rfl):GI X tg (.Call (.Name "range" p) [a] [] pos) (iR1 fr):=by
 rintro pins s σ H R I ⟨env,Fr,k,rs,q,c⟩
 refine vZ hg hm ha hs pins s σ H R I ⟨env,Fr,_,rs,q,fun ts env1 vs H1 q1 l rs1=>?_⟩
 rcases ts with _ | ⟨t,_ | ⟨t2,ts⟩⟩
 ·exact q1.elim
 ·cases t <;> first | exact q1.elim | skip
  rename_i j
  rcases vs with _ | ⟨v,_ | ⟨v2,vs⟩⟩
  ·cases l
  ·have rs1:Rs X.K H1 env1 σ ((.int j,some v)::Fr):=rs1
   rw[aF rs1.head]
   exact⟨j,rfl,q1.1.1,q1.1.2,c _ _ _ [] _ q1.2 rs1.drop (F0 0 _)⟩
  cases l
 cases t <;> exact q1.elim
def dnT(lo:Int)(n:Nat):List T:=(o_ n).map fun(i:Nat)=>.int (lo - (i:Int))
theorem HS{K:Ng}(lo:Int)(n:Nat):ItOk K (Idn lo n) (dnT lo n) [] where
 turn:=fun i t H Γ ei rp=>by
  unfold dnT at ei
  rw[A']at ei
  have hi:i < n:=by
   cases h:(o_ n)[i]? with
   | none=>rw[h]at ei;cases ei
   | some j=>
    have:=(c_.mp h).1
    simpa using this
  rw[Ke hi]at ei
  cases ei
  refine⟨hi,fun x H' ⟨e1,e2⟩=>?_⟩
  subst e1;subst e2
  exact bg rp fun _=>.int
 stop:=fun H Γ rp=>by
  show n<=_
  unfold dnT
  rw[b_,u_]
  exact d_ _
noncomputable def iR3(fr:PFs):PIt:=fun env k=>fr env fun ts env1=>match ts with
 | [.int i,.int j,.int m]=>m=-1/\(-(2 ^ 60)<=i/\i < 2 ^ 60/\-(2 ^ 60)<=j/\j < 2 ^ 60)/\k (dnT i (i - j).toNat) env1
 | _=>False
theorem wF(hg:Gl X "range")(hm:X.mg "range"=none)(ha:GA X [a,b,c] fr)(hs:NF [a,b,c] X.env=[(false,NS a X.env),(false,NS b X.env),(false,NS c X.env)]:=by rfl)(hs2:NF [b,c] X.env=[(false,NS b X.env),(false,NS c X.env)]:=by rfl):GI X tg (.Call (.Name "range" p) [a,b,c] [] pos) (iR3 fr):=by
 rintro pins s σ H R I ⟨env,Fr,k,rs,q,c⟩
 refine xa hg hm ha hs hs2 pins s σ H R I ⟨env,Fr,_,rs,q,fun ts env1 vs H1 q1 l rs1=>?_⟩
 match ts,vs,l,q1 with
 | [.int i,.int j,.int m],[v,w,z],l,q1=>
  have rs1:Rs X.K H1 env1 σ ((.int i,some v)::(.int j,some w)::(.int m,some z)::Fr):=rs1
  rw[aF rs1.head,aF rs1.drop.head,aF rs1.drop.drop.head,q1.1]
  exact⟨i,j,rfl,q1.2.1,c _ _ _ [] _ q1.2.2 rs1.drop.drop.drop (HS i _)⟩
theorem EN{K:Ng}{H H':Hp}{Γ:Fm}{t u:T}{x y:V}{p:Nh}(h:Rp K H ((t,some x)::(u,some y)::Γ))(s:aP H H')(e:H' p=some (.tup [x,y])):Rp K H' ((.tup [t,u],some (.ref p))::Γ):=
 dB (ts:=[t,u]) (vs:=[x,y]) h rfl s e
noncomputable def iEn(fr:PFs):PIt:=fun env k=>fr env fun ts env1=>match ts with
 | [t]=>got (items t) fun as=>k ((o_ as.length).zipWith (fun(i:Nat) (x:T)=>T.tup [.int (i:Int),x]) (erL as)) env1
 | _=>False
theorem DJ{K:Ng}{t:T}{as:List T}{a:Nh}(e1:items t=some as)(n1:aX t=true) :
  ItOk K (Ite K (lu t) a) ((o_ as.length).zipWith (fun(i:Nat) (x:T)=>T.tup [.int (i:Int),x]) as) [(t,some (.ref a))] where
 turn:=fun i w H Γ ei rp=>by
  have rp0:Rp K H ((t,some (.ref a))::Γ):=rp
  rw[Mk]at ei
  cases h1:(o_ as.length)[i]? with
  | none=>rw[h1]at ei;cases ei
  | some j=>
   cases h2:as[i]? with
   | none=>rw[h1,h2]at ei;cases ei
   | some u=>
    rw[h1,h2]at ei
    cases ei
    have hi:i < as.length:=(c_.mp h2).1
    rw[Ke hi]at h1
    cases h1
    obtain⟨a',vs,ea,ha,la,rp2⟩:=aE e1 (jE rp0 n1)
    cases ea
    obtain⟨x,ex⟩:=oA la h2
    have rp3:=gQ rp2 h2 ex
    refine⟨⟨vs,x,ha,ex⟩,fun v H' hy=>?_⟩
    obtain⟨p,x',hp,ev,eH,h3⟩:=hy
    have ex':=h3 vs ha
    rw[ex]at ex'
    cases ex'
    subst ev;subst eH
    exact EN (bg rp3 fun _=>.int) (aV hp _) ay
 stop:=fun H Γ rp=>by
  have rp0:Rp K H ((t,some (.ref a))::Γ):=rp
  obtain⟨a',vs,ea,ha,la,_⟩:=aE e1 rp0
  cases ea
  refine⟨vs,ha,?_⟩
  rw[Mu,u_,la,M1]
theorem fx{es:List Nz}{x1:Nat}{tp:Pos}(hg:Gl X "enumerate")(hm:X.mg "enumerate"=none)(ha:GA X [a] fr)(hs:NF [a] X.env=[(false,NS a X.env)]:=by rfl) :
  GI X (.Tuple es x1 tp) (.Call (.Name "enumerate" p) [a] [] pos) (iEn fr):=by
 rintro pins s σ H R I ⟨env,Fr,k,rs,q,c⟩
 refine B1 hg hm ha hs pins s σ H R I ⟨env,Fr,_,rs,q,fun ts env1 vs H1 q1 l rs1=>?_⟩
 rcases ts with _ | ⟨t,_ | ⟨t2,ts⟩⟩
 ·exact q1.elim
 ·obtain⟨v,rfl⟩:=zz1 l rfl
  obtain⟨as,ea,kt⟩:=aC q1
  have rs1:Rs X.K H1 env1 σ ((t,some v)::Fr):=rs1
  have r2:Rs X.K H1 env1 σ ((er t,some v)::Fr):=.of rs1.1 (pM rs1.head)
  obtain⟨e1,_⟩:=rq ea
  obtain⟨a',xs,rfl,hq,l1,_⟩:=aE e1 r2.head
  rw[<-k9 as]at kt
  exact⟨_,a',rfl,⟨xs,hq⟩,c _ _ _ [(er t,_)] _ kt r2 (DJ e1 (bF t))⟩
 exact q1.elim
end
open PySem PySem.Spec PyProof.Rows L2
def frA(fr:List (Option Nat)):List Arg:=fr.map fun o=>match o with
 | some j=>.bor j
 | none=>.val .any
def κc(fr:List (Option Nat))(j:Nat):Bool:=match fr[j]? with
 | some (some _)=>true
 | _=>false
theorem dF:∀(fr:List (Option Nat)) (σ:L2.St),gG (frA fr) (bE fr σ) σ
 | [],σ=>trivial
 | none::r,σ=>dF r σ
 | some j::r,σ=>by
  refine⟨?_,dF r σ⟩
  by_cases h:j < σ.length
  ·refine .inl ?_
   show σ[j]?=some ((σ[j]?).join)
   rw[a_ h]
   rfl
  exact .inr (by lia)
theorem g9:∀(fr:List (Option Nat)) (τ τ':List (Option V)) (σ:L2.St),τ'.length=τ.length->(∀ j,κc fr j=true->τ'[j]?=τ[j]?)->gG (frA fr) τ σ->gG (frA fr) τ' σ
 | [],[],τ',σ,l,_,_=>by
  have:τ'=[]:=by cases τ' with | nil=>rfl | cons _ _=>cases l
  subst this
  trivial
 | [],_::_,_,_,_,_,o=>o.elim
 | none::r,[],_,_,_,_,o=>o.elim
 | some j::r,[],_,_,_,_,o=>o.elim
 | none::r,x::τ,[],σ,l,_,_=>by cases l
 | some j::r,x::τ,[],σ,l,_,_=>by cases l
 | none::r,x::τ,y::τ',σ,l,k,o=>g9 r τ τ' σ (by simpa using l) (fun j hj=>by simpa using k (j + 1) hj) o
 | some i::r,x::τ,y::τ',σ,l,k,o=>by
  have e:y=x:=by
   have:=k 0 rfl
   simpa using this
  subst e
  exact⟨o.1,g9 r τ τ' σ (by simpa using l) (fun j hj=>by simpa using k (j + 1) hj) o.2⟩
noncomputable def Cv(fr:List (Option Nat))(its:List T)(g:PG')(ft:PB)(fe:PF)(env1:Ev)(k:T->Ev->Prop):Prop:=its.length < sizeLine/\∃ W:Nat->List T->Ev->Prop,W 0 [] (lend (frA fr) env1).1/\
 (∀ i t acc ie,W i acc ie->its[i]?=some t->g t ie fun ie2=>ft ie2 fun b ie3=>cnd b (fe ie3 fun u ie4=>W (i + 1) (acc++[u]) ie4) (W (i + 1) acc ie3))/\
 ∀ acc ie,W its.length acc ie->k (.lst true acc) (back (frA fr) ie (lend (frA fr) env1).2)
def qJ(fr:List (Option Nat))(fi:PIt)(g:PG')(ft:PB)(fe:PF):PF:=fun env k=>fi env fun its env1=>Cv fr its g ft fe env1 k
theorem pH:∀ fr:List (Option Nat),(frA fr).map mL=fr.map fun _=>T.any
 | []=>rfl
 | none::r=>by
  show T.any::(frA r).map mL=T.any::r.map fun _=>T.any
  rw[pH r]
 | some j::r=>by
  show T.any::(frA r).map mL=T.any::r.map fun _=>T.any
  rw[pH r]
theorem vt{K:Ng}{H:Hp}{Γ:Fm}:∀(fr:List (Option Nat)) (xs:List (Option V)),Rp K H Γ->Rp K H ((fr.map fun _=>T.any).zip xs++Γ)
 | [],xs,h=>h
 | _::r,[],h=>h
 | _::r,x::xs,h=>eP (vt r xs h)
theorem Ao(fr:List (Option Nat)):(frA fr).length=fr.length:=by unfold frA;rw[b_]
theorem tE(fr:List (Option Nat))(σ:L2.St):(bE fr σ).length=fr.length:=by unfold bE;rw[b_]
theorem t9{K:Ng}{fr:List (Option Nat)}{fi:PIt}{g:PG'}{ft:PB}{fe:PF}:∀ σ H Q,wE K (qJ fr fi g ft fe) σ H Q->uU (wI K fi) fr (fun _ _ _=>wG K (κc fr) g) (fun _ _ _=>wB K ft) (fun _ _ _=>wE K fe) σ H Q:=by
 rintro σ H Q ⟨env,Fr,k,rs,q,c⟩
 refine⟨env,Fr,_,rs,q,?_⟩
 rintro its env1 J Fg H1 ⟨hz,W,w0,wt,we⟩ rs1 ok
 intro p hp s3 H3' fp
 have l0:Rs K H1 env1 σ (((frA fr).map mL).zip (bE fr σ)++(Fg++Fr)):=⟨rs1.1,by
  refine Rp.perm ?_ (A_ _ _ _)
  rw[pH]
  exact vt fr _ rs1.2⟩
 have l1:=gH (dF fr σ) l0
 obtain⟨ie0,ou,e0⟩:∃ ie0 ou,lend (frA fr) env1=(ie0,ou):=⟨_,_,rfl⟩
 have lie:ie0.length=(bE fr σ).length:=by
  have:=eh (frA fr) env1
  rw[e0,Ao]at this
  rw[tE];exact this
 rw[e0]at l1 w0
 have rp0:Rp K (upd H1 p (.lst [])) ((.lst true [],some (.ref p))::(ie0.zip (bE fr σ)++(Fg++(ou.zip σ++Fr)))):=by
  refine cI (ts:=[]) (vs:=[]) (l1.2.perm ?_) rfl hp (aV hp _) ay
  show MV (ou.zip σ++(ie0.zip (bE fr σ)++(Fg++Fr))) (ie0.zip (bE fr σ)++(Fg++(ou.zip σ++Fr)))
  exact(A_ _ _ _).trans ((A_ _ _ _).append_left _)
 refine⟨fun i m σ' H'=>∃ acc ie,W i acc ie/\Rs K H' ie σ' ((.lst true acc,some (.ref p))::(Fg++(ou.zip σ++Fr)))/\Kept (κc fr) (bE fr σ) σ'/\m + i=its.length/\acc.length<=i,⟨its.length,[],ie0,w0,.of lie rp0,.refl,rfl,d_ _⟩,?_⟩
 rintro i m σ1 H2 ⟨acc,ie,w2,rs2,k2,hm,ha⟩
 have rp2:Rp K H2 (Fg++((.lst true acc,some (.ref p))::(ie.zip σ1++(ou.zip σ++Fr)))):=by
  refine rs2.head.perm ?_
  refine I_ ?_ h_.symm
  exact .cons _ (A_ _ _ _)
 by_cases hlt:i < its.length
 ·have ei:its[i]?=some its[i]:=a_ hlt
  obtain⟨hgo,hy⟩:=ok.turn i its[i] H2 _ ei rp2
  refine .inr ⟨hgo,fun x H' hx=>?_⟩
  have rp3:=hy x H' hx
  have rs3:Rs K H' ie σ1 ((its[i],some x)::((.lst true acc,some (.ref p))::(Fg++(ou.zip σ++Fr)))):=.of rs2.1 (rp3.perm (.cons _ (by
   refine h_.trans ?_
   refine I_ ?_ h_.symm
   exact .cons _ (A_ _ _ _))))
  refine⟨its[i],ie,_,_,rs3,wt i its[i] acc ie w2 ei,fun ie3 σ3 H3 q3 rs4 k4=>?_⟩
  refine⟨ie3,_,_,rs4,q3,fun b ie4 H4 q4 rs5=>fv ⟨fun hb=>?_,fun hb=>?_⟩⟩
  ·refine⟨ie4,_,_,rs5,q4.1 hb,fun u ie5 v H5 q5 rs6=>?_⟩
   have r7:=rs6.perm (.swap _ _ _)
   obtain⟨a',ys,ea,hys,ly,r8⟩:=fw r7.head
   cases ea
   refine⟨ys,hys,by rw[<-ly];exact Jq ha (Ll hlt hz),m - 1,by lia,acc++[u],ie5,q5,.of r7.1 ?_,k2.trans k4,by lia,by rw[j'];simp;omega⟩
   refine eN (ts:=acc++[u]) (vs:=ys++[v]) (r8.perm (.cons _ ?_)) (by rw[j',j',ly];rfl) Put.up
   rw[lR ly,j_]
   refine Js _ ?_
   exact h_
  exact⟨m - 1,by lia,acc,ie4,q4.2 hb,rs5,k2.trans k4,by lia,by lia⟩
 have:i=its.length:=by lia
 subst this
 refine .inl ⟨ok.stop H2 _ rp2,c _ _ _ _ (we acc ie w2) ?_⟩
 rw[e0]
 have ao:gG (frA fr) σ1 σ:=g9 fr (bE fr σ) σ1 σ k2.1 k2.2 (dF fr σ)
 refine gI ao (env:=ou) ⟨l1.1,?_⟩
 refine rp2.part.perm ?_
 refine I_ ?_ (A_ _ _ _)
 refine I_ h_.symm ?_
 exact Js _ h_.symm
def GTs(X:Cx)(ifs:List Nz)(f:PB):Prop:=PTs X ifs (wB X.K f)
def xk:PB:=fun env k=>k true env
theorem bG{X:Cx}:GTs X [] xk:=fun pins s σ H Q I ⟨env,Fr,k,rs,q,c⟩=>vP pins s σ H Q I (c _ _ _ q rs)
theorem kP{X:Cx}{c:Nz}{f:PB}(h:GT X c f):GTs X [c] f:=Cb h
theorem bH{X:Cx}{N ps:List Str}{esc:Oo}(S:FnScope N ps esc)(N':List Str)(fr:List (Option Nat))(nd:N'.Nodup){elt target iter:Nz}{ifs:List Nz}{sc:Oo}{pos:Pos}{fi:PIt}{g:PG'}{ft:PB}{fe:PF}(C:dW N esc sc N' fr=true)
  (hi:GI X target iter fi) (hg:∀ s3 H3 fp,GG (κc fr) (aI X N' sc s3 H3 fp) target g) (ht:∀ s3 H3 fp,GTs (aI X N' sc s3 H3 fp) ifs ft) (he:∀ s3 H3 fp,GE (aI X N' sc s3 H3 fp) elt fe)
  (hc:X.calm=true:=by rfl) (hN:X.N=N:=by rfl) (hS:X.env.scope=esc:=by rfl) (hs:∀ x,Of iter X.env x=pure x:=by intro _;rfl):GE X (.ListComp elt [⟨target,iter,ifs,0⟩] sc pos) (qJ fr fi g ft fe):=
 PE.imp (sD S N' fr nd C hi hg ht he hc hN hS hs) t9
theorem BF{X:Cx}{κ:Nat->Bool}{N ps:List Str}{esc:Oo}(S:FnScope N ps esc){i:Nat}{x:Str}{pos pos':Pos}(N':List Str)(fr:List (Option Nat))(nd:N'.Nodup){elt target iter:Nz}{ifs:List Nz}{sc:Oo}{pos2:Pos}{fi:PIt}{g:PG'}{ft:PB}{fe:PF}(C:dW N esc sc N' fr=true)
  (hi:X.N[i]?=some x) (hx:Loc X.env.scope x) (hκ:κ i=false) (hit:GI X target iter fi) (hg:∀ s3 H3 fp,GG (κc fr) (aI X N' sc s3 H3 fp) target g) (ht:∀ s3 H3 fp,GTs (aI X N' sc s3 H3 fp) ifs ft) (he:∀ s3 H3 fp,GE (aI X N' sc s3 H3 fp) elt fe)
  (hsw:P0 (.ListComp elt [⟨target,iter,ifs,0⟩] sc pos2) (some (.Name x pos')) pos.line X.env=pure true) (hf:X.fn x=true:=by rfl)
  (hc:X.calm=true:=by rfl) (hN:X.N=N:=by rfl) (hS:X.env.scope=esc:=by rfl) (hs:∀ x,Of iter X.env x=pure x:=by intro _;rfl):GS κ X (.Assign [.Name x pos'] (.ListComp elt [⟨target,iter,ifs,0⟩] sc pos2) pos) (Al i (qJ fr fi g ft fe)):=by
 refine PS.imp (vB S N' fr nd C hi hx hit hg ht he hsw hf hc hN hS hs) ?_
 rintro D σ H ⟨env,Fr,pe,rs,q,c⟩
 exact t9 σ H _ ⟨env,Fr,_,rs,q,fun t env' v H' q1 rs1=>c.nx _ _ _ q1 rs1.put (.set hκ)⟩
abbrev PM:=T->List T->(T->T->Prop)->Prop
noncomputable def MtP(X:Cx)(id:String)(m:PM):Prop:=MtM X id (fun x xs H Q=>∃ t ts Γ k,ts.length=xs.length/\Rp X.K H ((t,some x)::(zz ts xs++Γ))/\m t ts k/\∀ t' r v H',k t' r->Rp X.K H' ((r,some v)::(t',some x)::Γ)->Q v H')
def isL:T->Bool
 | .lst _ _=>true
 | _=>false
noncomputable def yY(i:Nat)(m:PM)(fr:PFs):PF:=fun env k=>got (env[i]?) fun t0=>isL t0=true/\fr env fun ts env1=>got (env1[i]?) fun t=>m t ts fun t' r=>k r (env1.set i t')
section
variable{X:Cx}{e o:Nz}{es:List Nz}{fr:PFs}{fe:PF}{m:PM}{name:Str}{id:String}{apos cpos pos:Pos}
theorem Co{H:Hp}{Γ:Fm}{t:T}{v:V}(h:isL t=true)(rp:Rp X.K H ((t,some v)::Γ)):tyV X.K "list" v H:=by
 cases t <;> first | cases h | skip
 obtain⟨a,vs,rfl,hq,l,_⟩:=kc rp
 exact .inl ⟨rfl,vs,.inl hq⟩
theorem AA{t:T}(h:isL t=true):isAny t=false:=by cases t <;> first | rfl | cases h
theorem Hq{i:Nat}:∀ σ H Q,wE X.K (yY i m fr) σ H Q->tBM X.K "list" (fun x xs H Q=>∃ t ts Γ k,ts.length=xs.length/\Rp X.K H ((t,some x)::(zz ts xs++Γ))/\m t ts k/\∀ t' r v H',k t' r->Rp X.K H' ((r,some v)::(t',some x)::Γ)->Q v H') (EJ i) (wA X.K fr) σ H Q:=by
 rintro σ H Q ⟨env,Fr,k,rs,q,c⟩
 obtain⟨t0,e0,hl,q⟩:=aC q
 obtain⟨y,ey,rs2⟩:=rs.slot e0
 obtain⟨v,rfl⟩:=cF rs2 (AA hl)
 refine⟨v,ey,Co hl rs2.head,env,Fr,_,rs,q,fun ts env1 vs H1 q1 l rs1=>?_⟩
 obtain⟨t,et,q1⟩:=aC q1
 obtain⟨y',ey',rs3⟩:=rs1.slot et
 rw[ey]at ey'
 cases ey'
 have hi:i < env1.length:=(c_.mp et).1
 refine⟨t,ts,(env1.set i .any).zip σ++Fr,_,l,?_,q1,fun t' r w H' kt rp=>c _ _ _ _ kt ?_⟩
 ·refine rs3.head.perm (.cons _ ?_)
  exact A_ _ _ _
 have r4:Rs X.K H' (env1.set i .any) σ ((t',some v)::(r,some w)::Fr):=.of rs3.1 (rp.perm (by
  refine I_ (.swap _ _ _) ?_
  exact .cons _ h_.symm))
 have r5:=Rs.jG (i:=i) r4 (by rw[Jg];exact hi) ey
 rw[L4]at r5
 exact r5
theorem iK(i:Nat){x:Str}{xp:Pos}(slot:Slot "list" name id)(hty:typeOf (.builtin id)=pure (.type "method_descriptor"))(hm:MtP X id m)(ha:GA X (e::es) fr)(hN:X.N[i]?=some x:=by rfl)(hv:Vis X.env.scope x:=by first | exact k_ rfl | exact l_ (k_ rfl) | exact l_ (l_ rfl))(hd:(x ==("__debug__":Str))=false:=by decide)(hcd:(x ==("__classdict__":Str))=false:=by decide)
  (hbase:Uo (.Name x xp) name X.env (NS (.Name x xp) X.env)=NS (.Name x xp) X.env:=by rfl)
  (hfew:((Pt cpos (NF (e::es) X.env)).all (fun x=>!x.1) && (backToKw cpos (Vn [] X.env)).all (fun x=>x.1.isSome) && decide ((e::es).length + ([]:List T4).length + (if([]:List T4).isEmpty then 0 else 1) < 30))=true:=by rfl)
  (hline:(apos.endLine == cpos.line)=true:=by rfl) (hs:NF (e::es) X.env=(false,NS e X.env)::NF es X.env:=by rfl) (hplain:(Pt cpos (NF es X.env)).any (·.1)=false:=by rfl) :
  GE X (.Call (.Attribute (.Name x xp) name apos) (e::es) [] cpos) (yY i m fr):=PE.imp (G6 PySem.F.plainAttrs_list slot hty hm (gf hN hv hd hcd) ha hbase hfew hline hs hplain) Hq
def pf:PM
 | .lst true ts,[t],k=>ts.length < sizeLine/\k (.lst true (ts++[t])) .non
 | _,_,_=>False
theorem dD:MtP X "list.append" pf:=by
 rintro pins s σ H x xs v us Q I rx r ⟨t,ts,Γ,k,l,rp,g,c⟩
 unfold pf at g
 split at g
 ·rename_i k ts t
  obtain⟨y,rfl⟩:=zz1 l rfl
  obtain⟨a,vs,ea,ha,la,rp2⟩:=fw rp
  cases ea
  refine uh pins s σ H _ _ v us Q I rx r ⟨a,vs,y,rfl,rfl,ha,by rw[<-la];exact g.1,fun H' hp=>c _ _ _ _ g.2 (bg ?_ fun _=>.non)⟩
  refine eN (ts:=ts++[t]) (vs:=vs++[y]) ?_ (by rw[j',j',la];rfl) hp
  rw[lR la,j_]
  exact rp2
 exact NC g
end
def outs(ms:List Bool)(env:Ev):List T:=ms.zipWith (fun b t=>if b then t else .any) env
def κm(ms:List Bool)(j:Nat):Bool:=match ms[j]? with
 | some b=>b
 | none=>false
theorem iX{K:Ng}{H:Hp}{Γ:Fm}:∀ {ms:List Bool} {env:Ev} {σ:L2.St} {vs:List V},ms.length=vs.length->(∀ j,κm ms j=true->σ[j]?=(vs[j]?).map some)->Rp K H (env.zip σ++Γ)->Rp K H (zz (outs ms env) vs++Γ)
 | [],env,σ,vs,l,k,h=>h.part
 | _::_,_,_,[],l,_,_=>by cases l
 | m::ms,[],σ,v::vs,l,k,h=>h
 | m::ms,t::env,[],v::vs,l,k,h=>by
  have ih:=iX (ms:=ms) (env:=env) (σ:=[]) (vs:=vs) (by simpa using l) (fun j hj=>by
   have:=k (j + 1) hj
   simpa using this) (by simpa using h)
  cases m with
  | true=>have:=k 0 rfl;simp at this
  | false=>exact eP ih
 | m::ms,t::env,x::σ,v::vs,l,k,h=>by
  have h:Rp K H ((t,x)::(env.zip σ++Γ)):=h
  have ks:∀ j,κm ms j=true->σ[j]?=(vs[j]?).map some:=fun j hj=>by
   have:=k (j + 1) hj
   simpa using this
  cases m with
  | true=>
   have e:x=some v:=by
    have:=k 0 rfl
    simpa using this
   subst e
   have h2:Rp K H (env.zip σ++((t,some v)::Γ)):=h.perm h_.symm
   exact(iX (ms:=ms) (by simpa using l) ks h2).perm h_
  | false=>exact eP (iX (ms:=ms) (by simpa using l) ks h.tail)
theorem yE{K:Ng}{H:Hp}{Γ:Fm}{ts:List T}{vs:List V}(l:ts.length=vs.length)(n:Nat)(h:Rp K H (zz ts vs++Γ)):Rp K H ((ts++t_ n T.any).zip (vs.map some++t_ n none)++Γ):=by
 rw[MR (by rw[b_];exact l),j_]
 have:∀ n,Rp K H (zz ts vs++((t_ n T.any).zip (t_ n (none:Option V))++Γ)):=by
  intro n
  induction n with
  | zero=>exact h
  | succ n ih=>
   rw[Jz,Jz]
   exact(eP (x:=none) ih).perm h_.symm
 exact this n
theorem bT{P:Nv}{w:NA}{K:Ng}{mg:Str->Option Nf}{base:NB}{x qual:Str}{st:NZ}{f:Nh}{fd:NK}{N ps:List Str}{k:Nat}{Pr:FP}(F:Fun K x qual st f fd)(S:FnScope N ps (aj st))(ms:List Bool)(hms:ms.length=ps.length)
  (body:∀(cdv:Nf) (A:NH) (outer:List Env) (s:Ni) (H:Hp) (E:XK),Room k (A.deeper (Qq qual (aj st) s.heap.objs.size f cdv))->
   ∃ fb,GSs (κm ms) (sU CX0 P w K mg base N qual (aj st) f cdv A outer s H E).nox (bZ st) fb/\∀ ts kk,ts.length=ps.length->Pr ts kk->fb { nx:=fun env=>kk .non (outs ms env),rt:=fun t env=>kk t (outs ms env) } (ts++t_ (N.length - ps.length) .any)) :
  FnOk P w K mg base CX0 (k + 1) f fd ps (aG K ps.length Pr):=by
 refine F.ok S (fun vs H Q E ⟨ts,Fr,kk,h1,h2,_⟩=>h2) (fun cdv A outer s H vs Q E hr ⟨ts,Fr,kk,h1,h2,rp,pr,c⟩=>?_)
 obtain⟨fb,hb,q⟩:=body cdv A outer s H E hr
 refine⟨_,hb,ts++t_ (N.length - ps.length) .any,Fr,_,?_,q ts kk (by rw[h1,h2]) pr,?_⟩
 ·unfold L2.start
  rw[h2]
  refine⟨by simp[h1],yE h1 _ rp⟩
 have kv:∀ {σ'},Kept (κm ms) (L2.start N vs) σ'->∀ j,κm ms j=true->σ'[j]?=(vs[j]?).map some:=fun{σ'} kp j hj=>by
  rw[kp.2 j hj]
  unfold L2.start
  have hj2:j < vs.length:=by
   rw[h2,<-hms]
   unfold κm at hj
   split at hj
   ·rename_i b e
    exact(c_.mp e).1
   cases hj
  rw[JG (by rw[b_];exact hj2),A']
 refine⟨fun env' σ' H' q' rs' k'=>c _ _ _ _ q' ?_,fun t env' v σ' H' q' rs' k'=>c _ _ _ _ q' ?_,fun _ _ _ z=>z.elim,fun _ _ _ z=>z.elim⟩
 ·exact bg (iX (by rw[hms,h2]) (kv k') rs'.2) fun _=>.non
 exact(iX (Γ:=(t,some v)::Fr) (by rw[hms,h2]) (kv k') rs'.2).perm h_
open PySem PySem.Spec PyProof.Rows L2
section
variable{X:Cx}{pos:Pos}
theorem yT{st:NZ}{te:TE}{i:Nat}(h:PS X st (C4 te (uW i))):PS X st (fun D σ H=>te σ H fun v H'=>Gr H H'/\D.nx (σ.set i (some v)) (over H H')):=by
 intro pins s σ H D I q
 have key:=h pins s σ H { nx:=fun σ' H'=>Gr H H'/\D.nx σ' (over H H'),rt:=fun _ _=>False } I q
 refine thn key fun f s' hs=>?_
 cases f with
 | next=>
  obtain⟨σ',H',I',g,q'⟩:=hs
  exact⟨σ',over H H',lD I I' g,q'⟩
 | brk=>obtain⟨_,_,_,z⟩:=hs;exact z.elim
 | cont=>obtain⟨_,_,_,z⟩:=hs;exact z.elim
 | ret u=>obtain⟨_,_,_,_,_,z⟩:=hs;exact z.elim
theorem An{K:Ng}{f:PF}{σ:L2.St}{H:Hp}{Q:VK}(h:wE K (fQ f) σ H Q):wE K f σ H fun v H'=>Gr H H'/\Q v (over H H'):=by
 obtain⟨env,Fr,k,rs,q,c⟩:=h
 have rv:Rs K H (erL env) σ ((Fr.map fun p=>(er p.1,p.2))++[(.kp H,some .non)]):=by
  refine⟨by rw[k9];exact rs.1,?_⟩
  have:=oE rs.2
  rw[z_,kG,j_]at this
  exact this
 refine⟨erL env,_,_,rv,q,?_⟩
 rintro t env' v H' ⟨n,kt⟩ rs'
 obtain⟨g,r2⟩:=oK rs.2 (Δ:=env'.zip σ++(Fr.map fun p=>(er p.1,p.2))) (by rw[j_];exact rs'.head) n
 exact⟨g,c t env v _ kt (.of rs.1 r2)⟩
theorem m9{κ:Nat->Bool}{N ps:List Str}{esc:Oo}(S:FnScope N ps esc){i:Nat}{x:Str}{pos pos':Pos}(N':List Str)(fr:List (Option Nat))(nd:N'.Nodup){elt target iter:Nz}{ifs:List Nz}{sc:Oo}{pos2:Pos}{fi:PIt}{g:PG'}{ft:PB}{fe:PF}(C:dW N esc sc N' fr=true)
  (hi:X.N[i]?=some x) (hx:Loc X.env.scope x) (hκ:κ i=false) (hit:GI X target iter fi) (hg:∀ s3 H3 fp,GG (κc fr) (aI X N' sc s3 H3 fp) target g) (ht:∀ s3 H3 fp,GTs (aI X N' sc s3 H3 fp) ifs ft) (he:∀ s3 H3 fp,GE (aI X N' sc s3 H3 fp) elt fe)
  (hsw:P0 (.ListComp elt [⟨target,iter,ifs,0⟩] sc pos2) (some (.Name x pos')) pos.line X.env=pure true) (hf:X.fn x=true:=by rfl)
  (hc:X.calm=true:=by rfl) (hN:X.N=N:=by rfl) (hS:X.env.scope=esc:=by rfl) (hs:∀ x,Of iter X.env x=pure x:=by intro _;rfl):GS κ X (.Assign [.Name x pos'] (.ListComp elt [⟨target,iter,ifs,0⟩] sc pos2) pos) (Al i (fQ (qJ fr fi g ft fe))):=by
 refine PS.imp (yT (vB S N' fr nd C hi hx hit hg ht he hsw hf hc hN hS hs)) ?_
 rintro D σ H ⟨env,Fr,pe,rs,q,c⟩
 exact t9 σ H _ (An (Q:=fun v H'=>D.nx (σ.set i (some v)) H') ⟨env,Fr,_,rs,q,fun t env' v H' q1 rs1=>c.nx _ _ _ q1 rs1.put (.set hκ)⟩)
theorem zt:GE X (.Dict [] [] pos) (fK (.dT true [])):=PE.imp yH fun σ H Q ⟨env,Fr,k,rs,q,c⟩=>fun p hp=>c _ _ _ _ q (.of rs.1 (Ax rs.2 hp (aV hp _) ay))
end
section
variable{κ':Type}[DecidableEq κ']
theorem qY:∀ {ts:List (κ' × T)} {vs:List (κ' × V)} (q:κ') (t:T) (w:V),ts.map (·.1)=vs.map (·.1)->(e7 ts q t).map (·.1)=(putK vs q w).map (·.1):=by
 intro ts vs q t w e
 have ha:(ts.any fun kv=>decide (kv.1=q))=(vs.any fun kv=>decide (kv.1=q)):=by
  have e1:(ts.any fun kv=>decide (kv.1=q))=(ts.map (·.1)).any fun k=>decide (k=q):=by rw[MB];rfl
  have e2:(vs.any fun kv=>decide (kv.1=q))=(vs.map (·.1)).any fun k=>decide (k=q):=by rw[MB];rfl
  rw[e1,e2,e]
 unfold e7 putK
 rw[ha]
 split
 ·rw[Jj,Jj]
  have f1:((fun x:κ' × T=>x.1) ∘ fun kv=>if kv.1=q then(kv.1,t)else kv)=fun x=>x.1:=by funext kv;show(if kv.1=q then(kv.1,t)else kv).1=kv.1;split <;> rfl
  have f2:((fun x:κ' × V=>x.1) ∘ fun kv=>if kv.1=q then(kv.1,w)else kv)=fun x=>x.1:=by funext kv;show(if kv.1=q then(kv.1,w)else kv).1=kv.1;split <;> rfl
  rw[f1,f2,e]
 rw[z_,z_,e]
 rfl
theorem o7:∀ {ts:List (κ' × T)} {vs:List (κ' × V)} (q:κ') (t:T) (w:V),ts.map (·.1)=vs.map (·.1)->(vs.map (·.1)).Nodup->∃ r,((t,some w)::zz (ts.map (·.2)) (vs.map (·.2))).Perm (r++zz ((e7 ts q t).map (·.2)) ((putK vs q w).map (·.2))):=by
 intro ts vs q t w e nd
 by_cases hm:q∈vs.map (·.1)
 ·
  have ha:(vs.any fun kv=>decide (kv.1=q))=true:=by
   obtain⟨kv,h1,h2⟩:=B'.mp hm
   exact J3.mpr ⟨kv,h1,decide_eq_true h2⟩
  have hb:(ts.any fun kv=>decide (kv.1=q))=true:=by
   rw[<-e]at hm
   obtain⟨kv,h1,h2⟩:=B'.mp hm
   exact J3.mpr ⟨kv,h1,decide_eq_true h2⟩
  unfold e7 putK
  rw[if_pos ha,if_pos hb]
  clear ha hb
  induction ts generalizing vs with
  | nil=>
   have:vs=[]:=by cases vs with | nil=>rfl | cons _ _=>cases e
   subst this
   cases hm
  | cons a ts ih=>
   cases vs with
   | nil=>cases e
   | cons b vs=>
    obtain⟨k1,t1⟩:=a
    obtain⟨k2,v1⟩:=b
    rw[f_,f_,JW]at e
    have ek:k1=k2:=e.1
    subst ek
    rw[f_,D']at nd
    by_cases hk:k1=q
    ·subst hk
     have n1:∀ kv∈ts,kv.1≠k1:=fun kv hkv z=>nd.1 (by
      rw[<-e.2]
      exact B'.mpr ⟨kv,hkv,z⟩)
     have n2:∀ kv∈vs,kv.1≠k1:=fun kv hkv z=>nd.1 (B'.mpr ⟨kv,hkv,z⟩)
     have m1:ts.map (fun kv=>if kv.1=k1 then(kv.1,t)else kv)=ts:=by
      conv=>rhs;rw[<-Mg ts]
      exact JF fun kv hkv=>if_neg (n1 kv hkv)
     have m2:vs.map (fun kv=>if kv.1=k1 then(kv.1,w)else kv)=vs:=by
      conv=>rhs;rw[<-Mg vs]
      exact JF fun kv hkv=>if_neg (n2 kv hkv)
     refine⟨[(t1,some v1)],?_⟩
     simp only[f_,if_true,m1,m2]
     exact .swap _ _ _
    have hm':q∈vs.map (·.1):=by
     rcases m_.mp hm with z | z
     ·exact absurd z.symm hk
     exact z
    obtain⟨r,p⟩:=ih e.2 nd.2 hm'
    refine⟨r,?_⟩
    simp only[f_,if_neg hk]
    show MV ((t,some w)::(t1,some v1)::zz (ts.map (·.2)) (vs.map (·.2))) (r++((t1,some v1)::zz ((ts.map fun kv=>if kv.1=q then(kv.1,t)else kv).map (·.2)) ((vs.map fun kv=>if kv.1=q then(kv.1,w)else kv).map (·.2))))
    exact(Lw _ _ _).trans ((p.cons _).trans h_.symm)
 have ha:(vs.any fun kv=>decide (kv.1=q))=false:=by
  rw[JD]
  intro z
  obtain⟨kv,h1,h2⟩:=J3.mp z
  exact hm (B'.mpr ⟨kv,h1,of_decide_eq_true h2⟩)
 have hb:(ts.any fun kv=>decide (kv.1=q))=false:=by
  rw[JD]
  intro z
  obtain⟨kv,h1,h2⟩:=J3.mp z
  exact hm (by rw[<-e];exact B'.mpr ⟨kv,h1,of_decide_eq_true h2⟩)
 unfold e7 putK
 rw[ha,hb]
 refine⟨[],?_⟩
 simp only[Ji,if_false,KU]
 rw[z_,z_,lR (by rw[b_,b_];exact br e)]
 exact(JR (l₁:=[(t,some w)]))
end
noncomputable def wY:T->T->T->(T->Prop)->Prop
 | .lst true ts,.int i,v,k=>got (ixN ts.length i) fun j=>k (.lst true (ts.set j v))
 | .dK true kvs,y,v,k=>got (rh y) fun q=>kvs.length < sizeLine/\k (.dK true (e7 kvs q v))
 | .dT true kvs,.tup ks,v,k=>got (cR ks) fun q=>kvs.length < sizeLine/\k (.dT true (e7 kvs q v))
 | _,_,_,_=>False
section
variable{X:Cx}{κ:Nat->Bool}{pos:Pos}
theorem xT{P:Nv}{w:NA}{H:Hp}{h:NB}{a:Nh}{kvs:List (List Key × V)}(ok:HOk P w H h)(e:H a=some (.dT kvs)):(kvs.map (·.1)).Nodup:=by
 obtain⟨z,y,xs,r,o,es,ep,h1,h2,h3,h4,h5⟩:=ok a _ e
 have:kvs.map (·.1)=xs.map (·.1):=by
  clear h4 h5 h1 z e
  induction r with
  | nil=>rfl
  | cons q _ ih=>rw[f_,f_,ih,q.1]
 rw[this];exact h5
theorem xG{P:Nv}{w:NA}{H:Hp}{h:NB}{a:Nh}{kvs:List (Key × V)}(ok:HOk P w H h)(e:H a=some (.dK kvs)):(kvs.map (·.1)).Nodup:=by
 obtain⟨z,y,vs,r,o,es,ep,h1,h2,h3,h4,h5,h6⟩:=ok a _ e
 have:kvs.map (·.1)=vs.map (·.1):=by
  clear h6 h5 h4 h1 z e
  induction r with
  | nil=>rfl
  | cons q _ ih=>rw[f_,f_,ih,q.1]
 rw[this];exact h6
theorem zb:∀ {ts:List T} {vs:List V} {j:Nat} {t:T} {w:V},ts.length=vs.length->j < ts.length->∃ r,((t,some w)::zz ts vs).Perm (r::zz (ts.set j t) (vs.set j w))
 | [],vs,j,t,w,l,h=>by cases h
 | a::ts,[],j,t,w,l,h=>by cases l
 | a::ts,b::vs,0,t,w,l,h=>⟨(a,some b),.swap _ _ _⟩
 | a::ts,b::vs,j + 1,t,w,l,h=>by
  obtain⟨r,p⟩:=zb (ts:=ts) (vs:=vs) (j:=j) (t:=t) (w:=w) (by simpa using l) (by simpa using h)
  exact⟨r,(Lw _ _ _).trans ((p.cons _).trans (.swap _ _ _))⟩
theorem Ga{kr:Nat}(hr:Room kr X.A):sZ X (fun o i v H Q=>∃ t ti tv Γ k,Rp X.K H ((t,some o)::(ti,some i)::(tv,some v)::Γ)/\wY t ti tv k/\∀ t' H',k t'->Rp X.K H' ((t',some o)::Γ)->Q H'):=by
 rintro pins s σ H o i v ov iv u Q I ro ri rv ⟨t,ti,tv,Γ,k,rp,g,c⟩
 cases t with
 | lst own ts=>
  cases own <;> cases ti <;> first | exact NC g | skip
  rename_i j
  obtain⟨m,em,kt⟩:=aC g
  rw[aF rp.tail]at ri
  obtain⟨a,vs,ea,ha,la,rp2⟩:=fw rp
  cases ea
  have hm:m < ts.length:=by have:=(pP em).2.1;exact this
  rw[la]at em
  refine wC pins s σ H _ _ v ov iv u Q I ro ri rv ⟨a,vs,j,m,rfl,rfl,ha,em,fun H' hp=>c _ _ kt ?_⟩
  obtain⟨r,p⟩:=zb (t:=tv) (w:=v) la hm
  have rp3:Rp X.K H ((.bare,some (.ref a))::(zz ts vs++((tv,some v)::Γ))):=by
   have:Rp X.K H ((.int j,some i)::((.bare,some (.ref a))::(zz ts vs++((tv,some v)::Γ)))):=rp2.perm (by
    refine I_ (.cons _ h_) ?_
    exact .swap _ _ _)
   exact this.tail
  have rp4:Rp X.K H (r::((.bare,some (.ref a))::(zz (ts.set m tv) (vs.set m v)++Γ))):=rp3.perm (by
   refine I_ (.cons _ (h_.trans (p.append_right Γ))) ?_
   exact .swap _ _ _)
  exact eN rp4.tail (by rw[Jg,Jg,la]) hp
 | dK own kvs=>
  cases own <;> first | exact NC g | skip
  have g:got (rh ti) fun q=>kvs.length < sizeLine/\k (.dK true (e7 kvs q tv)):=by cases ti <;> exact g
  obtain⟨q,eq,hz,kt⟩:=aC g
  rw[kA eq rp.tail]at ri
  obtain⟨a,vs,ea,ha,la,rp2⟩:=qV rp
  cases ea
  cases ro
  have hl:vs.length < sizeLine:=by rw[<-br la];exact hz
  refine j6 (fO hr) I (.inl ⟨vs,q,ha,rfl,hl,rfl⟩) ri rv fun s' I'=>⟨_,I',c _ _ kt ?_⟩
  obtain⟨r,p⟩:=o7 q tv v la (xG I.hok ha)
  have rp3:Rp X.K H ((.bare,some (.ref a))::(zz (kvs.map (·.2)) (vs.map (·.2))++((tv,some v)::Γ))):=by
   have:Rp X.K H ((ti,some i)::((.bare,some (.ref a))::(zz (kvs.map (·.2)) (vs.map (·.2))++((tv,some v)::Γ)))):=rp2.perm (by
    refine I_ (.cons _ h_) ?_
    exact .swap _ _ _)
   exact this.tail
  have rp4:Rp X.K H (r++((.bare,some (.ref a))::(zz ((e7 kvs q tv).map (·.2)) ((putK vs q v).map (·.2))++Γ))):=rp3.perm (by
   refine I_ (.cons _ (h_.trans (p.append_right Γ))) ?_
   rw[j_]
   exact h_.symm)
  exact mZ rp4.part (qY q tv v la) Put.up
 | dT own kvs=>
  cases own <;> cases ti <;> first | exact NC g | skip
  rename_i ks
  obtain⟨q,eq,hz,kt⟩:=aC g
  obtain⟨b,rfl,hb⟩:=kC eq rp.tail
  obtain⟨a,vs,ea,ha,la,rp2⟩:=xV rp
  cases ea
  cases ro
  have hl:vs.length < sizeLine:=by rw[<-br la];exact hz
  refine j6 (fO hr) I (.inr ⟨vs,q,b,ha,rfl,hb,hl,rfl⟩) ri rv fun s' I'=>⟨_,I',c _ _ kt ?_⟩
  obtain⟨r,p⟩:=o7 q tv v la (xT I.hok ha)
  have rp3:Rp X.K H ((.bare,some (.ref a))::(zz (kvs.map (·.2)) (vs.map (·.2))++((tv,some v)::Γ))):=by
   have:Rp X.K H ((.tup ks,some (.ref b))::((.bare,some (.ref a))::(zz (kvs.map (·.2)) (vs.map (·.2))++((tv,some v)::Γ)))):=rp2.perm (by
    refine I_ (.cons _ h_) ?_
    exact .swap _ _ _)
   exact this.tail
  have rp4:Rp X.K H (r++((.bare,some (.ref a))::(zz ((e7 kvs q tv).map (·.2)) ((putK vs q v).map (·.2))++Γ))):=rp3.perm (by
   refine I_ (.cons _ (h_.trans (p.append_right Γ))) ?_
   rw[j_]
   exact h_.symm)
  exact xj rp4.part (qY q tv v la) Put.up
 | _=>cases ti <;> exact NC g
noncomputable def CC(i:Nat)(fi:PF):PG':=fun v env k=>got (env[i]?) fun t0=>isAny t0=false/\fi env fun ti env1=>got (env1[i]?) fun t=>wY t ti v fun t'=>k (env1.set i t')
theorem tL{kr i:Nat}{x:Str}{xp:Pos}{ix:Nz}{fi:PF}(hr:Room kr X.A)(hi:GE X ix fi)(hN:X.N[i]?=some x:=by rfl)(hv:Vis X.env.scope x:=by first | exact k_ rfl | exact l_ (k_ rfl) | exact l_ (l_ rfl))(hd:(x ==("__debug__":Str))=false:=by decide)(hcd:(x ==("__classdict__":Str))=false:=by decide)
  (ha:∀ v,Qi (.Subscript (.Name x xp) ix pos) X.env v=(do
   let ov <-PN [v] (NS (.Name x xp) X.env)
   let iv <-PN [v,ov] (NS ix X.env)
   SD pos
   PN [v,ov,iv] (TY ov iv v)
   release [v,ov,iv] []):=by intro _;rfl):GG κ X (.Subscript (.Name x xp) ix pos) (CC i fi):=by
 rintro pins s σ H v u Q I r ⟨tv,env,Fr,k,rs,q,c⟩
 obtain⟨t0,e0,na,q⟩:=aC q
 obtain⟨y,ey,rs2⟩:=rs.slot e0
 obtain⟨w,rfl⟩:=cF rs2 na
 refine yR (gf hN hv hd hcd) hi (Ga hr) ha pins s σ H v u Q I r ⟨w,ey,env,(tv,some v)::Fr,_,rs,q,fun ti env1 iv H1 q1 rs1=>?_⟩
 obtain⟨t,et,q1⟩:=aC q1
 obtain⟨y',ey',rs3⟩:=rs1.slot et
 rw[ey]at ey'
 cases ey'
 have hi':i < env1.length:=(c_.mp et).1
 refine⟨t,ti,tv,(env1.set i .any).zip σ++Fr,_,?_,q1,fun t' H' kt rp=>c _ _ _ kt ?_ .refl⟩
 ·refine rs3.head.perm (.cons _ ?_)
  refine I_ h_ (.cons _ ?_)
  exact h_
 have r4:Rs X.K H' (env1.set i .any) σ ((t',some w)::Fr):=.of rs3.1 rp
 have r5:=Rs.jG (i:=i) r4 (by rw[Jg];exact hi') ey
 rw[L4]at r5
 exact r5
end
open PySem PySem.Spec PyProof.Rows L2
class Th (α:Type) where
 v:α
def Gh(P:FP)(ts:List T)[k:Th (T->List T->Prop)]:Prop:=P ts k.v
def iC(b:Bool)[A:Th Prop][B:Th Prop]:Prop:=cnd b A.v B.v
def cj{α:Type}(o:Option α)[k:Th (α->Prop)]:Prop:=got o k.v
noncomputable def CA(fr:List (Option Nat))(its:List T)(g:PG')(ft:PB)(fe:PF)(env:Ev)[k:Th (T->Ev->Prop)]:Prop:=Cv fr its g ft fe env k.v
theorem df{α:Type}{u:α}{k:Th (α->Prop)}:cj (some u) (k:=k)=k.v u:=rfl
theorem aD{α:Type}{o:Option α}{u:α}{k:Th (α->Prop)}(e:o=some u)(h:k.v u):cj o (k:=k):=E3 e h
theorem qU{A B:Th Prop}:iC true (A:=A) (B:=B)=A.v:=propext ⟨fun h=>h.1 rfl,fun h=>CN h⟩
theorem nE{A B:Th Prop}:iC false (A:=A) (B:=B)=B.v:=propext ⟨fun h=>h.2 rfl,fun h=>D3 h⟩
theorem Bd{b:Bool}{A B:Th Prop}:iC (!b) (A:=A) (B:=B)=iC b (A:=B) (B:=A):=by cases b <;> simp only[Mr,Mi,qU,nE]
theorem mJ{b:Bool}{A B:Th Prop}(h1:b=true->A.v)(h2:b=false->B.v):iC b (A:=A) (B:=B):=⟨h1,h2⟩
theorem bj{p:Prop}{d:Decidable p}{A B:Th Prop}(h1:p->A.v)(h2:¬ p->B.v):iC (decide p) (A:=A) (B:=B):=⟨fun h=>h1 (of_decide_eq_true h),fun h=>h2 (of_decide_eq_false h)⟩
theorem oB{b:Bool}{A B:Th Prop}(e:b=true)(h:A.v):iC b (A:=A) (B:=B):=by rw[e];exact CN h
theorem Aw{b:Bool}{A B:Th Prop}(e:b=false)(h:B.v):iC b (A:=A) (B:=B):=by rw[e];exact D3 h
section
variable{f g:PF}{env:Ev}{k:T->Ev->Prop}{kb:Bool->Ev->Prop}{tc td:PB}{pe:PEn}{u v:PSt}{fs:PFs}{fa:PAs}{ks:List T->Ev->Prop}{ka:List Arg->Ev->Prop}
theorem rL:fQ f env k=f (erL env) fun t _=>bK t=true/\k t env:=rfl
theorem lZ:fQT tc env kb=tc (erL env) fun b _=>kb b env:=rfl
theorem rO{t:T}:fK t env k=k t env:=rfl
theorem Cp{i:Nat}:AQ i env k=cj (env[i]?) (k:=⟨fun t=>isAny t=false/\aX t=true/\k t env⟩):=by unfold AQ;cases env[i]? <;> rfl
theorem EB{i:Nat}:fFz i env k=cj (env[i]?) (k:=⟨fun t=>isAny t=false/\k (er t) (env.set i (er t))⟩):=by unfold fFz;cases env[i]? <;> rfl
theorem Eo{i:Nat}:fMv i env k=cj (env[i]?) (k:=⟨fun t=>isAny t=false/\k t (env.set i .any)⟩):=by unfold fMv;cases env[i]? <;> rfl
theorem gX{p:P2}:wg p f g env k=f env fun x env1=>g env1 fun y env2=>p x y fun t=>k t env2:=rfl
theorem Eb{p:T->(T->Prop)->Prop}:fUn p f env k=f env fun t env1=>p t fun u=>k u env1:=rfl
def asB(t:T)[k:Th (Bool->Prop)]:Prop:=match t with
 | .bl b=>k.v b
 | _=>False
theorem kW{b:Bool}{k:Th (Bool->Prop)}:asB (.bl b) (k:=k)=k.v b:=rfl
theorem iy:Ff f env kb=f env fun t env1=>asB t (k:=⟨fun b=>kb b env1⟩):=rfl
theorem Bl:HZ f env kb=f env fun t env1=>zH t fun b=>kb b env1:=rfl
theorem y6:CD tc td env kb=tc env fun b env1=>iC b (A:=⟨td env1 kb⟩) (B:=⟨kb false env1⟩):=rfl
theorem yW:CF tc env kb=tc env fun b env1=>kb (!b) env1:=rfl
theorem B6:Hi f g env k=f env fun t env1=>asB t (k:=⟨fun b=>iC b (A:=⟨g env1 k⟩) (B:=⟨k (.bl false) env1⟩)⟩):=rfl
theorem G1:fIf tc f g env k=tc env fun b env1=>iC b (A:=⟨f env1 k⟩) (B:=⟨g env1 k⟩):=rfl
theorem hX:G4 env ks=ks [] env:=rfl
theorem eB:De f fs env ks=f env fun t env1=>fs env1 fun ts env2=>ks (t::ts) env2:=rfl
theorem iL:GH fs env k=fs env fun ts env1=>ts.length<=sizeLine/\k (.tup ts) env1:=rfl
theorem hV:GL fs env k=fs env fun ts env1=>ts.length<=sizeLine/\k (.lst true ts) env1:=rfl
theorem mF{p:P1s}:fCl p fs env k=fs env fun ts env1=>p ts fun t=>k t env1:=rfl
theorem iO:HL env ka=ka [] env:=rfl
theorem iu:Hx f fa env ka=f env fun t env1=>fa env1 fun as env2=>ka (.val t::as) env2:=rfl
theorem BH{i:Nat}:F3 i fa env ka=cj (env[i]?) (k:=⟨fun t=>isAny t=false/\fa env fun as env2=>ka (.bor i::as) env2⟩):=by
 unfold F3
 cases env[i]? with
 | none=>exact propext ⟨fun h=>h.1,fun h=>h.elim⟩
 | some t=>rfl
theorem iI{n:Nat}{P:FP}:Ec n P fa env k=fa env fun as env1=>as.length=n/\Gh P (lend as env1).1 (k:=⟨fun t ts'=>k t (back as ts' (lend as env1).2)⟩):=rfl
theorem eO{fr:List (Option Nat)}{fi:PIt}{gt:PG'}{ft:PB}{fe:PF}:qJ fr fi gt ft fe env k=fi env fun its env1=>CA fr its gt ft fe env1 (k:=⟨k⟩):=rfl
theorem y0{i:Nat}{m:PM}:yY i m fs env k=cj (env[i]?) (k:=⟨fun t0=>isL t0=true/\fs env fun ts env1=>cj (env1[i]?) (k:=⟨fun t=>m t ts fun t' r=>k r (env1.set i t')⟩)⟩):=rfl
theorem En{fl fh:PO'}:fSl f fl fh env k=f env fun t env1=>fl env1 fun lo env2=>fh env2 fun hi env3=>slT t lo hi fun u=>k u env3:=rfl
theorem Ct{ko:Option Int->Ev->Prop}:Ho env ko=ko none env:=rfl
def asI(t:T)[k:Th (Int->Prop)]:Prop:=match t with
 | .int b=>k.v b
 | _=>False
theorem Ce{b:Int}{k:Th (Int->Prop)}:asI (.int b) (k:=k)=k.v b:=rfl
theorem BM{ko:Option Int->Ev->Prop}:Gp f env ko=f env fun t env1=>asI t (k:=⟨fun i=>ko (some i) env1⟩):=rfl
theorem zU:D7 pe env=pe.nx env:=rfl
theorem iw:Hu u v pe env=u { pe with nx:=v pe } env:=rfl
theorem zp:D6 f pe env=f env fun _ env1=>pe.nx env1:=rfl
theorem gR:HN f pe env=f env fun t env1=>pe.rt t env1:=rfl
theorem Fs:sIf tc u v pe env=tc env fun b env1=>iC b (A:=⟨u pe env1⟩) (B:=⟨v pe env1⟩):=rfl
theorem iS{i:Nat}:Al i f pe env=f env fun t env1=>pe.nx (env1.set i t):=rfl
theorem As{gt:PG'}:HX f gt pe env=f env fun t env1=>gt t env1 pe.nx:=rfl
def asP(ts:List T)(k:T->T->Prop):Prop:=match ts with
 | [t,u]=>k t u
 | _=>False
theorem Fz{t u:T}{k:T->T->Prop}:asP [t,u] k=k t u:=rfl
theorem B2{i j:Nat}:HR i j fs pe env=fs env fun ts env1=>asP ts fun t u=>pe.nx ((env1.set i t).set j u):=rfl
theorem B0{i:Nat}{p:P2}:DS i f p pe env=cj (env[i]?) (k:=⟨fun t=>isAny t=false/\aX t=true/\f env fun u env1=>p t u fun w=>pe.nx (env1.set i w)⟩):=by
 unfold DS
 cases env[i]? with
 | none=>exact propext ⟨fun h=>h.1,fun h=>h.elim⟩
 | some t=>exact propext ⟨fun⟨⟨a,b⟩,c⟩=>⟨a,b,c⟩,fun⟨a,b,c⟩=>⟨⟨a,b⟩,c⟩⟩
theorem x6:yu tc u pe env=tW tc u pe env:=rfl
theorem BC{fi:PIt}{gt:PG'}:HY fi gt u pe env=fi env fun its env1=>forL its gt u pe env1:=rfl
variable{t:T}{ke:Ev->Prop}{ts:List T}{gt:PG'}{gts:qj}
theorem ql{i:Nat}:gN i t env ke=ke (env.set i t):=rfl
theorem Bt:CY [] env ke=ke env:=propext ⟨fun h=>h.2,fun h=>⟨rfl,h⟩⟩
theorem dO:y3 gt gts (t::ts) env ke=gt t env fun env1=>gts ts env1 ke:=rfl
theorem AN{n:Nat}:gTp n gts (.tup ts) env ke=(ts.length=n/\gts ts env ke):=rfl
theorem yM{i:Nat}{fi:PF}:CC i fi t env ke=cj (env[i]?) (k:=⟨fun t0=>isAny t0=false/\fi env fun ti env1=>cj (env1[i]?) (k:=⟨fun t1=>wY t1 ti t fun t'=>ke (env1.set i t')⟩)⟩):=rfl
variable{ki:List T->Ev->Prop}
theorem AM:Ie f env ki=f env fun t env1=>cj (items t) (k:=⟨fun ts=>ki (erL ts) env1⟩):=rfl
def as1(ts:List T)(k:Int->Prop):Prop:=match ts with
 | [.int j]=>k j
 | _=>False
def as3(ts:List T)(k:Int->Int->Int->Prop):Prop:=match ts with
 | [.int i,.int j,.int m]=>k i j m
 | _=>False
theorem Dy{j:Int}{k:Int->Prop}:as1 [.int j] k=k j:=rfl
theorem FW{i j m:Int}{k:Int->Int->Int->Prop}:as3 [.int i,.int j,.int m] k=k i j m:=rfl
theorem Fb:iR1 fs env ki=fs env fun ts env1=>as1 ts fun j=>(-(2 ^ 62)<=j/\j < 2 ^ 62)/\ki (gu 0 j.toNat) env1:=rfl
theorem EV:iR3 fs env ki=fs env fun ts env1=>as3 ts fun i j m=>m=-1/\(-(2 ^ 60)<=i/\i < 2 ^ 60/\-(2 ^ 60)<=j/\j < 2 ^ 60)/\ki (dnT i (i - j).toNat) env1:=rfl
def asO(ts:List T)(k:T->Prop):Prop:=match ts with
 | [t]=>k t
 | _=>False
theorem DL{t:T}{k:T->Prop}:asO [t] k=k t:=rfl
theorem Eg:iEn fs env ki=fs env fun ts env1=>asO ts fun t=>cj (items t) (k:=⟨fun as=>ki ((o_ as.length).zipWith (fun(i:Nat) (x:T)=>T.tup [.int (i:Int),x]) (erL as)) env1⟩):=rfl
end
section
variable{k:T->Prop}{i j l:Int}{x y:Str}{ts us:List T}{o o' b c:Bool}{t:T}
theorem C5:Fe (.int i) (.int j) k=k (.int (i + j)):=rfl
theorem BR:Fe (.lst o ts) (.lst o' us) k=(ts.length + us.length<=sizeLine/\k (.lst true (ts++us))):=rfl
theorem Bj:HJ (.int i) (.int j) k=k (.int (i - j)):=rfl
theorem AU:Ha (.int i) (.int j) k=(xq i j/\k (.int (i * 2 ^ j.toNat))):=rfl
theorem BG:HK (.int i) (.int j) k=k (.int (P9 i j)):=rfl
theorem Ei:orT (.int i) (.int j) k=k (.int (OM i j)):=rfl
theorem DV:ltT (.int i) (.int j) k=k (.bl (decide (i < j))):=rfl
theorem Fu:leT (.int i) (.int j) k=k (.bl (decide (i<=j))):=rfl
theorem FL:gtT (.int i) (.int j) k=k (.bl (decide (j < i))):=rfl
theorem Ed:GB (.int i) k=k (.int (-i)):=rfl
theorem xF:eqT (.int i) (.int j) k=k (.bl (decide (i=j))):=by
 unfold eqT
 refine propext ⟨fun h=>?_,fun h=>⟨rfl,rfl,show(0:Nat) < 190 by decide,?_⟩⟩
 ·have:=h.2.2.2
  rw[dt,dt,eqD]at this
  rw[J8]at this
  exact this
 rw[dt,dt,eqD,J8];exact h
theorem DY:neT (.int i) (.int j) k=k (.bl (!decide (i=j))):=by
 unfold neT
 refine propext ⟨fun h=>?_,fun h=>⟨rfl,rfl,show(0:Nat) < 190 by decide,?_⟩⟩
 ·have:=h.2.2.2
  rw[dt,dt,eqD,J8]at this
  exact this
 rw[dt,dt,eqD,J8];exact h
def iT(ns:List Int):T:=.tup (ns.map T.int)
theorem Ay:ixT (.tup ts) (.int i) k=cj (atI ts i) (k:=⟨k⟩):=rfl
theorem hZ:ixT (.lst o ts) (.int i) k=cj (atI ts i) (k:=⟨k⟩):=rfl
theorem F9{kvs:List (List Key × T)}:ixT (.dT o kvs) (.tup ts) k=cj (cR ts) (k:=⟨fun q=>cj (jk kvs q) (k:=⟨k⟩)⟩):=rfl
theorem FG{kvs:List (List Key × T)}:inT (.tup ts) (.dT o kvs) k=cj (cR ts) (k:=⟨fun q=>k (.bl (jk kvs q).isSome)⟩):=rfl
theorem Cg:inT t (.lst o ts) k=(isD t=true/\cT ts=true/\bo (dtL ts) < 180/\k (.bl (mS t ts))):=rfl
theorem Au{u:T}:EF t u k=inT t u fun w=>asB w (k:=⟨fun b=>k (.bl (!b))⟩):=rfl
theorem A3:cR []=some []:=rfl
theorem rA:cR (.int i::ts)=(cR ts).map fun ks=>Qy i::ks:=by
 rw[cR]
 cases cR ts <;> rfl
theorem eG:cR (.non::ts)=(cR ts).map fun ks=>NL none::ks:=by
 rw[cR]
 cases cR ts <;> rfl
theorem Ih{α:Type}(a:α)(l:List α):atI (a::l) 0=some a:=kx (j:=0) rfl
theorem HM{α:Type}(a b:α)(l:List α):atI (a::b::l) 1=some b:=kx (j:=1) rfl
theorem ye:DP [.lst o ts] k=k (.int ts.length):=rfl
theorem Ai:DP [.tup ts] k=k (.int ts.length):=rfl
theorem Fo:Fw [.lst o ts] k=cj (intsOf ts) (k:=⟨fun ns=>ns≠[]/\∀ r,v9 ns r->k (.int r)⟩):=rfl
theorem Ft:E5 [.bl b] k=k (.int (if b then 1 else 0)):=rfl
theorem yV:tq [.lst o ts] k=k (.tup ts):=rfl
theorem Dl:Ew [.lst o ts] k=cj (boolsOf ts) (k:=⟨fun bs=>k (.bl (bs.all id))⟩):=rfl
theorem GP{lo hi:Option Int}:slT (.lst o ts) lo hi k=k (.lst true (mW ts lo hi)):=rfl
theorem FA{kb:Bool->Prop}:zH (.bl b) kb=kb b:=rfl
theorem Dq{kb:Bool->Prop}:zH (.int i) kb=kb (i != 0):=rfl
theorem Ep{kb:Bool->Prop}:zH (.lst o ts) kb=kb (!ts.isEmpty):=rfl
variable{km:T->T->Prop}
theorem tO:pf (.lst true ts) [t] km=(ts.length < sizeLine/\km (.lst true (ts++[t])) .non):=rfl
theorem Er{ti:T}:wY (.lst true ts) (.int i) t k=cj (ixN ts.length i) (k:=⟨fun j=>k (.lst true (ts.set j t))⟩):=rfl
theorem By{kvs:List (List Key × T)}:wY (.dT true kvs) (.tup ts) t k=cj (cR ts) (k:=⟨fun q=>kvs.length < sizeLine/\k (.dT true (e7 kvs q t))⟩):=rfl
end
theorem uv{α:Type}(g:α->T)(l:List α):bq (l.map g)=l.all fun x=>aX (g x):=by rw[lA,K5];rfl
theorem jx{α:Type}(g:α->T)(l:List α):bC (l.map g)=l.all fun x=>bK (g x):=by rw[dy,K5];rfl
theorem wK(l m:List T):bC (l++m)=(bC l && bC m):=by rw[dy,dy,dy,List.all_append]
theorem Ac{α:Type}(l:List α):(l.all fun _=>true)=true:=by induction l with | nil=>rfl | cons _ _ ih=>rw[LJ,ih];rfl
theorem dh{i:Int}:isAny (.int i)=false:=rfl
theorem xo{ts:List T}:isAny (.tup ts)=false:=rfl
theorem d9{o:Bool}{ts:List T}:isAny (.lst o ts)=false:=rfl
theorem xw{o:Bool}{kvs:List (List Key × T)}:isAny (.dT o kvs)=false:=rfl
theorem Bf{o:Bool}{ts:List T}:isL (.lst o ts)=true:=rfl
theorem dg{o:Bool}{ts:List T}:items (.lst o ts)=some ts:=rfl
theorem cv{its:List T}{g:PG'}{fb:PSt}{pe:PEn}{env:Ev}(W:Nat->Ev->Prop)(h0:W 0 env)(ht:∀ i t env,W i env->its[i]?=some t->g t env fun env2=>fb { pe with nx:=W (i + 1),ct:=W (i + 1),bk:=pe.nx } env2)(he:∀ env,W its.length env->pe.nx env):forL its g fb pe env:=⟨W,h0,ht,he⟩
theorem f9{tc:PB}{fb:PSt}{pe:PEn}{env:Ev}(W:Nat->Ev->Prop)(m:Nat)(h0:W m env)(ht:∀ m env,W m env->tc env fun b env1=>iC b (A:=⟨fb { pe with nx:=fun e=>∃ m',m' < m/\W m' e,ct:=fun e=>∃ m',m' < m/\W m' e,bk:=pe.nx } env1⟩) (B:=⟨pe.nx env1⟩)):tW tc fb pe env:=⟨W,⟨m,h0⟩,ht⟩
theorem aU{fr:List (Option Nat)}{its:List T}{g:PG'}{ft:PB}{fe:PF}{env:Ev}{k:Th (T->Ev->Prop)}(hz:its.length < sizeLine)(W:Nat->List T->Ev->Prop)(h0:W 0 [] (lend (frA fr) env).1)(ht:∀ i t acc ie,W i acc ie->its[i]?=some t->g t ie fun ie2=>ft ie2 fun b ie3=>iC b (A:=⟨fe ie3 fun u ie4=>W (i + 1) (acc++[u]) ie4⟩) (B:=⟨W (i + 1) acc ie3⟩))
  (he:∀ acc ie,W its.length acc ie->k.v (.lst true acc) (back (frA fr) ie (lend (frA fr) env).2)):CA fr its g ft fe env (k:=k):=⟨hz,W,h0,ht,he⟩
def sq(b:Bool)(ts:List T):T:=match b with
 | true=>.tup ts
 | false=>.lst false ts
abbrev pt(x y:Int):T:=.tup [.int x,.int y]
end PL
namespace ZG
open PySem
open Sem (wp)
theorem xh{prog:Nv}{w:NA}{A:NH}(hh:A.handled=none)(it d:Nh)(hne:d≠it)(o:Obj)(es:Array Ph)(ep:Nat)(hd:o.data=.dict es ep) :
  SF prog w A it [it,d] [it] es.size (fun i v=>∃ e,es[i]?=some e/\v=e.key) (fun i h=>h.IsKeyIter it d i es.size ep/\h.get? d=some o) where
 sub:=fun b hb=>by simp at hb;simp[hb]
 frame:=fun _ _ _ st hk=>⟨st.1.at fun o e=>hk it (by simp) o e,hk d (by simp) o st.2⟩
 item:=fun i s Q E hi st hQ=>by
  have hx:es[i]?=some es[i]:=gV hi
  refine Ib st.1 st.2 hd hx fun h' hit' hs'=>?_
  exact hQ _ h' s.toks ⟨_,hx,rfl⟩ ⟨hit',hs'.extBut d o hne st.2⟩ fun b o hb e=>hs'.extBut b o (fun z=>hb (by simp[z])) e
 done:=fun s Q E st hQ=>IS hh st.1 st.2 hd (JM (d_ _)) fun h' he'=>hQ h' s.toks fun b o hb e=>he' b o (fun z=>hb (by simp[z])) e
 self:=fun _ _ _ _ st hQ=>wpAny_pyIter_keyiter st.1 hQ
theorem Bz{prog:Nv}{w:NA}{d:Nh}{o:Obj}{es:Array Ph}{ep:Nat}(lo:(d == Om)=false)(hc:o.ExactDict)(hd:o.data=.dict es ep) :
  PySem.W.KdlSrc prog w "dict" d d es.size (fun i v=>∃ e,es[i]?=some e/\v=e.key) (fun h=>h.get? d=some o) where
 type:=fun _ hm=>⟨o,hm,hc.1⟩
 there:=fun _ hm=>⟨Nt hm,Nt hm⟩
 keep:=fun _ _ hm hk=>hk d (.inl rfl) o hm
 notList:=by decide
 notTuple:=by decide
 hint:=fun _ _ _ _ hm hq=>PySem.W.kdl_hint_dict ⟨o,hm,hc.1⟩ hq
 iter:=fun _ _ hh hm=>⟨_,_,(fun _ _ hq=>GF lo hm hc hd hq),xh hh _ d (r_ (Nt hm)) o es ep hd,⟨⟨_,Np _ rfl,rfl,rfl⟩,Nk _ hm⟩⟩
end ZG
namespace L2
open PySem PySem.Spec PyProof.Rows
section
variable{X:Cx}
abbrev mE(K:Ng)(H:Hp):List V->List (List Int)->Prop:=Qh fun v k=>k≠[]/\∃ b,v=.ref b/\SqT K H b (k.map V.int)
theorem my{pins:List (Nh × Obj)}{σ:St}{H:Hp}{s:Ni}(I:Inv X pins σ H s):∀ {ys:List V} {its:List Nf} {ks:List (List Int)},Vals ys its->mE X.K H ys ks->(∀ v∈its,ZS.Ci s.heap v/\∃ b,v=.ref b/\ZS.dJ s.heap v≠[]/\SqT X.K H b ((ZS.dJ s.heap v).map V.int))/\its.map (ZS.dJ s.heap)=ks
 | _,_,_,.nil,.nil=>⟨fun v hv=>(nomatch hv),rfl⟩
 | _,_,_,@Vs _ _ _ _ v _ its hv tv,@Vs _ _ _ _ k _ ks hk tk=>by
  obtain⟨hne,b,rfl,hb⟩:=hk
  cases hv
  obtain⟨j1,j2⟩:=my I tv tk
  obtain⟨its',r',⟨o,ho,hc,n,hd⟩,hz⟩:=I.tuple hb
  obtain⟨ps,e1,e2⟩:=d5 r'
  have kv:ZS.dJ s.heap (.ref b)=k:=by
   rw[ZS.qc ho hd]
   show its'.map ZS.bW=k
   rw[e1,Jj,<-e2]
   rfl
  refine⟨fun w hw=>?_,by rw[f_,kv,j2]⟩
  rcases m_.mp hw with e | e
  ·subst e
   refine⟨⟨b,o,_,n,rfl,ho,hc,hd,fun v hv=>?_,?_⟩,b,rfl,by rw[kv];exact hne,by rw[kv];exact hb⟩
   ·have hv:v∈its':=hv
    rw[e1]at hv
    obtain⟨p,_,e⟩:=B'.mp hv
    exact⟨p.1,p.2,e.symm⟩
   rw[q_,e1,b_,<-b_ (f:=(·.1)),e2]
   exact Mt.mpr hne
  exact j1 w e
theorem nD:∀ {ys:List V} {us:List Nf} {u:Nf} {b:Nh},Vals ys us->u∈us->u=.ref b->V.ref b∈ys
 | _,_,_,_,.nil,h,_=>(by cases h)
 | _,_,u,b,.cons (a:=y) r t,h,e=>by
  rcases m_.mp h with z | h
  ·subst z
   subst e
   have:y=.ref b:=RelV.inj r (show RelV (.ref b) (.ref b)from rfl)
   rw[this]
   exact p_
  exact n_ _ (nD t h e)
theorem p9:bh X (.builtin "sorted") (fun xs H Q=>∃ p ys ks,xs=[.ref p]/\SqL X.K H p ys/\mE X.K H ys ks/\∀ zs ls,mE X.K H zs ls->(∀ v∈zs,v∈ys)->ls.Perm ks->ls.Pairwise (fun x y=>ZS.ltL y x=false)->New (.lst zs) H Q):=by
 intro pins s σ H xs us Q I r h
 obtain⟨p,ys,ks,rfl,hq,hr,q⟩:=h
 obtain⟨u,rfl,ru⟩:=vals1 r
 cases ru
 obtain⟨its,rv,pl,hz⟩:=I.list hq
 have hlen:=rv.length
 obtain⟨f1,f2⟩:=my I rv hr
 refine ZS.mz (kd:=T9 true) (rk:=fun x=>ZS.rnk ZS.ltL ks (ZS.dJ s.heap x.1)) (S:=fun x=>x.1∈its) pl.isList (by lia) (fun v hv=>hv) (fun h' kp {Q} {E} hne q=>ZS.rG (h0:=s.heap) (fun v hv=>(f1 v hv).1) (fun b o e _=>kp b o e) hne q)
  (fun h' E kp=>ZS.rY (h0:=s.heap) (ks:=ks) (fun x hx=>⟨(f1 _ hx).1,by rw[<-f2];exact JK hx⟩) fun b o e _=>kp b o e) fun o a c h' op os ha kp e=>?_
 have mem:∀ v∈o,v∈its:=fun v hv=>op.mem_iff.mp hv
 have mk:∀(l:List Nf),(∀ v∈l,v∈its)->∃ zs,Vals zs l/\mE X.K H zs (l.map (ZS.dJ s.heap))/\zs.length=l.length/\∀ v∈zs,v∈ys:=by
  intro l
  induction l with
  | nil=>exact fun _=>⟨[],.nil,.nil,rfl,fun v hv=>(by cases hv)⟩
  | cons v t ih=>
   intro hl
   obtain⟨zs,k1,k2,k3,k6⟩:=ih fun v hv=>hl v (.tail _ hv)
   obtain⟨_,b,e,k4,k5⟩:=f1 v (hl v (.head _))
   refine⟨.ref b::zs,.cons e k1,.cons ⟨k4,b,rfl,k5⟩ k2,by rw[i_,i_,k3],fun w hw=>?_⟩
   rcases m_.mp hw with rfl | hw
   ·exact nD rv (hl v (.head _)) e
   exact k6 w hw
 obtain⟨zs,k1,k2,k3,k6⟩:=mk o mem
 refine⟨.ref a,_,I.laid (t':=s.toks) kp ha (show aZ X.prog X.w _ h' _ (.lst zs)from⟨by rw[k3,op.length_eq];lia,o,c,k1,e⟩),rfl,(q zs _ k2 k6 ?_ ?_).at (I.hok.fresh ha)⟩
 ·rw[<-f2]
  exact op.map _
 rw[JA]
 refine JI (fun{x y} hx hy hxy=>?_) os
 cases z:ZS.ltL (ZS.dJ s.heap y) (ZS.dJ s.heap x)
 ·rfl
 have:=ZS.kS ZS.Af (ks:=ks) (by rw[<-f2];exact JK (mem y hy)) z
 exact absurd this (LR.mpr hxy)
end
end L2
namespace ZS
open PySem PyProof.Rows
section
variable{prog:Nv}{w:NA}{A:NH}{E:Nf->Ni->Prop}{s:Ni}
theorem pZ{d:Nh}{o:Obj}{es:Array Ph}{ep:Nat}{Q:List Nf->Ni->Prop}(lo:(d == Om)=false)(ho:s.heap.get? d=some o)(hc:o.ExactDict)(hd:o.data=.dict es ep)(hh:A.handled=none)(hn:es.size<=sizeLine)
  (h:∀ h' tk acc,s.heap.objs.size<=h'.objs.size->(∀ b u,s.heap.get? b=some u->h'.get? b=some u)->Q1 (fun i v=>∃ e,es[i]?=some e/\v=e.key) acc es.size->Q acc.toList { s with heap:=h',toks:=tk }):Nl (Nq prog w) A (SH (.ref d)) Q E s:=by
 unfold SH
 refine Nd (RM (Oc RN ?_))
 rw[N2 RO _]
 show Nl _ A.in1 (Vx [] >>= fun l=>again (.builtin "list.__iadd__" ⟨[l,.ref d],[]⟩)) _ _ s
 refine Nd (NI ?_)
 refine Nj ⟨OI Qf _,Oc SS ?_⟩
 rw[N2 Qf _]
 have hS:(s.heap.push { cls:=.type "list",data:=.seq ([]:List Nf).toArray }).get? s.heap.objs.size=some { cls:=.type "list",data:=.seq ([]:List Nf).toArray }:=Np _ rfl
 have hne:s.heap.objs.size≠d:=J4 (Nt ho)
 have fin:∀(s':Ni) (h':NB) (tk:Nat) (acc:Array Nf) (c:Nat),s'={ s with heap:=h',toks:=tk }->(∀ b u,s.heap.get? b=some u->h'.get? b=some u)->h'.get? s.heap.objs.size=some { cls:=.type "list",dict:=none,data:=.seq acc c,slots:=#[] }->Q1 (fun i v=>∃ e,es[i]?=some e/\v=e.key) acc es.size->
   Nl (Nq prog w) A (load s.heap.objs.size >>= fun o=>match o.data with
    | .seq xs _=>pure xs.toList
    | _=>unsupported "internal:collect") Q E s':=fun s' h' tk acc c es' kp e it=>by
  subst es'
  refine Nd (RU e ?_)
  exact Nj (h h' tk acc (Jd (Nt e)) kp it)
 refine NN (PySem.W.kdl_extend (s:={ s with heap:=s.heap.push { cls:=.type "list",data:=.seq ([]:List Nf).toArray } }) (R:=fun r s'=>∃(h':NB) (tk:Nat) (acc:Array Nf) (c:Nat),r=.ok (.ret (.ref s.heap.objs.size))/\s'={ s with heap:=h',toks:=tk }/\(∀ b u,s.heap.get? b=some u->h'.get? b=some u)/\h'.get? s.heap.objs.size=some { cls:=.type "list",dict:=none,data:=.seq acc c,slots:=#[] }/\Q1 (fun i v=>∃ e,es[i]?=some e/\v=e.key) acc es.size)
  (ZG.Bz lo hc hd) hh (Nk _ ho) s.heap.objs.size hne hne (.ref s.heap.objs.size) 0 hS (fun h' tk acc c kp e it=>⟨h',tk,acc,c,rfl,rfl,fun b u eb=>kp b u (r_ (Nt eb)) (Nk _ eb),e,it⟩) hn) (fun fn s' hf=>?_) (fun e s' hf=>?_)
 ·cases fn with
  | done f=>
   obtain⟨h',tk,acc,c,ef,es',kp,e,it⟩:=hf
   cases ef
   exact fin s' h' tk acc c es' kp e it
  | again c'=>
   refine⟨hf.1,OR hf.2 fun r s'' hr=>?_⟩
   obtain⟨h',tk,acc,c,er,es',kp,e,it⟩:=hr
   subst er
   exact fin s'' h' tk acc c es' kp e it
 obtain⟨_,_,_,_,ef,_⟩:=hf
 cases ef
theorem sk{x:Nf}{vs:List Nf}{kd:OC}{rk:Nm->Nat}{S:Nm->Prop}{Q:Nf->Ni->Prop}(hz:vs.length<=sizeLine)(hS:∀ v∈vs,S (v,v))
  (coll:∀ {Q':List Nf->Ni->Prop} {E':Nf->Ni->Prop},(∀ h' tk,s.heap.objs.size<=h'.objs.size->(∀ b u,s.heap.get? b=some u->h'.get? b=some u)->Q' vs { s with heap:=h',toks:=tk })->Nl (Nq prog w) A.in1 (SH x) Q' E' s)
  (kind:∀ h' tk,(∀ b o,s.heap.get? b=some o->h'.get? b=some o)->∀ {Q:OC->Ni->Prop} {E:Nf->Ni->Prop},vs≠[]->Q kd { s with heap:=h',toks:=tk }->Nl (Nq prog w) A.in1.in1 (Q_ vs.toArray) Q E { s with heap:=h',toks:=tk })
  (lt:∀ h' tk E,(∀ b o,s.heap.get? b=some o->h'.get? b=some o)->bU (Nq prog w) A.in1.in1 E { s with heap:=h',toks:=tk } kd rk S)
  (h:∀(o:List Nf) a c h' tk,o.Perm vs->o.Pairwise (fun x y=>rk (x,x)<=rk (y,y))->s.heap.objs.size<=a->(∀ b u,s.heap.get? b=some u->h'.get? b=some u)->h'.get? a=some (N3 "list" o.toArray c)->Q (.ref a) { s with heap:=h',toks:=tk }) :
  Nl (Nq prog w) A (call (.builtin "sorted") [x]) Q E s:=by
 refine O3 S5 Su Sv (Sw _) ?_
 unfold Ox.«sorted»
 refine Nd (m:=TJ "sorted" 1 1 _) (Nj ?_)
 refine Nd (coll fun h0 tk le k0=>?_)
 refine Nd (PH ?_ hz)
 have hoL:(h0.push (N3 "list" vs.toArray 0)).get? h0.objs.size=some (N3 "list" vs.toArray 0):=Np _ rfl
 have keep:∀ b o,s.heap.get? b=some o->(h0.push (N3 "list" vs.toArray 0)).get? b=some o:=fun b o q=>Nk _ (k0 b o q)
 show Nl _ _ _ _ _ { s with heap:=h0.push (N3 "list" vs.toArray 0),toks:=tk }
 have ne:∀ b o,s.heap.get? b=some o->b≠h0.objs.size:=fun b o e=>r_ (Nt (k0 b o e))
 generalize h0.push (N3 "list" vs.toArray 0)=h1 at hoL keep ⊢
 refine Nd (NJ (NX RJ ⟨_,hoL,rfl⟩ Rr ?body (RK _)))
 case body=>
  refine jA (s:={ s with heap:=h1,toks:=tk }) (kd:=kd) (rk:=rk) (S:=S) hoL hz hS (fun h' k {Q} hne q=>kind h' tk (fun b o e=>k b o (ne b o e) (keep b o e)) hne q) (fun h' k=>lt h' tk _ fun b o e=>k b o (ne b o e) (keep b o e)) fun o c h' g1 g2 g3 g4=>?_
  exact⟨_,rfl,Nj ⟨_,rfl,h o _ c h' tk g1 g2 le (fun b u e=>g3 b u (ne b u e) (keep b u e)) g4⟩⟩
end
end ZS
namespace L2
open PySem PySem.Spec PyProof.Rows
section
variable{X:Cx}
abbrev uF(H:Hp):List V->List (List Int)->Prop:=Qh fun v k=>k≠[]/\∃ b,v=.ref b/\H b=some (.tup (k.map V.int))
theorem mB{α β:Type}{F:α->β->Prop}:∀ {l:List α} {m:List β},Qh F l m->∀(i:Nat) (a:α) (b:β),l[i]?=some a->m[i]?=some b->F a b
 | _,_,.nil,i,a,b,h,_=>by simp at h
 | _,_,.cons f _,0,a,b,h,g=>by
  cases h
  cases g
  exact f
 | _,_,.cons _ t,i + 1,a,b,h,g=>mB t i a b (by simpa using h) (by simpa using g)
theorem pE(hc:X.calm=true):bh X (.builtin "sorted") (fun xs H Q=>∃ d kvs ks,xs=[.ref d]/\Rd H d (.dT kvs)/\kvs.map (·.1)=ks.map kI/\(∀ k∈ks,k≠[])/\∀ zs ls,uF H zs ls->ls.Perm ks->ls.Pairwise (fun x y=>ZS.ltL y x=false)->(kvs.map (·.1)).Nodup->New (.lst zs) H Q):=by
 intro pins s σ H xs us Q I r h
 obtain⟨d,kvs,ks,rfl,hd,ek,hne,q⟩:=h
 obtain⟨u,rfl,ru⟩:=vals1 r
 cases ru
 obtain⟨z,lo,xs,kt,o,es,ep,g1,g2,g3,g4,g5⟩:=(show aZ X.prog X.w H s.heap d (.dT kvs)from hd.ok I.hok)
 have hlen:xs.length=kvs.length:=(Pz kt).symm
 have hes:es.size=xs.length:=by rw[<-f',g4,b_]
 have rel:∀(l:List Nh),Vals (l.map V.ref) (l.map NT):=fun l=>by
  induction l with
  | nil=>exact .nil
  | cons a t ih=>exact .cons rfl ih
 have rows:∀ {kvs':List (List Key × V)} {xs':List (List Key × Nh × Nf)} {ks':List (List Int)},KT H kvs' xs'->kvs'.map (·.1)=ks'.map kI->(∀ k∈ks',k≠[])->mE X.K H ((xs'.map fun x=>x.2.1).map V.ref) ks':=fun{kvs' xs' ks'} k=>by
  induction k generalizing ks' with
  | nil=>
   intro e _
   cases ks' with
   | nil=>exact .nil
   | cons a b=>simp at e
  | cons h t ih=>
   intro e hn
   cases ks' with
   | nil=>simp at e
   | cons a b=>
    rw[f_,f_,JW]at e
    refine .cons ⟨hn a p_,_,rfl,SqT.of ?_⟩ (ih e.2 fun k hk=>hn k (n_ _ hk))
    rw[h.2.1,e.1,Gj]
 have rowsH:∀ {kvs':List (List Key × V)} {xs':List (List Key × Nh × Nf)} {ks':List (List Int)},KT H kvs' xs'->kvs'.map (·.1)=ks'.map kI->Qh (fun(v:Nf) (k:List Int)=>∃ b,v=.ref b/\H b=some (.tup (k.map V.int))) ((xs'.map fun x=>x.2.1).map NT) ks':=fun{kvs' xs' ks'} k=>by
  induction k generalizing ks' with
  | nil=>
   intro e
   cases ks' with
   | nil=>exact .nil
   | cons a b=>simp at e
  | cons h t ih=>
   intro e
   cases ks' with
   | nil=>simp at e
   | cons a b=>
    rw[f_,f_,JW]at e
    refine .cons ⟨_,rfl,?_⟩ (ih e.2)
    rw[h.2.1,e.1,Gj]
 have eqk:∀ {kvs':List (List Key × V)} {xs':List (List Key × Nh × Nf)},KT H kvs' xs'->kvs'.map (·.1)=xs'.map fun x=>x.1:=fun{kvs' xs'} k=>by
  induction k with
  | nil=>rfl
  | cons h t ih=>rw[f_,f_,ih,h.1]
 obtain⟨f1,f2⟩:=my I (rel (xs.map fun x=>x.2.1)) (rows kt ek hne)
 obtain⟨its,eits⟩:∃ its,its=(xs.map fun x=>x.2.1).map NT:=⟨_,rfl⟩
 rw[<-eits]at f1 f2
 have li:its.length=xs.length:=by rw[eits,b_,b_]
 refine ZS.sk (vs:=its) (kd:=T9 true) (rk:=fun x=>ZS.rnk ZS.ltL ks (ZS.dJ s.heap x.1)) (S:=fun x=>x.1∈its) (by lia) (fun v hv=>hv)
  (fun{Q' E'} hq=>ZS.pZ lo g1 g2 g3 (I.ok.hd hc) (by lia) fun h' tk acc le kp it=>?_)
  (fun h' tk kp {Q} {E} hne q=>ZS.rG (h0:=s.heap) (fun v hv=>(f1 v hv).1) (fun b o e _=>kp b o e) hne q)
  (fun h' tk E kp=>ZS.rY (h0:=s.heap) (ks:=ks) (fun x hx=>⟨(f1 _ hx).1,by rw[<-f2];exact JK hx⟩) fun b o e _=>kp b o e) fun o a c h' tk op os ha kp e=>?_
 ·have hacc:acc.toList=its:=by
   rw[eits]
   refine MI fun j=>?_
   rw[e_,A',A']
   by_cases hj:j < es.size
   ·have hx:j < xs.length:=by lia
    have hja:j < acc.size:=by rw[it.1];exact hj
    have ha:acc[j]?=some acc[j]:=gV hja
    obtain⟨en,e1,e2⟩:=it.2 j _ ha
    rw[ha,e2,a_ hx]
    rw[<-e_,g4,A',a_ hx]at e1
    cases e1
    rfl
   rw[JM (by rw[it.1];lia),KA (by lia)]
   rfl
  rw[hacc]
  exact hq h' tk le kp
 have mem:∀ v∈o,v∈its:=fun v hv=>op.mem_iff.mp hv
 have raw:∀ v∈its,∃ b,v=.ref b/\H b=some (.tup ((ZS.dJ s.heap v).map V.int)):=fun v hv=>by
  obtain⟨i,hi,ev⟩:=Jp.mp hv
  have h1:its[i]?=some v:=by rw[a_ hi,ev]
  have h2:ks[i]?=some (ZS.dJ s.heap v):=by rw[<-f2,A',h1];rfl
  have pr:=rowsH kt ek
  rw[<-eits]at pr
  exact mB pr i _ _ h1 h2
 have mk:∀(l:List Nf),(∀ v∈l,v∈its)->∃ zs,Vals zs l/\uF H zs (l.map (ZS.dJ s.heap))/\zs.length=l.length:=by
  intro l
  induction l with
  | nil=>exact fun _=>⟨[],.nil,.nil,rfl⟩
  | cons v t ih=>
   intro hl
   obtain⟨zs,k1,k2,k3⟩:=ih fun v hv=>hl v (.tail _ hv)
   obtain⟨_,_,_,k4,_⟩:=f1 v (hl v (.head _))
   obtain⟨b,e,k5⟩:=raw v (hl v (.head _))
   exact⟨.ref b::zs,.cons e k1,.cons ⟨k4,b,rfl,k5⟩ k2,by rw[i_,i_,k3]⟩
 obtain⟨zs,k1,k2,k3⟩:=mk o mem
 refine⟨.ref a,_,I.laid (t':=tk) kp ha (show aZ X.prog X.w _ h' _ (.lst zs)from⟨by rw[k3,op.length_eq];lia,o,c,k1,e⟩),rfl,(q zs _ k2 ?_ ?_ (by rw[eqk kt];exact g5)).at (I.hok.fresh ha)⟩
 ·rw[<-f2]
  exact op.map _
 rw[JA]
 refine JI (fun{x y} hx hy hxy=>?_) os
 cases z:ZS.ltL (ZS.dJ s.heap y) (ZS.dJ s.heap x)
 ·rfl
 have:=ZS.kS ZS.Af (ks:=ks) (by rw[<-f2];exact JK (mem y hy)) z
 exact absurd this (LR.mpr hxy)
end
end L2
namespace ZS
open PySem PyProof.Rows
def ltI(a b:Int):Bool:=decide (a < b)
theorem zN:Tot ltI:=⟨fun a=>decide_eq_false (Int.lt_irrefl a),fun a b c h g=>decide_eq_true (Int.lt_trans (of_decide_eq_true h) (of_decide_eq_true g)),fun a b h g=>by
 have h:=of_decide_eq_false h
 have g:=of_decide_eq_false g
 lia⟩
section
variable{prog:Nv}{w:NA}{A:NH}{E:Nf->Ni->Prop}{s:Ni}
theorem qv{ns:List Int}{S:Nm->Prop}(hS:∀ x,S x->∃ i t,x.1=.int i t/\i∈ns):bU (Nq prog w) A E s R4 (fun x=>rnk ltI ns (bW x.1)) S:=by
 intro x y st Q sx sy kd q
 obtain⟨i,t,ex,mi⟩:=hS x sx
 obtain⟨j,u,ey,mj⟩:=hS y sy
 rw[lt'_eq]
 refine Nr (PV ?_)
 rw[kd,ex,ey,keyLt'_oneType]
 refine Nr (Q9 (OG (oneLt_int ⟨rfl,?_⟩)))
 refine Ny ?_
 dsimp only at q
 rw[vF zN (show bW x.1∈ns by rw[ex];exact mi),ex,ey]at q
 exact q
theorem rR{M:Po}{v1:Nf}{vs:List Nf}{ns:List Int}{Q:OC->Ni->Prop}(hI:IntsAre (v1::vs) ns)(q:Q R4 s):Nl M A (Q_ (v1::vs).toArray) Q E s:=by
 have e:Q_ (v1::vs).toArray=pure R4:=by
  rw[keyKind'_eq,MJ,mapM_first_ints hI]
  simp only[map_pure,pure_bind]
  rw[if_neg (by simp),if_neg (by simp),oneTypeOnly'_eq,MJ,mapM_typeOf_ints hI]
  simp only[map_pure,pure_bind]
  have hal:((Kq (fun _=>Ol "int") (v1::vs)).toArray.all fun x=>x == Ol "int")=true:=by
   simp only[List.all_toArray,K5,JB]
   exact fun _ _=>rfl
  have hz:(Kq (fun _=>Ol "int") (v1::vs)).toArray[0]?=some (Ol "int"):=by simp
  rw[hz]
  simp only[hal,if_true,pure_bind,Mx]
 rw[e]
 exact Nj q
end
end ZS
namespace L2
open PySem PySem.Spec PyProof.Rows
section
variable{X:Cx}
theorem qb:bh X (.builtin "sorted") (fun xs H Q=>∃ p ns,xs=[.ref p]/\SqL X.K H p (ns.map V.int)/\∀ ms:List Int,ms.Perm ns->ms.Pairwise (·<=·)->New (.lst (ms.map V.int)) H Q):=by
 intro pins s σ H xs us Q I r h
 obtain⟨p,ns,rfl,hq,q⟩:=h
 obtain⟨u,rfl,ru⟩:=vals1 r
 cases ru
 obtain⟨its,rv,pl,hz⟩:=I.list hq
 have hlen:=rv.length
 rw[b_]at hlen hz
 obtain⟨ps,e1,e2⟩:=d5 rv
 have hI:IntsAre its ns:=intsAre_of rv
 have each:∀ v∈its,∃ i t,v=.int i t/\i∈ns:=fun v hv=>by
  rw[e1]at hv
  obtain⟨a,ha,e⟩:=B'.mp hv
  exact⟨a.1,a.2,e.symm,by rw[<-e2];exact JK ha⟩
 have keys:its.map ZS.bW=ns:=by rw[e1,Jj,<-e2];rfl
 refine ZS.mz (kd:=R4) (rk:=fun x=>ZS.rnk ZS.ltI ns (ZS.bW x.1)) (S:=fun x=>x.1∈its) pl.isList (by lia) (fun v hv=>hv) (fun h' kp {Q} {E} hne q=>?_) (fun h' E kp=>ZS.qv fun x hx=>each _ hx) fun o a c h' op os ha kp e=>?_
 ·obtain⟨v1,vs,ev⟩:=LM hne
  rw[ev]at hI ⊢
  exact ZS.rR hI q
 have mem:∀ v∈o,v∈its:=fun v hv=>op.mem_iff.mp hv
 have mk:∀(l:List Nf),(∀ v∈l,v∈its)->Vals ((l.map ZS.bW).map V.int) l:=by
  intro l
  induction l with
  | nil=>exact fun _=>.nil
  | cons v t ih=>
   intro hl
   obtain⟨i,t',e,_⟩:=each v (hl v (.head _))
   refine .cons ?_ (ih fun v hv=>hl v (.tail _ hv))
   rw[e]
   exact⟨t',rfl⟩
 refine⟨.ref a,_,I.laid (t':=s.toks) kp ha (show aZ X.prog X.w _ h' _ (.lst ((o.map ZS.bW).map V.int))from⟨by rw[b_,b_,op.length_eq];lia,o,c,mk o mem,e⟩),rfl,(q _ ?_ ?_).at (I.hok.fresh ha)⟩
 ·rw[<-keys]
  exact op.map _
 rw[JA]
 refine JI (fun{x y} hx hy hxy=>?_) os
 by_cases z:ZS.bW x<=ZS.bW y
 ·exact z
 have:=ZS.kS ZS.zN (ks:=ns) (a:=ZS.bW y) (b:=ZS.bW x) (by rw[<-keys];exact JK (mem y hy)) (decide_eq_true (by lia))
 exact absurd this (LR.mpr hxy)
end
end L2
namespace PL
open PySem PySem.Spec PyProof.Rows L2
section
variable{κ:Type}{lt:κ->κ->Bool}
def wq(lt:κ->κ->Bool)(x:κ):List κ->List κ
 | []=>[x]
 | y::r=>if lt y x=true then y::wq lt x r else x::y::r
def tX(lt:κ->κ->Bool):List κ->List κ
 | []=>[]
 | x::r=>wq lt x (tX lt r)
theorem j7(x:κ):∀ l:List κ,(wq lt x l).Perm (x::l)
 | []=>.refl _
 | y::r=>by
  rw[wq]
  split
  ·exact((j7 x r).cons y).trans (.swap _ _ _)
  exact .refl _
theorem jm:∀ l:List κ,(tX lt l).Perm l
 | []=>.refl _
 | x::r=>(j7 x _).trans ((jm r).cons x)
theorem jN(T:ZS.Tot lt)(x:κ):∀ {l:List κ},l.Pairwise (fun a b=>lt b a=false)->(wq lt x l).Pairwise (fun a b=>lt b a=false)
 | [],_=>J2 _ _
 | y::r,h=>by
  rw[Jw]at h
  rw[wq]
  split
  ·rename_i hy
   rw[Jw]
   refine⟨fun b hb=>?_,jN T x h.2⟩
   rcases m_.mp ((j7 x r).mem_iff.mp hb)with rfl | hb
   ·cases z:lt b y
    ·rfl
    have:=T.tr _ _ _ z hy
    rw[T.irr]at this
    cases this
   exact h.1 b hb
  rename_i hy
  have hy:lt y x=false:=JD.mpr hy
  rw[Jw]
  refine⟨fun b hb=>?_,Jw.mpr h⟩
  rcases m_.mp hb with rfl | hb
  ·exact hy
  cases z:lt b x
  ·rfl
  have h1:=h.1 b hb
  cases w:lt y b
  ·have:=T.tot _ _ h1 w
   subst this
   rw[z]at hy;cases hy
  have:=T.tr _ _ _ w z
  rw[hy]at this;cases this
theorem dQ(T:ZS.Tot lt):∀ l:List κ,(tX lt l).Pairwise (fun a b=>lt b a=false)
 | []=>Lb
 | x::r=>jN T x (dQ T r)
theorem jO(T:ZS.Tot lt):∀ {l m:List κ},l.Perm m->l.Pairwise (fun a b=>lt b a=false)->m.Pairwise (fun a b=>lt b a=false)->l=m
 | [],m,p,_,_=>(List.Perm.nil_eq p)
 | a::l,[],p,_,_=>(List.Perm.eq_nil p)
 | a::l,b::m,p,h,g=>by
  rw[Jw]at h g
  have e:a=b:=by
   have ha:a∈b::m:=p.mem_iff.mp p_
   have hb:b∈a::l:=p.mem_iff.mpr p_
   rcases m_.mp ha with e | ha
   ·exact e
   rcases m_.mp hb with e | hb
   ·exact e.symm
   exact T.tot _ _ (g.1 a ha) (h.1 b hb)
  subst e
  rw[jO T (List.Perm.cons_inv p) h.2 g.2]
theorem pU(T:ZS.Tot lt){l m:List κ}(p:l.Perm m)(h:l.Pairwise (fun a b=>lt b a=false)):l=tX lt m:=
 jO T (p.trans (jm m).symm) h (dQ T m)
end
abbrev Bn(ks:List (List Int)):List (List Int):=tX ZS.ltL ks
abbrev yo(ks:List Int):List Int:=tX ZS.ltI ks
def rowOf:T->Option (List Int)
 | .tup ts=>match intsOf ts with
  | some (n::r)=>some (n::r)
  | _=>none
 | _=>none
noncomputable def rowsOf:List T->Option (List (List Int))
 | []=>some []
 | t::r=>match rowOf t,rowsOf r with
  | some k,some ks=>some (k::ks)
  | _,_=>none
theorem zZ{t:T}{k:List Int}(h:rowOf t=some k):t=iT k/\k≠[]:=by
 cases t <;> first | cases h | skip
 rename_i ts
 rw[rowOf]at h
 split at h
 ·rename_i n r e
  cases h
  exact⟨by rw[cz e];rfl,by simp⟩
 cases h
theorem nv:∀ {ts:List T} {ks:List (List Int)},rowsOf ts=some ks->ts=ks.map iT/\∀ k∈ks,k≠[]
 | [],ks,h=>by cases h;exact⟨rfl,fun k hk=>by cases hk⟩
 | t::ts,ks,h=>by
  rw[rowsOf]at h
  split at h
  ·rename_i k r e1 e2
   cases h
   obtain⟨h1,h2⟩:=zZ e1
   obtain⟨h3,h4⟩:=nv e2
   refine⟨by rw[h1,h3];rfl,fun q hq=>?_⟩
   rcases m_.mp hq with rfl | hq
   ·exact h2
   exact h4 q hq
  cases h
noncomputable def oI:P1s
 | [.lst _ ts],k=>match intsOf ts with
  | some ns=>k (.lst true ((yo ns).map T.int))
  | none=>got (rowsOf ts) fun ks=>k (.lst true ((Bn ks).map iT))
 | [.dT _ kvs],k=>∃ ks,kvs.map (·.1)=ks.map kI/\(∀ q∈ks,q≠[])/\(ks.Nodup->k (.lst true ((Bn ks).map iT)))
 | _,_=>False
section
variable{X:Cx}
theorem rF{K:Ng}{H:Hp}{Γ:Fm}:∀ {ks:List (List Int)} {vs:List V},(∀ k∈ks,k≠[])->(ks.map iT).length=vs.length->Rp K H (zz (ks.map iT) vs++Γ)->mE K H vs ks/\∀ v∈vs,∃(b:Nh) (k:List Int),v=.ref b/\H b=some (.tup (k.map V.int))
 | [],[],_,_,_=>⟨.nil,fun v hv=>by cases hv⟩
 | [],_::_,_,l,_=>by cases l
 | _::_,[],_,l,_=>by cases l
 | k::ks,v::vs,n,l,h=>by
  have h:Rp K H ((iT k,some v)::(zz (ks.map iT) vs++Γ)):=h
  obtain⟨a,us,rfl,ha,la,h2⟩:=oR h
  have eu:=cL la h2
  subst eu
  obtain⟨r1,r2⟩:=rF (fun q hq=>n q (n_ _ hq)) (by simpa using l) h.tail
  refine⟨.cons ⟨n k p_,a,rfl,SqT.of ha⟩ r1,fun w hw=>?_⟩
  rcases m_.mp hw with rfl | hw
  ·exact⟨a,k,rfl,ha⟩
  exact r2 w hw
theorem mD{K:Ng}{H:Hp}{Γ:Fm}:∀ {ks:List (List Int)} {vs:List V},uF H vs ks->Rp K H Γ->Rp K H (zz (ks.map iT) vs++Γ)/\(ks.map iT).length=vs.length
 | [],_,r,h=>by cases r;exact⟨h,rfl⟩
 | k::ks,_,r,h=>by
  rcases r with _ | ⟨hd,t⟩
  rename_i v vs
  obtain⟨_,b,e,hb⟩:=hd
  obtain⟨h1,l1⟩:=mD t h
  subst e
  refine⟨?_,by simp at l1 ⊢;exact l1⟩
  show Rp K H ((iT k,some (.ref b))::(zz (ks.map iT) vs++Γ))
  exact dB (ts:=k.map T.int) (vs:=k.map V.int) (rp_intsP k h1) (by rw[b_,b_]) .bz hb
where
 rp_intsP {Γ:Fm}:∀(ns:List Int),Rp K H Γ->Rp K H (zz (ns.map T.int) (ns.map V.int)++Γ)
 | [],h=>h
 | _::r,h=>bg (rp_intsP r h) fun _=>.int
theorem kL{K:Ng}{H:Hp}{Γ:Fm}:∀(ns:List Int),Rp K H Γ->Rp K H (zz (ns.map T.int) (ns.map V.int)++Γ)
 | [],h=>h
 | _::r,h=>bg (kL r h) fun _=>.int
theorem vc{K:Ng}{H:Hp}:∀ {zs:List V} {ls:List (List Int)},(∀ v∈zs,∀ b,v=.ref b->∀ xs,SqT K H b xs->H b=some (.tup xs))->mE K H zs ls->uF H zs ls
 | _,_,_,.nil=>.nil
 | _,_,h,.cons ⟨n,b,e,hb⟩ t=>.cons ⟨n,b,e,h _ p_ b e _ hb⟩ (vc (fun v hv=>h v (n_ _ hv)) t)
theorem EG{ms:List Int}(h:ms.Pairwise (·<=·)):ms.Pairwise (fun a b=>ZS.ltI b a=false):=h.imp fun{a b} hab=>by
 unfold ZS.ltI
 exact decide_eq_false (by omega)
theorem gE(hc:X.calm=true):gP X (.builtin "sorted") oI:=by
 rintro pins s σ H xs us Q I r ⟨ts,Γ,k,l,rp,g,c⟩
 unfold oI at g
 split at g
 ·rename_i k o ts
  obtain⟨x,rfl⟩:=zz1 l rfl
  have rp:Rp X.K H ((.lst o ts,some x)::Γ):=rp
  obtain⟨a,vs,rfl,hq,l2,rp2⟩:=kc rp
  cases e:intsOf ts with
  | some ns=>
   rw[e]at g
   have et:=cz e
   subst et
   have ev:=cL l2 rp2
   subst ev
   refine qb pins s σ H _ us Q I r ⟨a,ns,rfl,.inl hq,fun ms pm sm p H' hp g' e'=>c _ _ _ g ?_⟩
   have es:ms=yo ns:=pU ZS.zN pm (EG sm)
   rw[<-es]
   exact cI (kL ms rp.tail) (by rw[b_,b_]) hp g' e'
  | none=>
   rw[e]at g
   obtain⟨ks,ek,kt⟩:=aC g
   obtain⟨et,ne⟩:=nv ek
   subst et
   obtain⟨rv,ex⟩:=rF ne l2 rp2
   refine p9 pins s σ H _ us Q I r ⟨a,vs,ks,rfl,.inl hq,rv,fun zs ls rz mem pm sm p H' hp g' e'=>c _ _ _ kt ?_⟩
   have es:ls=Bn ks:=pU ZS.Af pm sm
   rw[<-es]
   have rH:=vc (fun v hv b eb xs hs=>by
    obtain⟨b',k',e1,e2⟩:=ex v (mem v hv)
    rw[eb]at e1
    cases e1
    rw[e2,I.ff hs (SqT.of e2)]) rz
   obtain⟨rp3,l3⟩:=mD rH rp.tail
   exact cI rp3 l3 hp g' e'
 ·rename_i k o kvs
  obtain⟨x,rfl⟩:=zz1 l rfl
  have rp:Rp X.K H ((.dT o kvs,some x)::Γ):=rp
  obtain⟨a,vs,rfl,hq,ek,rp2⟩:=lj rp
  obtain⟨ks,e1,e2,kt⟩:=g
  refine pE hc pins s σ H _ us Q I r ⟨a,vs,ks,rfl,hq,by rw[<-ek];exact e1,e2,fun zs ls rz pm sm nd p H' hp g' e'=>?_⟩
  have nd':ks.Nodup:=by
   rw[<-ek,e1]at nd
   exact(JA.mp nd).imp fun{a b} h z=>h (by rw[z])
  refine c _ _ _ (kt nd') ?_
  have es:ls=Bn ks:=pU ZS.Af pm sm
  rw[<-es]
  obtain⟨rp3,l3⟩:=mD rz rp.tail
  exact cI rp3 l3 hp g' e'
 exact NC g
end
section
variable{X:Cx}
theorem mX{acc:Array Nf}{lo:Int}{n:Nat}(h:Q1 (fun(i:Nat) (v:Nf)=>∃ t:Tok,v=Pf (lo + i * 1) t) acc n):Vals (((o_ n).map fun(i:Nat)=>lo + (i:Int)).map V.int) acc.toList:=by
 have gen:∀(m:Nat) (l:List Nf),l.length=m->(∀(j:Nat) (v:Nf),l[j]?=some v->∃ t:Tok,v=Pf (lo + (j:Int)) t)->Vals (((o_ m).map fun(i:Nat)=>lo + (i:Int)).map V.int) l:=by
  intro m
  induction m with
  | zero=>intro l hl _;have:l=[]:=List.length_eq_zero_iff.mp hl;subst this;exact .nil
  | succ m ih=>
   intro l hl hv
   have hne:l≠[]:=by intro z;subst z;simp at hl
   obtain⟨l',v,rfl⟩:∃ l' v,l=l'++[v]:=⟨l.dropLast,l.getLast hne,(List.dropLast_concat_getLast hne).symm⟩
   have hl':l'.length=m:=by simpa using hl
   rw[Kh,z_,z_]
   refine Vals.append (ih l' hl' fun j w e=>hv j w ?_) ?_
   ·rw[JG (c_.mp e).1];exact e
   obtain⟨t,e⟩:=hv m v (by rw[Ju (by lia),hl',K6];rfl)
   exact .cons ⟨t,e⟩ .nil
 refine gen n _ (by rw[f'];exact h.1) fun j v e=>?_
 rw[e_]at e
 obtain⟨t,q⟩:=h.2 j v e
 exact⟨t,by rw[q,M9]⟩
theorem k8{pins:List (Nh × Obj)}{σ:L2.St}{H:Hp}{s:Ni}{lo hi:Int}{t u v:Tok}{tk:Nat}{Q:VK}(I:Inv X pins σ H s)(hc:X.calm=true)(h1:-(2 ^ 62)<=lo)(h2:lo < 2 ^ 62)(h3:-(2 ^ 62)<=hi)(h4:hi < 2 ^ 62)(hz:(hi - lo).toNat<=2 ^ 24)
  (q:New (.lst (((o_ (hi - lo).toNat).map fun(i:Nat)=>lo + (i:Int)).map V.int)) H Q):Nl (Nq X.prog X.w) X.A (call (.type "list") [.ref s.heap.objs.size]) (EP X pins σ Q) X.xe { s with heap:=s.heap.push { cls:=.type "range",data:=.fields #[.int lo t,.int hi u,.int 1 v] },toks:=tk }:=by
 refine call_list_range (n:=(hi - lo).toNat) (I.ok.hd hc) (SX ..) (small_one h1 h2 h3 h4) (rangeSize_nat _ _) hz fun h' tk' acc c hk e it=>?_
 have esz:(s.heap.push { cls:=.type "range",data:=.fields #[.int lo t,.int hi u,.int 1 v] }).objs.size=s.heap.objs.size + 1:=by simp[Ss]
 dsimp only at hk e ⊢
 rw[esz]at e ⊢
 have hfr:H (s.heap.objs.size + 1)=none:=I.hok.fresh (Km _)
 have rv:=mX it
 refine⟨.ref (s.heap.objs.size + 1),_,I.laid (t':=tk') (h':=h') (fun b o z=>hk b o (Nk _ z)) (Km _) (show aZ X.prog X.w _ h' _ (.lst _)from⟨?_,acc.toList,c,rv,by simpa using e⟩),rfl,q _ _ hfr (aV hfr _) ay⟩
 rw[b_,b_,u_,NQ]
 exact hz
variable{e a b:Nz}{fr:PFs}{p1 p2 pos1 pos2:Pos}
def lr1:P1s
 | [.int j],k=>(-(2 ^ 62)<=j/\j<=2 ^ 24)/\k (.lst true (gu 0 j.toNat))
 | _,_=>False
theorem lT{j:Int}{k:T->Prop}:lr1 [.int j] k=((-(2 ^ 62)<=j/\j<=2 ^ 24)/\k (.lst true (gu 0 j.toNat))):=rfl
def HQ(fr:PFs):PF:=fCl lr1 fr
theorem h8{env:Ev}{k:T->Ev->Prop}:HQ fr env k=fr env fun ts env1=>lr1 ts fun t=>k t env1:=rfl
theorem fM(hc:X.calm=true)(hg1:Gl X "list")(hm1:X.mg "list"=none)(hg2:Gl X "range")(hm2:X.mg "range"=none)(ha:GA X [a] fr)
  (hs1:NF [a] X.env=[(false,NS a X.env)]:=by rfl) (hs2:NF [.Call (.Name "range" p2) [a] [] pos2] X.env=[(false,NS (.Call (.Name "range" p2) [a] [] pos2) X.env)]:=by rfl) :
  GE X (.Call (.Name "list" p1) [.Call (.Name "range" p2) [a] [] pos2] [] pos1) (HQ fr):=by
 rintro pins s σ H Q I ⟨env,Fr,k,rs,q,c⟩
 refine Ou (cp I hg1 hm1 boot_list (callWith_type1 ?_ (by rw[hs2];rfl) rfl))
 rw[hs2]
 refine Pg ?_
 refine Ou (cp I hg2 hm2 Tp (callWith_type1 ?_ (by rw[hs1];rfl) rfl))
 refine thn (ha pos2 pins s σ H (fun vs H1=>∃ ts env1,(lr1 ts fun t=>k t env1)/\ts.length=vs.length/\Rs X.K H1 env1 σ (zz ts vs++Fr)) I ⟨env,Fr,_,rs,q,fun ts env1 vs H1 q1 l rs1=>⟨ts,env1,q1,l,rs1⟩⟩) fun us s1 ⟨vs,H1,I1,r1,ts,env1,q1,l,rs1⟩=>?_
 match ts,vs,l,q1 with
 | [.int j],[v],l,q1=>
  have rs1:Rs X.K H1 env1 σ ((.int j,some v)::Fr):=rs1
  have ev:=aF rs1.head
  subst ev
  cases r1 with
  | cons r rr=>
   cases rr
   obtain⟨t,rfl⟩:=r
   refine US ?_
   refine SM ?_
   refine k8 I1 hc (by lia) (by lia) q1.1.1 (Int.lt_of_le_of_lt q1.1.2 (by decide)) (by rw[M5];exact Int.toNat_le.mpr q1.1.2) fun p H' hp g e=>c _ _ _ _ q1.2 (.of rs1.1 ?_)
   have rp2:=kL ((o_ (j - 0).toNat).map fun(i:Nat)=>(0:Int) + (i:Int)) rs1.drop.2
   have er:gu 0 j.toNat=((o_ (j - 0).toNat).map fun(i:Nat)=>(0:Int) + (i:Int)).map T.int:=by rw[Jj,M5];rfl
   rw[er]
   exact cI rp2 (by simp only[b_]) hp g e
end
section
variable{b:Bool}{ts us:List T}{k:T->Prop}{i:Int}{t u:T}{env:Ev}{ke:T->Ev->Prop}
theorem xn(ts:List T)(n:Nat):mW ts none (some (n:Int))=ts.take n:=by
 unfold mW
 rw[HT.BI,HT.xB,Kz,M4]
 by_cases h:n<=ts.length
 ·rw[Ma h]
 rw[LX (by lia),Jx (by lia),Jx (by lia)]
theorem eU(lo:Int)(n:Nat):(gu lo n).length=n:=by rw[gu,b_,u_]
theorem oY{lo:Int}{n i:Nat}{t:T}(h:(gu lo n)[i]?=some t):i < n:=by
 have:=(c_.mp h).1
 rwa[eU]at this
theorem FJ{lo:Int}{n i:Nat}{t:T}(h:(gu lo n)[i]?=some t):t=.int (lo + (i:Int)):=by
 have hi:=oY h
 rw[gu,A',Ke hi]at h
 cases h
 rfl
theorem bO{α:Type}{g:α->T}{l:List α}{i:Nat}{t:T}(h:(l.map g)[i]?=some t):∃ x,l[i]?=some x/\t=g x:=by
 rw[A']at h
 cases e:l[i]? with
 | none=>rw[e]at h;cases h
 | some x=>rw[e]at h;cases h;exact⟨x,rfl,rfl⟩
end
def GN(f g:PSt):PSt:=fun pe env=>∃ W:Ev->Prop,f { pe with nx:=W } env/\∀ e,W e->g pe e
theorem fu{X:Cx}{κ:Nat->Bool}{st:NZ}{rest:List NZ}{f g:PSt}(h1:GS κ X st f)(h2:GSs κ X rest g):GSs κ X (st::rest) (GN f g):=by
 refine PSs.imp (aM h1 h2) ?_
 rintro D σ H ⟨env,Fr,pe,rs,⟨W,q,w⟩,c⟩
 refine⟨env,Fr,_,rs,q,⟨fun env' σ' H' q1 rs1 k1=>⟨env',Fr,pe,rs1,w _ q1,c.later k1⟩,c.rt,c.bk,c.ct⟩⟩
theorem jc{f g:PSt}{pe:PEn}{env:Ev}(W:Ev->Prop)(h1:f { pe with nx:=W } env)(h2:∀ e,W e->g pe e):GN f g pe env:=⟨W,h1,h2⟩
end PL
namespace ZT
open PySem
abbrev Up(l:List Nat):Prop:=l.Pairwise (· < ·)
theorem vq{l:List Nat}(h:Up l){i j:Nat}{x y:Nat}(hi:l[i]?=some x)(hj:l[j]?=some y)(hij:i < j):x < y:=by
 obtain⟨a,rfl⟩:=c_.mp hi
 obtain⟨b,rfl⟩:=c_.mp hj
 exact K0.mp h i j a b hij
theorem qd{xs:Array Nat}{j:Nat}(hu:Up xs.toList):∀(f lo hi:Nat),lo<=hi->hi<=xs.size->hi - lo<=f->(∀ k x,k < lo->xs[k]?=some x->x < j)->(∀ k x,hi<=k->xs[k]?=some x->j<=x)->
  Qg xs j f lo hi<=xs.size/\(∀ k x,k < Qg xs j f lo hi->xs[k]?=some x->x < j)/\∀ k x,Qg xs j f lo hi<=k->xs[k]?=some x->j<=x
 | 0,lo,hi,h1,h2,h3,a,b=>by
  have e:lo=hi:=by omega
  subst e
  exact⟨h2,a,b⟩
 | f + 1,lo,hi,h1,h2,h3,a,b=>by
  unfold Qg
  by_cases hl:lo < hi
  ·rw[if_pos hl]
   have hm:(lo + hi) / 2 < xs.size:=by omega
   have e:xs.getD ((lo + hi) / 2) j=xs[(lo + hi) / 2]:=by rw[J7,gV hm];rfl
   have em:xs.toList[(lo + hi) / 2]?=some xs[(lo + hi) / 2]:=by rw[e_];exact gV hm
   dsimp only
   rw[e]
   by_cases hx:xs[(lo + hi) / 2] < j
   ·rw[if_pos hx]
    refine qd hu f _ _ (by omega) h2 (by omega) (fun k x hk ek=>?_) b
    by_cases hk2:k=(lo + hi) / 2
    ·subst hk2
     rw[gV hm]at ek
     cases ek
     exact hx
    exact Ll (vq hu (by rw[e_];exact ek) em (by omega)) hx
   rw[if_neg hx]
   refine qd hu f _ _ (by omega) (by omega) (by omega) a fun k x hk ek=>?_
   by_cases hk2:k=(lo + hi) / 2
   ·subst hk2
    rw[gV hm]at ek
    cases ek
    exact Jo hx
   have:=vq hu em (by rw[e_];exact ek) (by omega)
   omega
  rw[if_neg hl]
  have e:lo=hi:=by omega
  subst e
  exact⟨h2,a,b⟩
theorem gc{xs:Array Nat}(j:Nat)(hu:Up xs.toList):NP xs j<=xs.size/\(∀ k x,k < NP xs j->xs[k]?=some x->x < j)/\∀ k x,NP xs j<=k->xs[k]?=some x->j<=x:=
 qd hu _ _ _ (G_ _) (d_ _) (by omega) (fun k x hk=>by omega) fun k x hk ek=>by rw[JM hk]at ek;cases ek
theorem below_at{xs:Array Nat}(hu:Up xs.toList){i:Nat}{x:Nat}(hi:xs[i]?=some x):NP xs (x + 1)=i + 1:=by
 obtain⟨h1,h2,h3⟩:=gc (x + 1) hu
 have hlt:i < xs.size:=(KO.mp hi).1
 have a:i < NP xs (x + 1):=LY fun z=>by have:=h3 i x z hi;omega
 by_cases c:i + 1 < NP xs (x + 1)
 ·have hn:i + 1 < xs.size:=by omega
  have:=h2 (i + 1) _ c (gV hn)
  have g:=vq hu (by rw[e_];exact hi) (by rw[e_];exact gV hn) (KJ i)
  omega
 omega
theorem AI{xs:Array Nat}(hu:Up xs.toList):NP xs 0=0:=by
 obtain⟨h1,h2,h3⟩:=gc 0 hu
 refine Nat.eq_zero_of_not_pos fun z=>?_
 have hn:0 < xs.size:=by omega
 have:=h2 0 _ z (gV hn)
 omega
theorem vY{xs:Array Nat}{j:Nat}(hu:Up xs.toList)(hj:xs[NP xs j]?≠some j):Up (VX xs (NP xs j) j).toList:=by
 obtain⟨h1,h2,h3⟩:=gc j hu
 rw[Va]
 have sp:xs.toList=xs.toList.take (NP xs j)++xs.toList.drop (NP xs j):=(Ja _ _).symm
 have hu':=hu
 rw[sp]at hu'
 obtain⟨p,q,r⟩:=F_.mp hu'
 have lt:∀ x∈xs.toList.take (NP xs j),x < j:=fun x hx=>by
  obtain⟨k,hk,e⟩:=Jp.mp hx
  rw[Jc]at hk
  rw[List.getElem_take]at e
  exact h2 k x (by omega) (by rw[<-e_,c_];exact⟨by omega,e⟩)
 have gt:∀ x∈xs.toList.drop (NP xs j),j < x:=fun x hx=>by
  obtain⟨k,hk,e⟩:=Jp.mp hx
  rw[Jl]at hk
  rw[List.getElem_drop]at e
  have e2:xs[NP xs j + k]?=some x:=by rw[<-e_,c_];exact⟨by omega,e⟩
  refine JS (h3 _ x (by omega) e2) fun z=>?_
  subst z
  by_cases k0:k=0
  ·subst k0
   exact hj e2
  have hb:NP xs j < xs.size:=by rw[f']at hk;omega
  have g:=vq hu (i:=NP xs j) (j:=NP xs j + k) (by rw[e_];exact gV hb) (by rw[e_];exact e2) (by omega)
  have:=h3 _ _ (d_ _) (gV hb)
  omega
 exact F_.mpr ⟨p,Jw.mpr ⟨gt,q⟩,fun a ha b hb=>by
  rcases m_.mp hb with e | hb
  ·rw[e]
   exact lt a ha
  exact r a ha b hb⟩
structure Gd (bt:Bool) (t:N_):Prop where
 up:Up t.place.toList
 no:t.dummies=#[]
 led:bt=false->t.led=true
theorem yB(bt:Bool)(f m:Nat):Gd bt (.fresh f m (!bt)):=⟨.nil,rfl,fun e=>by rw[e];rfl⟩
theorem iW{bt:Bool}{t:N_}(h:Gd bt t)(n:Nat):Gd bt (t.standIn n):=⟨by
 show Up (Array.range n).toList
 rw[Array.toList_range]
 exact Kr,rfl,h.led⟩
theorem Gg{bt:Bool}{t:N_}(h:Gd bt t)(n:Nat):Gd bt (t.orStandIn n):=by
 unfold VS
 split
 ·exact h
 exact iW h n
theorem BA(j:Nat):Vb #[] j=false:=rfl
theorem um{bt:Bool}{t:N_}(h:Gd bt t){j:Nat}(e:t.slot j=.empty):t.place[NP t.place j]?≠some j:=fun z=>by
 unfold Uv at e
 dsimp only at e
 rw[z,if_pos (beq_self_eq_true _)]at e
 cases e
theorem jU{t:N_}(hd:t.dummies=#[]){H:Nat->Int}{h:Int}:∀(f:Nat) (p:Wb) (j:Nat) (d:Option Nat),p.dummy=none->SU t H h f p=some (.empty j d)->t.slot j=.empty/\d=none
 | 0,p,j,d,_,e=>by cases e
 | f + 1,p,j,d,hp,e=>by
  unfold SU at e
  split at e
  ·rename_i z
   cases e
   exact⟨z,hp⟩
  ·rename_i z
   unfold Uv at z
   dsimp only at z
   rw[hd,BA]at z
   split at z <;> first | cases z | (rename_i q;split at z <;> cases z)
  have ad:(t.advance p).dummy=none:=by unfold V5;split <;> exact hp
  split at e
  ·cases e
  exact jU hd f _ j d ad e
theorem Dj{bt:Bool}{t:N_}(h:Gd bt t){j:Nat}(e:t.slot j=.empty):Gd bt (t.put j).1:=by
 refine⟨vY h.up (um h e),?_,h.led⟩
 show(if Vb t.dummies j then _ else t.dummies)=#[]
 rw[h.no]
 rfl
theorem Ey{bt:Bool}{t:N_}(h:Gd bt t)(es:Array (Int × Nf))(k:Int)(x:Nf):Gd bt (layNew t es k x).2.1:=by
 unfold layNew
 split
 ·rename_i slot wd e
  have hs:t.slot slot=.empty:=by
   unfold VY at e
   split at e
   ·rename_i j d q
    cases e
    obtain⟨a,b⟩:=jU h.no _ _ _ _ rfl q
    rw[b]
    exact a
   cases e
  exact Gg (Dj h hs) _
 exact iW h _
theorem yr{bt:Bool}{t:N_}(h:Gd bt t)(es:Array (Int × Nf))(n:Nat):Gd bt (Ra t es n).2.1:=by
 unfold Ra
 split
 ·rename_i t' order e
  dsimp only
  split
  ·unfold V_ Wd at e
   cases q:VZ (Sx n - 1) (es.map fun x=>x.1)with
   | none=>rw[q]at e;cases e
   | some ow=>
    rw[q]at e
    cases e
    refine⟨?_,rfl,h.led⟩
    show List.Pairwise (fun x y=>x < y) (Kq (fun x=>x.1) (List.filterMap (fun j=>(ow.getD j none).map fun y=>(j,y)) (o_ (Sx n - 1 + 1))))
    rw[JA,List.pairwise_filterMap]
    refine List.Pairwise.imp (fun{a b} hab c hc d hd=>?_) Kr
    obtain⟨_,_,ec⟩:=Ld.mp hc
    obtain⟨_,_,ed⟩:=Ld.mp hd
    rw[<-ec,<-ed]
    exact hab
  exact iW h _
 exact iW h _
open PySem PyProof.Rows
section
variable{prog:Nv}{w:NA}{A:NH}{E:Nf->Ni->Prop}{s:Ni}
abbrev bt(w:NA):Bool:=w.params.followText "set-order"
structure SI (prog:Nv) (w:NA) (o:Obj) (ks:List Int) (es:Array (Int × Nf)) (ep:Nat) (t:N_):Prop where
 ex:o.ExactSet
 dat:o.data=.set es ep t
 el:ElemsOf (Pe prog w) es.toList
 rd:IntsAre (es.toList.map (·.2)) ks
 nd:ks.Nodup
 sm:es.size < scanBound
 ft:t.fits es.size=true
 gd:Gd (bt w) t
noncomputable def SG(prog:Nv)(w:NA)(h:NB)(a:Nh)(S:Int->Prop)(n:Nat):Prop:=∃ o ks es ep t,h.get? a=some o/\SI prog w o ks es ep t/\(∀ z,z∈ks↔S z)/\ks.length<=n
theorem ik:∀ {vs:List Nf} {ns:List Int},IntsAre vs ns->vs.length=ns.length
 | _,_,.nil=>rfl
 | _,_,.cons n t h=>by rw[i_,i_,ik h]
theorem Ez{k i:Int}{t:Tok}:(Pe prog w).is k (.int i t)=decide (k=i):=KeyKind.is_eq_decide (R5 prog w i t) k
theorem l8:∀ {es:List (Int × Nf)} {ks:List Int},IntsAre (es.map (·.2)) ks->∀ k,k∈ks↔∃ e∈es,(Pe prog w).is k e.2=true
 | [],_,.nil,k=>⟨fun h=>(nomatch h),fun⟨e,h,_⟩=>(nomatch h)⟩
 | (h0,_)::es,_,.cons n t h,k=>by
  rw[m_,l8 h k]
  constructor
  ·rintro(rfl | ⟨e,m,q⟩)
   ·exact⟨_,.head _,R5 _ _ _ _⟩
   exact⟨e,.tail _ m,q⟩
  rintro⟨e,m,q⟩
  rcases m_.mp m with rfl | m
  ·exact .inl (of_decide_eq_true (by rw[<-Ez (prog:=prog) (w:=w) (t:=t)];exact q))
  exact .inr ⟨e,m,q⟩
theorem fE:∀ {us vs:List Nf},us.Perm vs->∀ {ns:List Int},IntsAre us ns->∃ ms,IntsAre vs ms/\ns.Perm ms:=by
 intro us vs p
 induction p with
 | nil=>exact fun h=>⟨_,h,.refl _⟩
 | cons x p ih=>
  intro ns h
  cases h with
  | cons n t h=>
   obtain⟨ms,a,b⟩:=ih h
   exact⟨n::ms,.cons n t a,.cons n b⟩
 | swap x y l=>
  intro ns h
  cases h with
  | cons n t h=>
   cases h with
   | cons m u h=>exact⟨_,.cons m u (.cons n t h),.swap _ _ _⟩
 | trans p q ih jh=>
  intro ns h
  obtain⟨ms,a,b⟩:=ih h
  obtain⟨ls,c,d⟩:=jh a
  exact⟨ls,c,b.trans d⟩
theorem xg{vs:List Nf}{ns:List Int}{n:Int}{t:Tok}(h:IntsAre vs ns):IntsAre (vs++[.int n t]) (ns++[n]):=by
 induction h with
 | nil=>exact .cons n t .nil
 | cons m u h ih=>exact .cons m u ih
theorem stored{h:NB}{a:Nh}{o:Obj}{es:Array (Int × Nf)}{ep:Nat}{t:N_}{es':Array (Int × Nf)}{t':N_}(ho:h.get? a=some o)(hd:o.data=.set es ep t) :
  (h.update a (TL es' t')).get? a=some { o with data:=.set es' (ep + 1) t' }:=by
 have e:=NU (TL es' t') ho (by rw[putSet_of es' t' hd];rfl)
 rw[putSet_of es' t' hd]at e
 exact e
theorem qm{g:Bool->Sem Unit}(hg:∀(b:Bool) (s₁:Ni) (Q':Unit->Ni->Prop),Q' () s₁->Nl (Nq prog w) A (g b) Q' E s₁)
  {a:Nh} {o:Obj} {es es1:Array (Int × Nf)} {ep:Nat} {t t2:N_} {ks:List Int} (ho:s.heap.get? a=some o) (hd:o.data=.set es ep t)
  (hI:SI prog w { o with data:=.set es1 (ep + 1) t2 } ks es1 (ep + 1) t2) {wd:Bool} {R:Option Bool->Ni->Prop}
  (h:∀ h' o' es' ep' t' ks',Oa a s.heap h'->h'.get? a=some o'->SI prog w o' ks' es' ep' t'->ks'.Perm ks->R (some true) { s with heap:=h' }) :
  Nl (Nq prog w) A (storeSet a es1 t2 >>= fun _=>if(!wd && t2.tooFull)=true then g (Ra t2 es1 (O4 es1.size)).2.2 >>= fun _=>storeSet a (Ra t2 es1 (O4 es1.size)).1 (Ra t2 es1 (O4 es1.size)).2.1 >>= fun _=>pure (some true)else pure (some true)) R E s:=by
 refine Nd (SV ho hd ?_ (Pq hI.sm))
 have e1:=stored (es':=es1) (t':=t2) ho hd
 have b1:=N1 s.heap a (TL es1 t2)
 split
 ·have hp:=relayAll_perm t2 es1 (O4 es1.size)
  have hf:=relayAll_fits t2 es1 (O4 es1.size)
  have hG:=yr hI.gd es1 (O4 es1.size)
  generalize Ra t2 es1 (O4 es1.size)=Rl at hp hf hG ⊢
  obtain⟨es2,t3,gave⟩:=Rl
  dsimp only at hp hf hG ⊢
  have sz:es2.size=es1.size:=by rw[<-f',hp.length_eq,f']
  have sm2:es2.size < scanBound:=by rw[sz];exact hI.sm
  obtain⟨ks2,rd2,kp⟩:=fE (hp.symm.map (·.2)) hI.rd
  refine Nd (hg _ _ _ (Nd (SV e1 rfl ?_ (Pq sm2))))
  have e2:=stored (es':=es2) (t':=t3) e1 rfl
  exact Nj (h _ _ es2 _ t3 ks2 (b1.trans (N1 _ a _)) e2 ⟨hI.ex,rfl,hI.el.perm hp,rd2,kp.nodup_iff.mp hI.nd,sm2,hf,hG⟩ kp.symm)
 exact Nj (h _ _ es1 _ t2 ks b1 e1 hI (.refl _))
theorem add_int{a:Nh}{S:Int->Prop}{m:Nat}{n:Int}{tk:Tok}{Q:Bool->Ni->Prop}(hS:SG prog w s.heap a S m)(hm:m + 1 < scanBound)
  (h:∀ b h',Oa a s.heap h'->SG prog w h' a (fun z=>S z\/z=n) (m + 1)->Q b { s with heap:=h' }) :
  Nl (Nq prog w) A (Vc a (.int n tk) ((Pe prog w).hash n)) Q E s:=by
 obtain⟨o,ks,es,ep,t,ho,I,mem,kl⟩:=hS
 have kn:es.size=ks.length:=by rw[<-ik I.rd,b_,f']
 have hk:=R5 prog w n tk
 unfold Vc setAddHashedIn
 refine NJ (Nd (OY ho I.dat I.ft ?_))
 dsimp only
 rw[byScan_of rfl I.sm I.el,if_pos rfl]
 unfold setAddByScan
 refine Nd (Nd (OZ (Nd (wpAny_setScan_of hk ho I.dat I.ft I.el ?_))))
 cases hr:List.findIdx? (fun e=>(Pe prog w).is n e.2) es.toList with
 | some j=>
  dsimp only
  obtain⟨hj,pj,_⟩:=List.findIdx?_eq_some_iff_getElem.mp hr
  have hn:n∈ks:=(l8 (prog:=prog) (w:=w) I.rd n).mpr ⟨_,JN hj,pj⟩
  refine Nj (Nj ?_)
  exact h _ s.heap (V0 a s.heap) ⟨o,ks,es,ep,t,ho,I,fun z=>by rw[mem z];exact⟨.inl,fun q=>q.elim id fun e=>by rw[e];exact(mem n).mp hn⟩,by omega⟩
 | none=>
  dsimp only
  have hn:n ∉ ks:=fun z=>by
   obtain⟨e,me,q⟩:=(l8 (prog:=prog) (w:=w) I.rd n).mp z
   have:=List.findIdx?_eq_none_iff.mp hr e me
   rw[q]at this
   cases this
  have pm:=layNew_perm t es ((Pe prog w).hash n) (.int n tk)
  have ft:=layNew_fits t es ((Pe prog w).hash n) (.int n tk)
  have gd:=Ey I.gd es ((Pe prog w).hash n) (.int n tk)
  generalize layNew t es ((Pe prog w).hash n) (.int n tk)=L at pm ft gd ⊢
  obtain⟨es1,t1,wd,gave⟩:=L
  dsimp only at pm ft gd ⊢
  rw[JX]at pm
  have s1:es1.size=es.size + 1:=by rw[<-f',pm.length_eq,j',f'];rfl
  have el1:ElemsOf (Pe prog w) es1.toList:=(I.el.push hk rfl).perm pm
  have rdp:IntsAre (Kq (·.2) (es.toList++[((Pe prog w).hash n,Pf n tk)])) (ks++[n]):=by rw[z_];exact xg I.rd
  obtain⟨ks1,rd1,kp⟩:=fE (pm.symm.map (·.2)) rdp
  have nd1:ks1.Nodup:=kp.nodup_iff.mp (JE.mpr ⟨I.nd,D'.mpr ⟨(nomatch ·),Kd⟩,fun x hx y hy e=>by rw[w_.mp hy]at e;exact hn (e ▸ hx)⟩)
  have fin:∀ h' o' es' ep' t' ks',Oa a s.heap h'->h'.get? a=some o'->SI prog w o' ks' es' ep' t'->ks'.Perm ks1->Q true { s with heap:=h' }:=fun h' o' es' ep' t' ks' b g I' p=>by
   refine h _ h' b ⟨o',ks',es',ep',t',g,I',fun z=>?_,?_⟩
   ·rw[p.mem_iff,<-kp.mem_iff,F',mem z,w_]
   rw[p.length_eq,<-kp.length_eq,j']
   exact Lf kl
  have gw:∀(b:Bool) (s₁:Ni) (Q':Unit->Ni->Prop),Q' () s₁->Nl (Nq prog w) A (match b with | true=>rule "set.scan.the-table-gave-way" | false=>pure ()) Q' E s₁:=fun b s₁ Q' q=>by cases b <;> first | exact Nj q | exact OZ q
  refine Nd (?_:Nl _ _ (match gave with | true=>_ | false=>_) _ _ _)
  have sm1:es1.size < scanBound:=by omega
  refine gw gave s _ ?_
  split
  ·refine Nd ?_
   rw[hashByValue_scannable 8 (x:=.int n tk) rfl]
   refine Nj ?_
   refine qm (ks:=ks1) gw ho I.dat ⟨I.ex,rfl,el1,rd1,nd1,sm1,?_,?_⟩ fun h' o' es' ep' t' ks' b g I' p=>Nj (fin h' o' es' ep' t' ks' b g I' p)
   ·exact ft
   exact gd
  refine Nd (Nj ?_)
  rw[if_pos rfl]
  exact qm (ks:=ks1) gw ho I.dat ⟨I.ex,rfl,el1,rd1,nd1,sm1,ft,gd⟩ fun h' o' es' ep' t' ks' b g I' p=>Nj (fin h' o' es' ep' t' ks' b g I' p)
end
open PySem PyProof.Rows
theorem C7:Tg VB "set.__iter__"=some Ox.«frozenset.__iter__»:=T_ (id':="frozenset.__iter__") (by kernel_rfl) rfl (by decide +kernel) (by kernel_rfl)
theorem cO:Slot "set_iterator" "__next__" "set_iterator.__next__":=
 .of (owner:="set_iterator") (n:="__next__") (by rw[TM,RP];kernel_rfl) (by decide +kernel) (by decide +kernel) (by decide +kernel) (by first | exact .inl (by decide +kernel) | exact .inr (by decide +kernel)) (by rw[RQ];kernel_rfl)
theorem vR:Slot "set_iterator" "__iter__" "set_iterator.__iter__":=
 .of (owner:="set_iterator") (n:="__iter__") (by rw[TM,RP];kernel_rfl) (by decide +kernel) (by decide +kernel) (by decide +kernel) (by first | exact .inl (by decide +kernel) | exact .inr (by decide +kernel)) (by rw[RQ];kernel_rfl)
theorem BE:Tg VB "set_iterator.__iter__"=some Ox.«dict_keyiterator.__iter__»:=T_ (id':="dict_keyiterator.__iter__") (by kernel_rfl) rfl (by decide +kernel) (by kernel_rfl)
theorem uK:Tg VB "set_iterator.__next__"=some Ox.«set_iterator.__next__»:=entryFor_of_tree (by kernel_rfl)
theorem Df:V'.lookup (String.ofList ['r','o','t','a','r','e','t','i','_','t','e','s'].reverse)=some UP:=by kernel_rfl
theorem uV(a:Nf):Rb "set_iterator.__next__" ⟨[a],[]⟩:=by
 unfold Rb;rw[Uw (id:="set_iterator.__next__") (n:=['_','_','t','x','e','n','_','_']) (o:=['r','o','t','a','r','e','t','i','_','t','e','s']) (by kernel_rfl) Df];kernel_rfl
theorem Cd(a:Nf):Rb "set_iterator.__iter__" ⟨[a],[]⟩:=by
 unfold Rb;rw[Uw (id:="set_iterator.__iter__") (n:=['_','_','r','e','t','i','_','_']) (o:=['r','o','t','a','r','e','t','i','_','t','e','s']) (by kernel_rfl) Df];kernel_rfl
theorem pC{α:Type}:∀ {l:List α} {i:Nat} (h:i < l.length),(l[i]::l.eraseIdx i).Perm l
 | x::l,0,_=>.refl _
 | x::l,i + 1,h=>by
  have g:i < l.length:=Nat.lt_of_succ_lt_succ h
  show(l[i]::x::l.eraseIdx i).Perm (x::l)
  exact(Lw ..).trans (.cons x (pC g))
theorem nV{α:Type}{next:Nat->Nat}:∀(f k:Nat) (l:List α) (out:Array α),l.length=f->(Vd next f k l out).toList.Perm (out.toList++l)
 | 0,k,l,out,h=>by
  rw[Je h,H_]
  exact .refl _
 | f + 1,k,l,out,h=>by
  unfold Vd
  have lt:next k % l.length < l.length:=Na _ (by omega)
  rw[a_ lt]
  refine(nV f _ _ _ (by rw[LN lt];omega)).trans ?_
  rw[JX,j_]
  refine Js _ ?_
  exact pC lt
section
variable{prog:Nv}{w:NA}{A:NH}{E:Nf->Ni->Prop}{s:Ni}
theorem wp_choose{src:Source}{n:Nat}{Q:Nat->Ni->Prop}(hn:n≠0)(h:∀ i d,i < n->Q i { s with drawn:=d }):Nl (Nq prog w) A (choose src n) Q E s:=
 fun _ _ _=>⟨hn,h _ _ (Na _ (JQ hn))⟩
theorem uN{α:Type}:∀(n:Nat) (xs:List α) {s:Ni} {Q:List α->Ni->Prop},xs.length=n->(∀ ys d,ys.Perm xs->Q ys { s with drawn:=d })->Nl (Nq prog w) A (drawOrder n xs) Q E s
 | 0,xs,s,Q,hl,h=>by
  rw[Je hl]at h ⊢
  exact Nj (h [] s.drawn (.refl _))
 | n + 1,[],s,Q,hl,h=>by cases hl
 | n + 1,x::xs,s,Q,hl,h=>by
  unfold drawOrder
  refine Nd (wp_choose (by simp) fun i d hi=>?_)
  rw[a_ hi]
  dsimp only
  refine Nd (uN n _ (by rw[LN hi,hl];rfl) fun ys d' p=>Nj (h _ d' ?_))
  exact(Lx _ p).trans (pC hi)
noncomputable def Itr(h:NB)(it:Nh)(first:Nf)(i:Nat)(a:Nh)(n ep:Nat):Prop:=∃ o,h.get? it=some o/\o.cls=.type "set_iterator"/\o.data=.fields #[first,.int i 0,.ref a,.int n 0,.int ep 0]
theorem Itr.ty {it a:Nh}{f:Nf}{i n ep:Nat}(x:Itr s.heap it f i a n ep):s.TypeIs (.ref it) "set_iterator":=let ⟨o,ho,hc,_⟩:=x;⟨o,ho,hc⟩
theorem Itr.at {h h':NB}{it a:Nh}{f:Nf}{i n ep:Nat}(x:Itr h it f i a n ep)(e:∀ o,h.get? it=some o->h'.get? it=some o):Itr h' it f i a n ep:=let ⟨o,ho,r⟩:=x;⟨o,e _ ho,r⟩
theorem vf{it a:Nh}{f:Nf}{i n ep:Nat}{Q:Nf->Ni->Prop}(x:Itr s.heap it f i a n ep)(h:Q (.ref it) s):Nl (Nq prog w) A (Qj (.ref it)) Q E s:=by
 refine QU x.ty vR (NX vR x.ty BE ?_ (Cd _))
 show Nl _ _ (ret (.ref it)) _ _ s
 exact Nj ⟨_,rfl,"set_iterator",_,x.ty,cO.lookup,h⟩
noncomputable def Nx(prog:Nv)(w:NA)(a:Nh)(o:Obj)(ep:Nat)(vs:List Nf)(sl:Nat->Nat):Prop:=∀(A:NH) (E:Nf->Ni->Prop) (s:Ni) (i:Nat) (Q:Option (Nf × Nat)->Ni->Prop),s.heap.get? a=some o->i<=vs.length->Q (vs[i]?.map fun v=>(v,sl (i + 1))) s->Nl (Nq prog w) A (T' a (sl i) i ep) Q E s
theorem uE{it a:Nh}{o:Obj}{es:Array (Int × Nf)}{ep:Nat}{t:N_}{i:Nat}{sl:Nat->Nat}{Q:Option Nf->Ni->Prop}(x:Itr s.heap it (.int (sl i) 0) i a es.size ep)(ho:s.heap.get? a=some o)(hd:o.data=.set es ep t)(hf:t.fits es.size=true){vs:List Nf}(N:Nx prog w a o ep vs sl)(hi:i<=vs.length)(hh:A.handled=none)
  (h1:∀ v h',vs[i]?=some v->Itr h' it (.int (sl (i + 1)) 0) (i + 1) a es.size ep->Oa it s.heap h'->Q (some v) { s with heap:=h' }) (h2:∀ h',vs[i]?=none->PR it s.heap h'->Q none { s with heap:=h' }):Nl (Nq prog w) A (OJ (.ref it)) Q E s:=by
 obtain⟨oi,hoi,hc,hdi⟩:=id x
 unfold OJ
 refine Nd (OG (N0 (name:=N7 "__next__") x.ty cO (NX cO x.ty uK ?_ (uV _))))
 unfold Ox.«set_iterator.__next__»
 refine Nd (Nj (Nd (QD hoi hdi ?_)))
 show Nl _ _ (setEntries a >>= _) _ _ s
 refine Nd (Qx ho hd hf ?_)
 rw[if_neg (show ¬ _ by simp)]
 show Nl _ _ (T' a _ _ _ >>= _) _ _ s
 refine Nd ?_
 rw[C_,C_,C_]
 refine N _ _ _ i _ ho hi ?_
 cases e:vs[i]? with
 | some v=>
  dsimp only[Kb]
  refine Nd (Ow hoi hdi (by simp) ?_)
  have e1:=NU (PJ (·.setIfInBounds 0 (Oj (sl (i + 1))))) hoi (OK (NV hdi _))
  refine Nd (Ow e1 (NV hdi _) (by simp) ?_)
  have e2:=NU (PJ (·.setIfInBounds 1 (Oj ((i:Int) + 1)))) e1 (OK (NV (NV hdi _) _))
  refine Nj ⟨_,rfl,Nj (h1 v _ e ⟨_,e2,((Pp ..).trans (Pp ..)).trans hc,?_⟩ ((N1 ..).trans (N1 ..)))⟩
  rw[NV (NV hdi _)]
  simp[Oj]
 | none=>
  dsimp only[Kb]
  refine Nd (Ow hoi hdi (by simp) (show Nl _ _ (Q6 (.type "StopIteration") [] >>= _) _ _ _ from Nd ?_))
  simp only[Q6,S_]
  refine Nd (NI (Nd (m:=OO _ _) (Pl (a:=NR) (by first | rfl | (simp only[OO];rfl)) (NI ?_ (by size_fits)))) (by size_fits))
  simp only[Ta]
  refine Nd (QQ ?_)
  rw[show A.in1.handled=none from hh]
  refine Nd (Nj (RB ?_))
  refine Nd (Pw (T:="StopIteration") (b:=true) (by exact⟨_,Np _ rfl,rfl⟩) QC (Nj ?_))
  exact h2 _ e (((N1 ..).extBut.push _).push _)
theorem xH{it a:Nh}(hne:a≠it){o:Obj}{es:Array (Int × Nf)}{ep:Nat}{t:N_}{sl:Nat->Nat}(hd:o.data=.set es ep t)(hf:t.fits es.size=true){vs:List Nf}(N:Nx prog w a o ep vs sl)(hh:A.handled=none) :
  SF prog w A it [it,a] [it] vs.length (fun i v=>vs[i]?=some v) (fun i h=>i<=vs.length/\Itr h it (.int (sl i) 0) i a es.size ep/\h.get? a=some o) where
 sub:=fun b hb=>by simp at hb;simp[hb]
 frame:=fun _ _ _ st hk=>⟨st.1,st.2.1.at fun o e=>hk it (by simp) o e,hk a (by simp) o st.2.2⟩
 item:=fun i s Q E hi st hQ=>uE st.2.1 st.2.2 hd hf N st.1 hh (fun v h' e x sb=>hQ v h' s.toks e ⟨hi,x,sb.extBut a o hne st.2.2⟩ fun b o hb e=>sb.extBut b o (fun z=>hb (by simp[z])) e) fun h' e=>by rw[a_ hi]at e;cases e
 done:=fun s Q E st hQ=>uE st.2.1 st.2.2 hd hf N st.1 hh (fun v h' e=>by rw[KA (d_ _)]at e;cases e) fun h' _ eb=>hQ h' s.toks fun b o hb e=>eb b o (fun z=>hb (by simp[z])) e
 self:=fun _ _ _ _ st hQ=>vf st.2.1 hQ
end
open PySem PyProof.Rows
section
variable{prog:Nv}{w:NA}{A:NH}{E:Nf->Ni->Prop}{s:Ni}
theorem wp_text{Q:Bool->Ni->Prop}(h:Q (bt w) s):Nl (Nq prog w) A setsByText Q E s:=Nd (Rc (Nj h))
theorem yz{es:Array (Int × Nf)}{i:Nat}:(es.toList.map (·.2))[i]?=es[i]?.map (·.2):=by rw[A',e_]
theorem AF{a:Nh}{o:Obj}{ks:List Int}{es:Array (Int × Nf)}{ep:Nat}{t:N_}(I:SI prog w o ks es ep t)(hb:bt w=true) :
  Nx prog w a o ep ((pickOrder (w.params.setOrder a ep) es).toList.map (·.2)) (fun _=>0):=by
 intro A E s i Q ho hi h
 unfold T'
 refine Nd (OY ho I.dat I.ft (Nd (wp_text ?_)))
 rw[hb,if_pos rfl]
 dsimp only
 rw[if_neg (by simp)]
 refine Nd ?_
 unfold setWalk
 refine Nd (OY ho I.dat I.ft (Nd (wp_text ?_)))
 rw[hb,if_pos rfl]
 refine Nd (Rc (Nj (Nj ?_)))
 rw[yz,Option.map_map]at h
 exact h
def slP(t:N_):Nat->Nat
 | 0=>0
 | i + 1=>t.place.getD i 0 + 1
theorem zQ{a:Nh}{o:Obj}{ks:List Int}{es:Array (Int × Nf)}{ep:Nat}{t:N_}(I:SI prog w o ks es ep t)(hb:bt w=false)(hdr:(!t.plain && decide (es.size > 1))=false) :
  Nx prog w a o ep (es.toList.map (·.2)) (slP t):=by
 intro A E s i Q ho hi h
 have hz:t.place.size=es.size:=by have:=I.ft;unfold We at this;simp at this;exact this.1
 unfold T'
 refine Nd (OY ho I.dat I.ft (Nd (wp_text ?_)))
 rw[hb,if_neg (by simp)]
 dsimp only
 refine Pj (fun z=>absurd (show(!t.plain && decide (es.size > 1))=true from z) (by rw[hdr];simp)) fun _=>Nd ?_
 show Nl _ _ (if(!t.led && !es.isEmpty)=true then _ else _) _ _ _
 rw[I.gd.led hb,if_neg (by simp)]
 refine Nj ?_
 have eb:NP t.place (slP t i)=i:=by
  match i,hi with
  | 0,_=>exact AI I.gd.up
  | i + 1,hi=>
   have hi:i < t.place.size:=by rw[b_,f']at hi;omega
   have e:t.place[i]?=some (t.place.getD i 0):=by rw[gV hi,J7,gV hi];rfl
   exact below_at I.gd.up e
 rw[eb]
 refine Nj ?_
 rw[yz]at h
 by_cases c:i < es.size
 ·rw[gV c,gV (show i < t.place.size by omega)]
  rw[gV c]at h
  have e:slP t (i + 1)=t.place[i] + 1:=by show t.place.getD i 0 + 1=_;rw[J7,gV (by omega)];rfl
  dsimp only[Kb]at h
  rw[e]at h
  exact h
 rw[JM (by omega)]
 rw[JM (by omega)]at h
 exact h
theorem vz{it a tp:Nh}{o ot:Obj}{es:Array (Int × Nf)}{ep:Nat}{t:N_}{i:Nat}{ps:List Nat}{c:Nat}{Q:Option Nf->Ni->Prop}(x:Itr s.heap it (.ref tp) i a es.size ep)(ho:s.heap.get? a=some o)(hd:o.data=.set es ep t)(hf:t.fits es.size=true)(hot:s.heap.get? tp=some ot)(hdt:ot.data=.seq (ps.map fun(j:Nat)=>Oj j).toArray c)(hps:∀ p∈ps,p < es.size)(hh:A.handled=none)
  (h1:∀ p v h',ps[i]?=some p->(es[p]?.map (·.2))=some v->Itr h' it (.ref tp) (i + 1) a es.size ep->Oa it s.heap h'->Q (some v) { s with heap:=h' }) (h2:∀ h',ps[i]?=none->PR it s.heap h'->Q none { s with heap:=h' }):Nl (Nq prog w) A (OJ (.ref it)) Q E s:=by
 obtain⟨oi,hoi,hc,hdi⟩:=id x
 unfold OJ
 refine Nd (OG (N0 (name:=N7 "__next__") x.ty cO (NX cO x.ty uK ?_ (uV _))))
 unfold Ox.«set_iterator.__next__»
 refine Nd (Nj (Nd (QD hoi hdi ?_)))
 show Nl _ _ (setEntries a >>= _) _ _ s
 refine Nd (Qx ho hd hf ?_)
 rw[if_neg (show ¬ _ by simp)]
 show Nl _ _ (P7 (.ref tp) >>= _) _ _ s
 unfold P7
 refine Nd (Nd (RU hot ?_))
 rw[hdt]
 refine Nj ?_
 dsimp only
 rw[C_,C_]
 have ea:((ps.map fun(j:Nat)=>Oj j).toArray)[i]?=ps[i]?.map fun(j:Nat)=>Oj j:=by rw[Li,A']
 rw[ea]
 cases e:ps[i]? with
 | some p=>
  have hp:=hps p (y_ e)
  dsimp only[Kb,Oj]
  unfold setNextDrawn
  refine Nd (Nd (OY ho hd hf ?_))
  dsimp only
  rw[if_neg (by simp),C_,gV hp]
  refine Nj (Nd (Ow hoi hdi (by simp) ?_))
  have e1:=NU (PJ (·.setIfInBounds 1 (Oj ((i:Int) + 1)))) hoi (OK (NV hdi _))
  refine Nj ⟨_,rfl,Nj (h1 p _ _ e (by rw[gV hp];rfl) ⟨_,e1,(Pp ..).trans hc,?_⟩ (N1 ..))⟩
  rw[NV hdi _]
  simp[Oj]
 | none=>
  dsimp only[Kb]
  refine Nd (Ow hoi hdi (by simp) ?_)
  have e1:=NU (PJ (·.setIfInBounds 0 (Oj 0))) hoi (OK (NV hdi _))
  refine Nd (Ow e1 (NV hdi _) (by simp) (show Nl _ _ (Q6 (.type "StopIteration") [] >>= _) _ _ _ from Nd ?_))
  simp only[Q6,S_]
  refine Nd (NI (Nd (m:=OO _ _) (Pl (a:=NR) (by first | rfl | (simp only[OO];rfl)) (NI ?_ (by size_fits)))) (by size_fits))
  simp only[Ta]
  refine Nd (QQ ?_)
  rw[show A.in1.handled=none from hh]
  refine Nd (Nj (RB ?_))
  refine Nd (Pw (T:="StopIteration") (b:=true) (by exact⟨_,Np _ rfl,rfl⟩) QC (Nj ?_))
  exact h2 _ e ((((N1 ..).trans (N1 ..)).extBut.push _).push _)
theorem y8{it a tp:Nh}(hne:a≠it)(hnt:tp≠it){o ot:Obj}{es:Array (Int × Nf)}{ep:Nat}{t:N_}{ps:List Nat}{c:Nat}(hd:o.data=.set es ep t)(hf:t.fits es.size=true)(hdt:ot.data=.seq (ps.map fun(j:Nat)=>Oj j).toArray c)(hps:∀ p∈ps,p < es.size)(hh:A.handled=none) :
  SF prog w A it [it,a,tp] [it] ps.length (fun i v=>∃ p,ps[i]?=some p/\es[p]?.map (·.2)=some v) (fun i h=>Itr h it (.ref tp) i a es.size ep/\h.get? a=some o/\h.get? tp=some ot) where
 sub:=fun b hb=>by simp at hb;simp[hb]
 frame:=fun _ _ _ st hk=>⟨st.1.at fun o e=>hk it (by simp) o e,hk a (by simp) o st.2.1,hk tp (by simp) ot st.2.2⟩
 item:=fun i s Q E hi st hQ=>vz st.1 st.2.1 hd hf st.2.2 hdt hps hh (fun p v h' e1 e2 x sb=>hQ v h' s.toks ⟨p,e1,e2⟩ ⟨x,sb.extBut a o hne st.2.1,sb.extBut tp ot hnt st.2.2⟩ fun b o hb e=>sb.extBut b o (fun z=>hb (by simp[z])) e) fun h' e=>by rw[a_ hi]at e;cases e
 done:=fun s Q E st hQ=>vz st.1 st.2.1 hd hf st.2.2 hdt hps hh (fun p v h' e=>by rw[KA (d_ _)]at e;cases e) fun h' _ eb=>hQ h' s.toks fun b o hb e=>eb b o (fun z=>hb (by simp[z])) e
 self:=fun _ _ _ _ st hQ=>vf st.1 hQ
end
open PySem PyProof.Rows
section
variable{prog:Nv}{w:NA}{A:NH}{E:Nf->Ni->Prop}{s:Ni}
theorem zq{vs:List Nf}{acc:Array Nf}(h:Q1 (fun i v=>vs[i]?=some v) acc vs.length):acc.toList=vs:=by
 refine MI fun j=>?_
 rw[e_]
 by_cases hj:j < vs.length
 ·have hja:j < acc.size:=by rw[h.1];exact hj
  have e:=gV hja
  rw[e]
  exact(h.2 j _ e).symm
 rw[JM (by rw[h.1];omega),KA (by omega)]
theorem xS{es:Array (Int × Nf)}{ps:List Nat}(hp:ps.Perm (o_ es.size)){acc:Array Nf}(h:Q1 (fun i v=>∃ p,ps[i]?=some p/\es[p]?.map (·.2)=some v) acc ps.length):acc.toList.Perm (es.toList.map (·.2)):=by
 have e:acc.toList=ps.filterMap fun p=>es[p]?.map fun(x:Int × Nf)=>x.2:=by
  have g:∀(qs:List Nat) (vs:List Nf),vs.length=qs.length->(∀(j:Nat) v,vs[j]?=some v->∃ p:Nat,qs[j]?=some p/\es[p]?.map (fun(x:Int × Nf)=>x.2)=some v)->vs=qs.filterMap fun p=>es[p]?.map fun(x:Int × Nf)=>x.2:=by
   intro qs
   induction qs with
   | nil=>exact fun vs l _=>Je l
   | cons q qs ih=>
    intro vs l k
    match vs,l,k with
    | v::vs,l,k=>
     obtain⟨p,e1,e2⟩:=k 0 v rfl
     cases e1
     rw[List.filterMap_cons_some (f:=fun p=>Kb (fun(x:Int × Nf)=>x.2) es[p]?) e2,<-ih vs (J6 l) fun j v e=>k (j + 1) v e]
  exact g ps acc.toList (by rw[f'];exact h.1) fun j v e=>h.2 j v (by rw[<-e_];exact e)
 rw[e]
 refine(hp.filterMap _).trans ?_
 have e2:(o_ es.size).filterMap (fun p=>es[p]?.map (·.2))=((o_ es.size).filterMap fun p=>es[p]?).map (·.2):=by rw[List.map_filterMap]
 rw[e2,filterMap_getElem?_range]
theorem zJ{a:Nh}{o:Obj}{ks:List Int}{es:Array (Int × Nf)}{ep:Nat}{t:N_}{Q:Nf->Ni->Prop}(ho:s.heap.get? a=some o)(I:SI prog w o ks es ep t)(hh:A.handled=none)
  (h:∀(h1:NB) d (it:Nh) (fp:List Nh) (P:Nat->Nf->Prop) (St:Nat->NB->Prop),s.heap.objs.size<=it->it < h1.objs.size->(∀ b u,s.heap.get? b=some u->h1.get? b=some u)->(∀ b∈fp,b=a\/s.heap.objs.size<=b)->SF prog w A it fp [it] es.size P St->St 0 h1->(∀ acc,Q1 P acc es.size->acc.toList.Perm (es.toList.map (·.2)))->Q (.ref it) { s with heap:=h1,drawn:=d }) :
  Nl (Nq prog w) A (Qj (.ref a)) Q E s:=by
 have hT:s.TypeIs (.ref a) "set":=⟨o,ho,I.ex.1⟩
 have lt:=Nt ho
 have hz:es.size<=sizeLine:=Pq I.sm
 refine QU hT TN (NX TN hT C7 ?_ (F.args_set_iter_1 _))
 unfold Ox.«frozenset.__iter__»
 refine Nd ?_
 unfold Vh
 refine Nd (Nj (Nj (Nd ?_)))
 unfold Ve
 refine Nd (Qx ho I.dat I.ft (Nj (Nd ?_)))
 unfold setDrawn
 refine Nd (OY ho I.dat I.ft (Nd (wp_text (Nj ?_))))
 have plain:∀(vs:List Nf) (sl:Nat->Nat),sl 0=0->vs.Perm (es.toList.map (·.2))->Nx prog w a o ep vs sl->Q (.ref s.heap.objs.size) { s with heap:=s.heap.push { cls:=.type "set_iterator",data:=.fields #[.int 0 0,.int 0 0,.ref a,.int es.size 0,.int ep 0] } }:=fun vs sl h0 pm N=>by
  have ln:vs.length=es.size:=by rw[pm.length_eq,b_,f']
  have W:=xH (A:=A) (it:=s.heap.objs.size) (r_ lt) I.dat I.ft N hh
  rw[ln]at W
  refine h _ s.drawn _ _ _ _ (d_ _) (by rw[NY];exact KJ _) (fun b u e=>Nk _ e) (fun b hb=>?_) W ⟨G_ _,⟨_,Np _ rfl,rfl,?_⟩,Nk _ ho⟩ fun acc it=>?_
  ·rcases m_.mp hb with e | hb
   ·exact .inr (K4 e.symm)
   exact .inl (w_.mp hb)
  ·rw[h0]
   rfl
  rw[<-ln]at it
  rw[zq it]
  exact pm
 cases hb:bt w with
 | true=>
  refine Nd ?_
  refine Nj ?_
  refine Nd (QV ho I.dat I.ft ?_)
  refine Nd (NI ?_)
  refine Nj ⟨_,rfl,"set_iterator",_,⟨_,Np _ rfl,rfl⟩,cO.lookup,?_⟩
  exact plain _ _ rfl ((nV _ _ _ _ (by rw[f'])).map _) (AF I hb)
 | false=>
  cases hdr:(!t.plain && decide (es.size > 1))with
  | false=>
   refine Pj (fun z=>absurd (show(!false && (!t.plain && decide (es.size > 1)))=true from z) (by rw[hdr];simp)) fun _=>Nd (Nj ?_)
   refine Nd (QV ho I.dat I.ft ?_)
   refine Nd (NI ?_)
   refine Nj ⟨_,rfl,"set_iterator",_,⟨_,Np _ rfl,rfl⟩,cO.lookup,?_⟩
   exact plain _ _ rfl (.refl _) (zQ I hb hdr)
  | true=>
   refine Pj (fun _=>?_) fun z=>absurd (show(!false && (!t.plain && decide (es.size > 1)))=true by rw[hdr];rfl) z
   refine Nd (uN _ _ (by rw[u_]) fun ys d pm=>?_)
   refine Nd (NI ?_ ?_)
   refine Nd (QV (Nk _ ho) I.dat I.ft ?_)
   refine Nd (NI ?_)
   refine Nj ⟨_,rfl,"set_iterator",_,⟨_,Np _ rfl,rfl⟩,cO.lookup,?_⟩
   ·have yl:ys.length=es.size:=by rw[pm.length_eq,u_]
    have hz2:∀ x:Obj,(s.heap.push x).objs.size=s.heap.objs.size + 1:=fun x=>NY ..
    have W:=y8 (prog:=prog) (w:=w) (A:=A) (it:=s.heap.objs.size + 1) (a:=a) (tp:=s.heap.objs.size) (r_ (Kv lt)) (r_ (KJ _)) (ot:={ cls:=.type "tuple",data:=.seq (ys.map fun(j:Nat)=>Oj j).toArray }) I.dat I.ft rfl (fun p hp=>Jh.mp (pm.mem_iff.mp hp)) hh
    rw[yl]at W
    have e2:∀ x y:Obj,y.isFreed=false->((s.heap.push x).push y).get? (s.heap.objs.size + 1)=some y:=fun x y q=>by rw[<-hz2 x];exact Np _ q
    have r:=h ((s.heap.push { cls:=.type "tuple",data:=.seq (ys.map fun(j:Nat)=>Oj j).toArray }).push { cls:=.type "set_iterator",data:=.fields #[.ref s.heap.objs.size,.int 0 0,.ref a,.int es.size 0,.int ep 0] }) d (s.heap.objs.size + 1) _ _ _ (Km _) (by rw[NY,NY];exact KJ _) (fun b u e=>Nk _ (Nk _ e)) (fun b hb=>?_) W ⟨⟨_,e2 _ _ rfl,rfl,rfl⟩,Nk _ (Nk _ ho),Nk _ (Np _ rfl)⟩ fun acc it=>xS pm (by rw[yl];exact it)
    ·rw[<-hz2]at r
     exact r
    simp only[m_,L5,or_false]at hb
    rcases hb with e | e | e
    ·exact .inr (by rw[e];exact Km _)
    ·exact .inl e
    exact .inr (K4 e.symm)
   show _<=_
   rw[q_,b_,pm.length_eq,u_]
   exact hz
end
open PySem PyProof.Rows
section
variable{prog:Nv}{w:NA}{A:NH}{E:Nf->Ni->Prop}{s:Ni}
theorem zm{a:Nh}{Q:Bool->Ni->Prop}(hT:s.TypeIs (.ref a) "set")(h:Q false s):Nl (Nq prog w) A (QJ (.ref a)) Q E s:=by
 unfold QJ
 refine Nd (Rk hT F.slot_set_len.lookup ?_)
 generalize hid:("set.__len__":String)=id0
 wp_delta
 rw[show splitId id0=some ("set","__len__")from by subst hid;decide +kernel]
 subst hid
 refine Nd (Pw (T:="set") (b:=true) hT (by rw[RQ];kernel_rfl) ?_)
 refine Pj (fun z=>absurd z (by decide)) fun _=>Pj (fun _=>Nd (So hT (Nj h))) fun z=>absurd (by decide +kernel) z
theorem Bm{R:Sm->Ni->Prop}{a:Nh}{o:Obj}{ks:List Int}{es:Array (Int × Nf)}{ep:Nat}{t:N_}(ho:s.heap.get? a=some o)(I:SI prog w o ks es ep t)(hh:A.handled=none)(S:Nh)(hSa:S≠a)(res:Nf)(c₀:Nat)(hS:s.heap.get? S=some { cls:=.type "list",data:=.seq #[] c₀ })
  (hR:∀ h' tk d acc c,(∀ b u,b≠S->s.heap.get? b=some u->h'.get? b=some u)->h'.get? S=some { cls:=.type "list",dict:=none,data:=.seq acc c,slots:=#[] }->acc.toList.Perm (es.toList.map (·.2))->R (.ok (.ret res)) { s with heap:=h',drawn:=d,toks:=tk }) :
  Nl (Nq prog w) A.in1 (QK (.ref S) (.ref a) res) (fun fin s'=>match fin with | .done f=>R (.ok f) s' | .again c'=>c'.quiet=true/\OL (Nq prog w) A c' R s') (fun e s'=>R (.error e) s') s:=by
 have hz:es.size<=sizeLine:=Pq I.sm
 have lS:=Nt hS
 unfold QK
 refine Nd (So (T:="set") ⟨o,ho,I.ex.1⟩ ?_)
 have h1:Rf (.ref S) (.ref a)=false:=by simp[Rf,hSa]
 have h2:(Ol "set" == Ol "list")=false:=by decide
 have h3:(Ol "set" == Ol "tuple")=false:=by decide
 simp only[h1,h2,h3,MW,Ji,if_false]
 refine Nd (zJ ho I hh fun h1 d it fp P St hit hlt kp hfp W st pm=>?_)
 have hSf:S ∉ fp:=fun z=>(hfp S z).elim hSa fun z=>L6 z lS
 have hSi:S≠it:=fun z=>by rw[z]at lS;exact L6 hit lS
 have key:∀(h:NB) (c₁:Nat) (tk:Nat),St 0 h->(∀ b u,b≠S->h1.get? b=some u->h.get? b=some u)->h.get? S=some { cls:=.type "list",data:=.seq #[] c₁ }->OL (Nq prog w) A (.builtin "list.extend.loop" ⟨[.ref S,.ref it,res],[]⟩) R { s with heap:=h,drawn:=d,toks:=tk }:=by
  intro h c₁ tk hst hk hS₁
  refine codeAny_extend_loopS W.toS hz S hSf res es.size 0 _ #[] c₁ rfl (G_ _) hst hS₁ (ItemsOf.nil _) fun s' acc' c' hm hS' hacc=>?_
  rw[Moved.eq_with hm]
  refine hR s'.heap s'.toks d acc' c' (fun b u hb e=>hm.heap b u (fun z=>?_) (hk b u hb (kp b u e))) hS' (pm _ hacc)
  rcases m_.mp z with z | z
  ·exact hb z
  have:=Nt e
  rw[w_.mp z]at this
  exact L6 hit this
 have hS₁:=kp _ _ hS
 refine Nd (NJ (zm ⟨o,kp _ _ ho,I.ex.1⟩ ?_))
 refine Pj (fun _=>?_) (fun _=>Nj ⟨OI QY _,key _ c₀ _ st (fun b u _ e=>e) hS₁⟩)
 refine Nd (OZ ?_)
 refine Nd ?_
 show Nl _ _ (Sy S (·.push .none) >>= fun _=>Sy S (·.pop)) _ _ _
 refine Nd (PY hS₁ rfl ?_)
 have hS₂:=NU (N8 (·.push NR)) hS₁ rfl
 refine PY (hz:=by seq_fits) hS₂ rfl ?_
 have hS₃:=NU (N8 (·.pop)) hS₂ rfl
 refine Nj ⟨OI QY _,key _ _ _ ?_ (fun b u hb e=>?_) hS₃⟩
 ·refine W.frame 0 _ _ st fun b hb u e=>?_
  have hbS:b≠S:=fun z=>hSf (z ▸ hb)
  exact(NM _ _ (Oq hbS)).trans ((NM _ _ (Oq hbS)).trans e)
 exact(NM _ _ (Oq hb)).trans ((NM _ _ (Oq hb)).trans e)
theorem qp{a:Nh}{o:Obj}{ks:List Int}{es:Array (Int × Nf)}{ep:Nat}{t:N_}{Q:List Nf->Ni->Prop}(ho:s.heap.get? a=some o)(I:SI prog w o ks es ep t)(hh:A.handled=none)
  (h:∀ h' tk d (vs:List Nf),s.heap.objs.size<=h'.objs.size->(∀ b u,s.heap.get? b=some u->h'.get? b=some u)->vs.Perm (es.toList.map (·.2))->Q vs { s with heap:=h',drawn:=d,toks:=tk }):Nl (Nq prog w) A (SH (.ref a)) Q E s:=by
 unfold SH
 refine Nd (RM (Oc RN ?_))
 rw[N2 RO _]
 show Nl _ A.in1 (Vx [] >>= fun l=>again (.builtin "list.__iadd__" ⟨[l,.ref a],[]⟩)) _ _ s
 refine Nd (NI ?_)
 refine Nj ⟨OI Qf _,Oc SS ?_⟩
 rw[N2 Qf _]
 have hS:(s.heap.push { cls:=.type "list",data:=.seq ([]:List Nf).toArray }).get? s.heap.objs.size=some { cls:=.type "list",data:=.seq ([]:List Nf).toArray }:=Np _ rfl
 have hne:s.heap.objs.size≠a:=J4 (Nt ho)
 have fin:∀(s':Ni) (h':NB) (tk:Nat) (d:UA) (acc:Array Nf) (c:Nat),s'={ s with heap:=h',drawn:=d,toks:=tk }->(∀ b u,s.heap.get? b=some u->h'.get? b=some u)->h'.get? s.heap.objs.size=some { cls:=.type "list",dict:=none,data:=.seq acc c,slots:=#[] }->acc.toList.Perm (es.toList.map (·.2))->
   Nl (Nq prog w) A (load s.heap.objs.size >>= fun o=>match o.data with
    | .seq xs _=>pure xs.toList
    | _=>unsupported "internal:collect") Q E s':=fun s' h' tk d acc c es' kp e it=>by
  subst es'
  refine Nd (RU e ?_)
  exact Nj (h h' tk d _ (Jd (Nt e)) kp it)
 refine NN (Bm (s:={ s with heap:=s.heap.push { cls:=.type "list",data:=.seq ([]:List Nf).toArray } }) (R:=fun r s'=>∃(h':NB) (tk:Nat) (d:UA) (acc:Array Nf) (c:Nat),r=.ok (.ret (.ref s.heap.objs.size))/\s'={ s with heap:=h',drawn:=d,toks:=tk }/\(∀ b u,s.heap.get? b=some u->h'.get? b=some u)/\h'.get? s.heap.objs.size=some { cls:=.type "list",dict:=none,data:=.seq acc c,slots:=#[] }/\acc.toList.Perm (es.toList.map (·.2)))
  (Nk _ ho) I hh s.heap.objs.size hne (.ref s.heap.objs.size) 0 hS (fun h' tk d acc c kp e it=>⟨h',tk,d,acc,c,rfl,rfl,fun b u eb=>kp b u (r_ (Nt eb)) (Nk _ eb),e,it⟩)) (fun fn s' hf=>?_) (fun e s' hf=>?_)
 ·cases fn with
  | done f=>
   obtain⟨h',tk,d,acc,c,ef,es',kp,e,it⟩:=hf
   cases ef
   exact fin s' h' tk d acc c es' kp e it
  | again c'=>
   refine⟨hf.1,OR hf.2 fun r s'' hr=>?_⟩
   obtain⟨h',tk,d,acc,c,er,es',kp,e,it⟩:=hr
   subst er
   exact fin s'' h' tk d acc c es' kp e it
 obtain⟨_,_,_,_,_,ef,_⟩:=hf
 cases ef
end
open PySem PyProof.Rows
section
variable{prog:Nv}{w:NA}{A:NH}{R:Sm->Ni->Prop}{I:Nh}{fp wr:List Nh}{G:Array S7->Array S7->Prop}{n:Nat}{P:Nat->Nf->Prop}{St:Nat->Ni->Prop}
theorem SG.at {h h':NB}{a:Nh}{S:Int->Prop}{m:Nat}(x:SG prog w h a S m)(k:∀ o,h.get? a=some o->h'.get? a=some o):SG prog w h' a S m:=let ⟨o,ks,es,ep,t,e,r⟩:=x;⟨o,ks,es,ep,t,k _ e,r⟩
theorem SG.congr {h:NB}{a:Nh}{S S':Int->Prop}{m:Nat}(x:SG prog w h a S m)(k:∀ z,S z↔S' z):SG prog w h a S' m:=let ⟨o,ks,es,ep,t,e,r,q⟩:=x;⟨o,ks,es,ep,t,e,r,fun z=>(q.1 z).trans (k z),q.2⟩
theorem A1(W:WalksS prog w A.in1 I fp wr G n P St)(S:Nh)(hSf:S ∉ fp)(val:Nat->Int)(hval:∀ i v,P i v->∃ t,v=.int (val i) t)(hb:n + 1 < scanBound) :
  ∀(k i:Nat) (s:Ni),n - i=k->i<=n->St i s->SG prog w s.heap S (fun z=>∃ j,j < i/\val j=z) i->(∀ s',Moved (S::wr) G s s'->SG prog w s'.heap S (fun z=>∃ j,j < n/\val j=z) n->R (.ok (.ret .none)) s')->OL (Nq prog w) A (.builtin "set.update.loop" ⟨[.ref S,.ref I],[]⟩) R s:=by
 have hSw:S ∉ wr:=fun h=>hSf (W.sub _ h)
 have hsub:∀ b∈wr,b∈S::wr:=fun b hb=>n_ _ hb
 intro k
 induction k with
 | zero=>
  intro i s hk hi hst hS hR
  obtain rfl:i=n:=by omega
  refine Oc Rg ?_
  rw[N2 Qd _]
  show Nl _ A.in1 (OJ (.ref I) >>= _) _ _ s
  refine Nd (W.done s _ _ hst fun s' hm=>?_)
  show Nl _ A.in1 (ret NR) _ _ s'
  exact Nj (hR s' (hm.mono hsub) (hS.at fun o e=>hm.heap S _ hSw e))
 | succ k ih=>
  intro i s hk hi hst hS hR
  have hlt:i < n:=by omega
  refine Oc Rg ?_
  rw[N2 Qd _]
  show Nl _ A.in1 (OJ (.ref I) >>= _) _ _ s
  refine Nd (W.item i s _ _ hlt hst fun v s' hP hst' hm=>?_)
  obtain⟨t,rfl⟩:=hval i v hP
  have hS':=hS.at (h':=s'.heap) fun o e=>hm.heap S _ hSw e
  show Nl _ A.in1 (PN [Pf (val i) t] (setAdd S (.int (val i) t)) >>= _) _ _ s'
  refine Nd (NJ ?_)
  unfold setAdd
  refine NJ (Nd ((Pe prog w).pyHash (k:=val i) (R5 _ _ _ _) ?_))
  refine add_int (s:={ s' with toks:=s'.toks + 1 }) hS' (by omega) fun _ h' sb hS2=>?_
  have hSi:SG prog w h' S (fun z=>∃ j,j < i + 1/\val j=z) (i + 1):=hS2.congr fun z=>⟨fun q=>q.elim (fun⟨j,a,b⟩=>⟨j,by omega,b⟩) fun e=>⟨i,by omega,e.symm⟩,fun⟨j,a,b⟩=>by
   by_cases c:j=i
   ·exact .inr (by rw[<-b,c])
   exact .inl ⟨j,by omega,b⟩⟩
  refine Nj ⟨OI Qd _,ih (i + 1) _ (by omega) hlt (W.frame _ s' _ _ hst' (Km _) fun b hb o e=>?_) hSi fun s'' hm'' hS''=>?_⟩
  ·rw[sb.2 b (fun h:b=S=>hSf (by rw[<-h];exact hb))]
   exact e
  refine hR s'' (Moved.trans W.gtrans ((hm.mono hsub).then_heap (Km _) fun b o hb e=>?_) hm'') hS''
  rw[sb.2 b (fun h:b=S=>hb (by rw[h];exact p_))]
  exact e
end
section
variable{prog:Nv}{w:NA}{A:NH}{E:Nf->Ni->Prop}{s:Ni}
abbrev nob(w:NA):Obj:={ cls:=.type "set",dict:=none,data:=.set #[] 0 (.fresh 0 0 (!bt w)) }
theorem Ca(a:Nf){Q:Nf->Ni->Prop}(h:Q (.ref s.heap.objs.size) { s with heap:=s.heap.push (nob w) }):OL (Nq prog w) A (.call (.builtin "set.__new__") ⟨[.type "set",a],[]⟩) (wants Q E) s:=by
 refine TQ ?_
 show Nl _ A.in1 (Ti "set.__new__" ⟨[.type "set",a],[]⟩ >>= fun _=>again (.builtin "set.__new__" ⟨[.type "set",a],[]⟩)) _ _ s
 refine Nd (Pl (F.newCall_set_1 a) (Nj ⟨OI TR _,Oc F.entry_set_new ?_⟩))
 rw[N2 TR _]
 unfold Ox.«set.__new__» Ux
 have hsub:=sub_set_self
 obtain⟨hp,g,d,tk,os⟩:=s
 dsimp only
 wp_walk
 refine Rc (Nj ?_)
 dsimp only
 simp only[newObj]
 refine Nd (wpAny_alloc (Nj ?_))
 exact Nj h
theorem EO{h:NB}:SG prog w (h.push (nob w)) h.objs.size (fun _=>False) 0:=
 ⟨_,[],#[],0,_,Np _ rfl,⟨⟨rfl,rfl,rfl⟩,rfl,fun e he=>(nomatch he),.nil,Kd,by decide,rfl,yB _ _ _⟩,fun z=>⟨(nomatch ·),NC⟩,d_ _⟩
set_option maxHeartbeats 3200000 in
theorem xK{l:Nh}{items:Array Nf}{ns:List Int}{Q:Nf->Ni->Prop}(hh:A.handled=none)(hl:s.heap.IsList l items)(hi:IntsAre items.toList ns)(hb:items.size + 1 < scanBound)
  (h:∀(h':NB) (tk:Nat),SG prog w h' s.heap.objs.size (fun z=>z∈ns) items.size->(∀ b o,b < s.heap.objs.size->s.heap.get? b=some o->h'.get? b=some o)->Q (.ref s.heap.objs.size) { s with heap:=h',toks:=tk }) :
  Nl (Nq prog w) A (call (.type "set") [.ref l]) Q E s:=by
 obtain⟨c,tl,hmro⟩:=O_.mro
 have hmade:=O_.made
 have hsub:=O_.sub
 refine Tq (TQ ?_)
 show Nl _ _ (callAny (.type "set") _) _ _ _
 refine Nj ⟨Code.quiet_builtin _ (by decide +kernel),Oc F.entry_type_call ?_⟩
 rw[Around.under_plain (weight_type_call_type "set" [.ref l] []) rfl]
 have h1:=O_.notType
 have h2:=O_.canCreate
 have hct:=F.typeCall_set_1 (.ref l)
 repeat (any_goals (first | assumption | wp_step))
 refine OR (Ca (.ref l) (E:=E) (Q:=fun obj s₁=>obj=.ref s.heap.objs.size/\s₁={ s with heap:=s.heap.push (nob w) }) ⟨rfl,rfl⟩) fun r s₁ hr=>?_
 cases r with
 | error e=>exact hr
 | ok fl=>
  cases fl with
  | ret obj=>
   obtain⟨rfl,rfl⟩:=hr
   have hS:(s.heap.push (nob w)).get? s.heap.objs.size=some (nob w):=Np _ rfl
   have hT:Shared.TypeIs { s with heap:=s.heap.push (nob w) } (.ref s.heap.objs.size) "set":=⟨_,hS,rfl⟩
   have hli:=O_.init.lookup
   have hbi:=O_.init.bind (.ref s.heap.objs.size)
   repeat (any_goals (first | assumption | wp_step))
   refine OR (R6 (R:=wants (fun r s₂=>r=.none/\∃ h' tk,s₂={ s with heap:=h',toks:=tk }/\SG prog w h' s.heap.objs.size (fun z=>z∈ns) items.size/\(∀ b o,b < s.heap.objs.size->s.heap.get? b=some o->h'.get? b=some o)) E) O_.init.plain F.entry_set_init (check_set_init_1 hT ?_)) fun r₂ s₂ hr₂=>?_
   ·obtain⟨ol,hol,hcl,nl,hdl⟩:=hl
    obtain⟨ocls,odict,odata,oslots⟩:=ol
    simp only at hcl hdl
    subst hcl;subst hdl
    have hol':(s.heap.push (nob w)).get? l=some { cls:=.type "list",dict:=odict,data:=.seq items nl,slots:=oslots }:=Nk _ hol
    have hsls:=F.sub_list_set
    have hslf:=F.sub_list_frozenset
    have hne:(Ol "list" == Ol "dict")=false:=by decide
    have hl1:(s.heap.push (nob w)).IsList l items:=⟨_,hol',rfl,nl,rfl⟩
    unfold Ox.«set.__init__» noKeywords Ua
    generalize hPI:Qj=PI
    wp_walk
    subst hPI
    refine OB hl1 ?_
    refine Nd (RM ?_)
    have hlS:l < s.heap.objs.size:=Nt hol
    have hh3:A.in1.in1.in1.handled=none:=by simp[hh]
    have hneI:l≠(s.heap.push (nob w)).objs.size:=by rw[NY];exact r_ (Kv hlS)
    have hSf:s.heap.objs.size ∉ [(s.heap.push (nob w)).objs.size,l]:=by
     rw[NY]
     simp only[m_,w_,L5,or_false,not_or]
     exact⟨r_ (KJ _),J4 hlS⟩
    have hval:∀(i:Nat) (v:Nf),items[i]?=some v->∃ t,v=.int ((fun i=>ns.getD i 0) i) t:=fun i v hv=>IntsAre.int_at hi i v (by rw[e_];exact hv)
    refine A1 ((R1 hh3 _ l hneI items).toS) s.heap.objs.size hSf (fun i=>ns.getD i 0) hval hb (items.size - 0) 0 _ (by omega) (G_ _) ⟨⟨_,Np _ rfl,rfl,rfl⟩,(hl1.push _)⟩ ?hS0 ?hR
    case hS0=>exact(EO.at fun o e=>Nk _ e).congr fun z=>⟨NC,fun⟨j,a,_⟩=>absurd a (by omega)⟩
    case hR=>
     intro s' hm hS'
     obtain⟨h',g',d',tk',os'⟩:=s'
     have eg:g'=s.gens:=hm.gens
     have ed:d'=s.drawn:=hm.drawn
     have eo:os'=s.os:=hm.os
     subst eg;subst ed;subst eo
     refine Nj ?_
     show Nl _ _ (ret NR) _ _ _
     have nl:items.size=ns.length:=by rw[<-ik hi,f']
     refine Nj ⟨rfl,h',tk',rfl,hS'.congr fun z=>⟨fun⟨j,a,b⟩=>?_,fun q=>?_⟩,fun b o hb e=>?_⟩
     ·rw[<-b,C',a_ (by omega)]
      exact JN _
     ·obtain⟨j,a,b⟩:=Jp.mp q
      exact⟨j,by omega,by rw[C',a_ a];exact b⟩
     refine hm.heap b o ?_ (Nk _ (Nk _ e))
     rw[NY]
     simp only[m_,w_,L5,or_false,not_or]
     exact⟨r_ hb,r_ (Kv hb)⟩
   ·cases r₂ with
    | error e=>exact hr₂
    | ok fl₂=>
     cases fl₂ with
     | ret r=>
      obtain⟨rfl,h',tk,rfl,hS',hk'⟩:=hr₂
      repeat (any_goals (first | assumption | wp_step))
      exact h _ _ hS' hk'
     | _=>exact hr₂.elim
  | _=>exact hr.elim
end
open PySem PyProof.Rows
section
variable{prog:Nv}{w:NA}{A:NH}{E:Nf->Ni->Prop}{s:Ni}
theorem jz:∀ {vs:List Nf} {ns:List Int},IntsAre vs ns->vs.map ZS.bW=ns/\∀ v∈vs,∃ i t,v=.int i t/\i∈ns
 | _,_,.nil=>⟨rfl,fun v h=>(nomatch h)⟩
 | _,_,.cons n t h=>by
  obtain⟨a,b⟩:=jz h
  refine⟨by rw[f_,a];rfl,fun v hv=>?_⟩
  rcases m_.mp hv with e | hv
  ·exact⟨n,t,e,.head _⟩
  obtain⟨i,u,e,m⟩:=b v hv
  exact⟨i,u,e,.tail _ m⟩
theorem uw{a:Nh}{o:Obj}{ks:List Int}{es:Array (Int × Nf)}{ep:Nat}{t:N_}{Q:Nf->Ni->Prop}(ho:s.heap.get? a=some o)(I:SI prog w o ks es ep t)(hh:A.handled=none)
  (h:∀(out:List Nf) (ms:List Int) p c h' tk d,IntsAre out ms->ms.Perm ks->ms.Pairwise (·<=·)->s.heap.objs.size<=p->(∀ b u,s.heap.get? b=some u->h'.get? b=some u)->h'.get? p=some (N3 "list" out.toArray c)->Q (.ref p) { s with heap:=h',drawn:=d,toks:=tk }) :
  Nl (Nq prog w) A (call (.builtin "sorted") [.ref a]) Q E s:=by
 refine O3 S5 Su Sv (Sw _) ?_
 unfold Ox.«sorted»
 refine Nd (m:=TJ "sorted" 1 1 _) (Nj ?_)
 refine Nd (qp ho I hh fun h0 tk d vs le k0 pm=>?_)
 obtain⟨ns,hI,kp⟩:=fE pm.symm I.rd
 obtain⟨keys,each⟩:=jz hI
 have hz:vs.length<=sizeLine:=by rw[pm.length_eq,b_,f'];exact Pq I.sm
 refine Nd (PH ?_ hz)
 have hoL:(h0.push (N3 "list" vs.toArray 0)).get? h0.objs.size=some (N3 "list" vs.toArray 0):=Np _ rfl
 have keep:∀ b o,s.heap.get? b=some o->(h0.push (N3 "list" vs.toArray 0)).get? b=some o:=fun b o q=>Nk _ (k0 b o q)
 show Nl _ _ _ _ _ { s with heap:=h0.push (N3 "list" vs.toArray 0),drawn:=d,toks:=tk }
 have ne:∀ b o,s.heap.get? b=some o->b≠h0.objs.size:=fun b o e=>r_ (Nt (k0 b o e))
 generalize h0.push (N3 "list" vs.toArray 0)=h1 at hoL keep ⊢
 refine Nd (NJ (NX RJ ⟨_,hoL,rfl⟩ Rr ?body (RK _)))
 case body=>
  refine ZS.jA (s:={ s with heap:=h1,drawn:=d,toks:=tk }) (kd:=R4) (rk:=fun x=>ZS.rnk ZS.ltI ns (ZS.bW x.1)) (S:=fun x=>x.1∈vs) hoL hz (fun v hv=>hv) (fun h' k {Q} hne q=>?_) (fun h' k=>ZS.qv fun x hx=>each _ hx) fun out c h' g1 g2 g3 g4=>?_
  ·obtain⟨v1,vs',ev⟩:=LM hne
   rw[ev]at hI ⊢
   exact ZS.rR hI q
  obtain⟨ms,om,mp⟩:=fE g1.symm hI
  have eo:=(jz om).1
  refine⟨_,rfl,Nj ⟨_,rfl,h out ms _ c h' tk d om (mp.symm.trans kp.symm) ?_ le (fun b u e=>g3 b u (ne b u e) (keep b u e)) g4⟩⟩
  rw[<-eo,JA]
  refine JI (fun{x y} hx hy hxy=>?_) g2
  by_cases z:ZS.bW x<=ZS.bW y
  ·exact z
  have:=ZS.kS ZS.zN (ks:=ns) (a:=ZS.bW y) (b:=ZS.bW x) (by rw[<-keys];exact JK (g1.mem_iff.mp hy)) (decide_eq_true (by omega))
  exact absurd this (LR.mpr hxy)
end
end ZT
namespace L2
open PySem PySem.Spec PyProof.Rows
section
variable{X:Cx}
theorem Inv.drw {pins:List (Nh × Obj)}{s:Ni}{σ:St}{H:Hp}{d:UA}(I:Inv X pins σ H s):Inv X pins σ H { s with drawn:=d }:=⟨I.ok,I.os,I.bare,I.base,I.loc,I.cell,I.free,I.freeC,I.pin,I.hok,I.len⟩
theorem zu:∀ {vs:List Nf} {ns:List Int},IntsAre vs ns->Vals (ns.map V.int) vs
 | _,_,.nil=>.nil
 | _,_,.cons n t h=>.cons ⟨t,rfl⟩ (zu h)
theorem wL{e:Nz}{te:TE}{p1 p2 pos1 pos2:Pos}(hc:X.calm=true)(hg1:Gl X "sorted")(hm1:X.mg "sorted"=none)(hg2:Gl X "set")(hm2:X.mg "set"=none)(he:PE X e te)
  (hs1:NF [e] X.env=[(false,NS e X.env)]:=by rfl) (hs2:NF [.Call (.Name "set" p2) [e] [] pos2] X.env=[(false,NS (.Call (.Name "set" p2) [e] [] pos2) X.env)]:=by rfl) :
  PE X (.Call (.Name "sorted" p1) [.Call (.Name "set" p2) [e] [] pos2] [] pos1) (fun σ H Q=>te σ H fun x H1=>∃ l,∃ ns:List Int,x=.ref l/\SqL X.K H1 l (ns.map V.int)/\ns.length < 4095/\∀ ms:List Int,ms.Pairwise (· < ·)->(∀ z,z∈ms↔z∈ns)->New (.lst (ms.map V.int)) H1 Q):=by
 intro pins s σ H Q I h
 refine Ou (cp I hg1 hm1 boot_sorted (callWith_builtin1 ?_ (by rw[hs2];rfl) rfl))
 rw[hs2]
 refine Pg ?_
 refine Ou (cp I hg2 hm2 boot_set (callWith_type1 ?_ (by rw[hs1];rfl) rfl))
 rw[hs1]
 refine Pg (thn (he pins s σ H _ I h) ?_)
 rintro u s1 ⟨x,H1,I1,r1,l,ns,ex,hl,hz,q⟩
 subst ex
 cases r1
 obtain⟨its,rv,pl,_⟩:=I1.list hl
 have hI:=intsAre_of rv
 have ln:=ZT.ik hI
 refine Nj (ZT.xK (items:=its.toArray) (ns:=ns) (I1.ok.hd hc) pl.isList hI (by unfold scanBound;rw[q_];omega) fun h' tk SG kp=>?_)
 have k1:∀ b o,s1.heap.get? b=some o->h'.get? b=some o:=fun b o e=>kp b o (Nt e) e
 have I2:Inv X pins σ H1 { s1 with heap:=h',toks:=tk }:=I1.kept (t':=tk) k1
 obtain⟨o,ks,es,ep,t,ho,SI,mem,_⟩:=SG
 refine Nj (ZT.uw ho SI (I2.ok.hd hc) fun out ms p c h2 tk2 d om pm so le k2 e2=>?_)
 have hz2:ms.length<=16777216:=by
  have a:=SI.sm
  have b:=ZT.ik SI.rd
  rw[b_,f']at b
  rw[pm.length_eq]
  unfold scanBound at a
  omega
 have I3:=(I2.drw (d:=d)).laid (a:=p) (o:=.lst (ms.map V.int)) (t':=tk2) k2 le (show aZ X.prog X.w _ h2 _ (.lst (ms.map V.int))from⟨by rw[b_];exact hz2,out,c,zu om,e2⟩)
 refine⟨.ref p,_,I3,rfl,(q ms ?_ fun z=>?_).at (I2.hok.fresh le)⟩
 ·have nd:=pm.nodup_iff.mpr SI.nd
  exact(List.Pairwise.and so nd).imp fun⟨a,b⟩=>by omega
 rw[pm.mem_iff]
 exact mem z
end
end L2
namespace PL
open PySem PySem.Spec PyProof.Rows L2
section
variable{X:Cx}
noncomputable def Ge:T->(T->Prop)->Prop
 | .lst _ ts,k=>got (intsOf ts) fun ns=>ns.length < 4095/\∀ ms:List Int,ms.Pairwise (· < ·)->(∀ z,z∈ms↔z∈ns)->k (.lst true (ms.map T.int))
 | _,_=>False
theorem gF{e:Nz}{fe:PF}{p1 p2 pos1 pos2:Pos}(hc:X.calm=true)(hg1:Gl X "sorted")(hm1:X.mg "sorted"=none)(hg2:Gl X "set")(hm2:X.mg "set"=none)(he:GE X e fe)
  (hs1:NF [e] X.env=[(false,NS e X.env)]:=by rfl) (hs2:NF [.Call (.Name "set" p2) [e] [] pos2] X.env=[(false,NS (.Call (.Name "set" p2) [e] [] pos2) X.env)]:=by rfl) :
  GE X (.Call (.Name "sorted" p1) [.Call (.Name "set" p2) [e] [] pos2] [] pos1) (fUn Ge fe):=by
 refine PE.imp (wL hc hg1 hm1 hg2 hm2 he hs1 hs2) ?_
 rintro σ H Q ⟨env,Fr,k,rs,q,c⟩
 refine⟨env,Fr,_,rs,q,fun t env1 v H1 q1 rs1=>?_⟩
 cases t <;> first | exact NC q1 | skip
 obtain⟨ns,en,z,g⟩:=aC q1
 have et:=cz en
 subst et
 obtain⟨a,vs,rfl,hq,l,rp⟩:=aE rfl rs1.head
 have ev:=cL l rp
 subst ev
 exact⟨a,ns,rfl,hq,z,fun ms h1 h2 p H' hp g' e=>c _ _ _ _ (g ms h1 h2) (.of rs1.1 (cI (kL ms rs1.drop.2) (by rw[b_,b_]) hp g' e))⟩
theorem hC{o:Bool}{ts:List T}{k:T->Prop}:Ge (.lst o ts) k=cj (intsOf ts) (k:=⟨fun ns=>ns.length < 4095/\∀ ms:List Int,ms.Pairwise (· < ·)->(∀ z,z∈ms↔z∈ns)->k (.lst true (ms.map T.int))⟩):=rfl
end
end PL
namespace ZN
open PySem
def Ka(h0 h:NB):Prop:=∀ b o,h0.get? b=some o->h.get? b=some o
section
variable{prog:Nv}{w:NA}{A:NH}{R:Sm->Ni->Prop}{I:Nh}{fp wr:List Nh}{n:Nat}{vs:Array Nf}{St:Nat->NB->Prop}{h0:NB}{bt:Nat->Nat->Bool}{kw:List (Str × Nf)}
noncomputable def Cm(prog:Nv)(w:NA)(A:NH)(h0:NB)(vs:Array Nf)(bt:Nat->Nat->Bool):Prop:=∀(i j:Nat) (x y:Nf) (z:Ni) (Q:Nf->Ni->Prop) (E:Nf->Ni->Prop),vs[i]?=some x->vs[j]?=some y->Ka h0 z.heap->Q (.bool (bt i j)) z->Nl (Nq prog w) A (Vt .Lt x y) Q E z
theorem lpN(W:SF prog w A.in1 I fp wr n (fun i v=>vs[i]?=some v) St)(cm:Cm prog w A.in1 h0 vs bt)(S:Nh)(off:S ∉ fp)(tk:∀ b o,h0.get? b=some o->b ∉ wr/\b≠S) :
  ∀(k j:Nat) (z:Ni) (x:Nf) (c:Nat),n - (j + 1)=k->j + 1<=n->St (j + 1) z.heap->vs[Ot bt j]?=some x->Ka h0 z.heap->z.heap.get? S=some { cls:=.type "list",dict:=none,data:=.seq #[x,x] c,slots:=#[] }->
  (∀ y h' t,vs[Ot bt (n - 1)]?=some y->(∀ b o,b ∉ wr->b≠S->z.heap.get? b=some o->h'.get? b=some o)->R (.ok (.ret y)) { z with heap:=h',toks:=t })->
  OL (Nq prog w) A (.builtin "min.loop" ⟨[.ref I,.none,.ref S],kw⟩) R z:=by
 have so:S ∉ wr:=fun h=>off (W.sub _ h)
 have nm:(toString "min"++toString ".loop":String)="min.loop":=by decide
 intro k
 induction k with
 | zero=>
  intro j z x c hk hj st hx kt hS r
  have e:j + 1=n:=by omega
  refine Oc Pn ?_
  rw[N2 Oe _]
  show Nl _ A.in1 (P7 (.ref S) >>= _) _ _ z
  refine Nd (Og hS rfl ?_)
  show Nl _ A.in1 (tryCatch (OJ (.ref I)) _ >>= _) _ _ z
  refine Nd (P' (W.done z _ _ (e ▸ st) fun h' t kp=>?_))
  have hS':=kp S _ so hS
  show Nl _ A.in1 (Sy S (fun _=>#[]) >>= _) _ _ _
  refine Nd (PY hS' rfl (Nd (Pm (Nj ?_))))
  exact r x _ t (by rw[<-e];exact hx) fun b o h1 h2 q=>(NM _ _ (Oq h2)).trans (kp b o h1 q)
 | succ k ih=>
  intro j z x c hk hj st hx kt hS r
  have lt:j + 1 < n:=by omega
  refine Oc Pn ?_
  rw[N2 Oe _]
  show Nl _ A.in1 (P7 (.ref S) >>= _) _ _ z
  refine Nd (Og hS rfl ?_)
  show Nl _ A.in1 (tryCatch (OJ (.ref I)) _ >>= _) _ _ z
  refine Nd (P' (W.item (j + 1) z _ _ lt st fun y h' t hy st' kp=>?_))
  have hS':=kp S _ so hS
  have kt':Ka h0 h':=fun b o q=>kp b o (tk b o q).1 (kt b o q)
  show Nl _ A.in1 (tryCatch (PN [y,y] (Vt .Lt y x >>= _)) _ >>= _) _ _ _
  refine Nd (P' (NJ (Nd (cm (j + 1) (Ot bt j) y x _ _ _ hy hx kt' ?_))))
  refine Nd (NJ (OA ?_))
  refine Nd (Pm (Nj ?_))
  cases hb:bt (j + 1) (Ot bt j)with
  | true=>
   have ea:Ot bt (j + 1)=j + 1:=by rw[Ot,hb];rfl
   simp only[if_true]
   refine Nd (PY hS' rfl (Nd (Pm ?_)))
   rw[nm]
   refine Nj ⟨OI Oe _,ih (j + 1) _ y _ (by omega) lt (W.frame _ _ _ st' fun b bf o q=>?_) (by rw[ea];exact hy) (fun b o q=>?_) (NU _ hS' rfl) fun y2 h2 t2 g1 g2=>?_⟩
   ·exact(NM _ _ (fun e:S=b=>off (by rw[e];exact bf))).trans q
   ·exact(NM _ _ (Oq (tk b o q).2)).trans (kt' b o q)
   ·exact r y2 h2 t2 g1 fun b o m1 m2 q=>g2 b o m1 m2 ((NM _ _ (Oq m2)).trans (kp b o m1 q))
  | false=>
   have ea:Ot bt (j + 1)=Ot bt j:=by rw[Ot,hb];rfl
   simp only[Ji,if_false]
   refine Nd (Pm ?_)
   rw[nm]
   refine Nj ⟨OI Oe _,ih (j + 1) _ x c (by omega) lt st' (by rw[ea];exact hx) kt' hS' fun y2 h2 t2 g1 g2=>?_⟩
   exact r y2 h2 t2 g1 fun b o m1 m2 q=>g2 b o m1 m2 (kp b o m1 q)
theorem IQ(W:SF prog w A.in1 I fp wr n (fun i v=>vs[i]?=some v) St)(cm:Cm prog w A.in1 h0 vs bt)(S:Nh)(off:S ∉ fp)(tk:∀ b o,h0.get? b=some o->b ∉ wr/\b≠S)(hn:0 < n){z:Ni}{c:Nat}(st:St 0 z.heap)(kt:Ka h0 z.heap)
  (hS:z.heap.get? S=some { cls:=.type "list",dict:=none,data:=.seq #[] c,slots:=#[] })
  (r:∀ y h' t,vs[Ot bt (n - 1)]?=some y->(∀ b o,b ∉ wr->b≠S->z.heap.get? b=some o->h'.get? b=some o)->R (.ok (.ret y)) { z with heap:=h',toks:=t }) :
  OL (Nq prog w) A (.builtin "min.loop" ⟨[.ref I,.none,.ref S],kw⟩) R z:=by
 have so:S ∉ wr:=fun h=>off (W.sub _ h)
 have nm:(toString "min"++toString ".loop":String)="min.loop":=by decide
 refine Oc Pn ?_
 rw[N2 Oe _]
 show Nl _ A.in1 (P7 (.ref S) >>= _) _ _ z
 refine Nd (Og hS rfl ?_)
 show Nl _ A.in1 (tryCatch (OJ (.ref I)) _ >>= _) _ _ z
 refine Nd (P' (W.item 0 z _ _ hn st fun y h' t hy st' kp=>?_))
 have hS':=kp S _ so hS
 have kt':Ka h0 h':=fun b o q=>kp b o (tk b o q).1 (kt b o q)
 show Nl _ A.in1 (Sy S (fun _=>#[y,y]) >>= _) _ _ _
 refine Nd (PY hS' rfl ?_)
 rw[nm]
 refine Nj ⟨OI Oe _,lpN W cm S off tk _ 0 _ y _ rfl hn (W.frame _ _ _ st' fun b bf o q=>?_) hy (fun b o q=>?_) (NU _ hS' rfl) fun y2 h2 t2 g1 g2=>?_⟩
 ·exact(NM _ _ (fun e:S=b=>off (by rw[e];exact bf))).trans q
 ·exact(NM _ _ (Oq (tk b o q).2)).trans (kt' b o q)
 exact r y2 h2 t2 g1 fun b o m1 m2 q=>g2 b o m1 m2 ((NM _ _ (Oq m2)).trans (kp b o m1 q))
theorem GC{d:Nf}{nm':Str}(W:SF prog w A.in1 I fp wr 0 (fun i v=>vs[i]?=some v) St)(S:Nh)(off:S ∉ fp){z:Ni}{c:Nat}(st:St 0 z.heap)
  (hS:z.heap.get? S=some { cls:=.type "list",dict:=none,data:=.seq #[] c,slots:=#[] })
  (r:∀ h' t,(∀ b o,b ∉ wr->z.heap.get? b=some o->h'.get? b=some o)->R (.ok (.ret d)) { z with heap:=h',toks:=t }) :
  OL (Nq prog w) A (.builtin "min.loop" ⟨[.ref I,.none,.ref S],[(nm',d)]⟩) R z:=by
 refine Oc Pn ?_
 rw[N2 Oe _]
 show Nl _ A.in1 (P7 (.ref S) >>= _) _ _ z
 refine Nd (Og hS rfl ?_)
 show Nl _ A.in1 (tryCatch (OJ (.ref I)) _ >>= _) _ _ z
 refine Nd (P' (W.done z _ _ st fun h' t kp=>?_))
 exact Nd (OZ (Nj (r h' t kp)))
end
end ZN
namespace L2
open PySem PySem.Spec PyProof.Rows
section
variable{X:Cx}
def gbI(ns:List Int)(i j:Nat):Bool:=decide (ns.getD i 0 < ns.getD j 0)
theorem Cr{prog:Nv}{w:NA}{A:NH}{E:Nf->Ni->Prop}{s:Ni}{id:String}{b:Ox}{args:List Nf}{kw:List (Str × Nf)}{Q:Nf->Ni->Prop}(hk:builtinKind id=none)(hp:plainId id=true)(hb:Tg VB id=some b)(ha:Rb id ⟨args,kw⟩)
  (hc:Nl (Nq prog w) A.in1 (b ⟨args,kw⟩) (fun fin z=>match fin with
   | .done f=>(match(Except.ok f:Sm)with | .ok (.ret v)=>Q v z | .ok _=>False | .error e=>E e z)
   | .again c=>c.quiet=true/\OL (Nq prog w) A c (fun r y=>match r with | .ok (.ret v)=>Q v y | .ok _=>False | .error e=>E e y) z) E s):Nl (Nq prog w) A (call (.builtin id) args kw) Q E s:=by
 refine Tq (R6 hp hb ?_)
 simp only[Ti,hk]
 cases hsig:VJ id with
 | none=>exact Nj hc
 | some sig=>
  have e:Bind.checkArgs id sig ⟨args,kw⟩=pure ():=by simpa only[Rb,hsig]using ha
  simp only[e]
  exact Nj hc
theorem wz(x y:Nf):Rb "min" ⟨[x],[(N7 "default",y)]⟩:=by unfold Rb;kernel_rfl
theorem xR{pins:List (Nh × Obj)}{σ:St}{H:Hp}{s:Ni}{a:Nh}{ns:List Int}{n0:Int}{t0:Tok}{Q:V->Hp->Prop}(hc:X.calm=true)(I:Inv X pins σ H s)(hq:SqL X.K H a (ns.map V.int))(q:∀ m,(ns=[]/\m=n0\/m∈ns/\∀ n∈ns,m<=n)->Q (.int m) H) :
  Nl (Nq X.prog X.w) X.A (call (.builtin "min") [.ref a] [(N7 "default",.int n0 t0)]) (EP X pins σ Q) X.xe s:=by
 obtain⟨its,rv,p,z⟩:=I.sq (b:=false) hq
 have ia:=pQ rv
 have hll:=ZM.DZ ia
 have hlt:a < s.heap.objs.size:=by
  obtain⟨o,e,_⟩:=(show s.heap.IsList a _ from p)
  exact Nt e
 have hh:X.A.in1.handled=none:=I.ok.hd hc
 have at_:∀ {l:List Nf} {n:List Int},ZM.IntsAre l n->∀(i:Nat) (x:Nf),l[i]?=some x->∃ m t,x=.int m t/\n[i]?=some m:=by
  intro l
  induction l with
  | nil=>intro n h i x e;simp at e
  | cons v l ih=>
   intro n h i x e
   cases n with
   | nil=>exact h.elim
   | cons m n=>
    cases i with
    | zero=>obtain⟨⟨t,rfl⟩,_⟩:=h;cases e;exact⟨m,t,rfl,rfl⟩
    | succ i=>exact ih h.2 i x e
 have cm:∀ A:NH,ZN.Cm X.prog X.w A s.heap its.toArray (gbI ns):=fun A i j x y z Q E hx hy kt qq=>by
  rw[Li]at hx hy
  obtain⟨m,t,rfl,e1⟩:=at_ ia i x hx
  obtain⟨m',t',rfl,e2⟩:=at_ ia j y hy
  refine richCompare_gives (op:=.Lt) (QW z m t) (QW z m' t') PySem.F.slot_int_lt PySem.F.entry_int_lt (PySem.F.args_int_lt_2 _ _) (gives_int_lt m m' t t') (fun z=>nomatch z) ?_
  unfold gbI at qq
  rw[C',C',e1,e2]at qq
  exact qq
 have nm:(toString "min"++toString ".loop":String)="min.loop":=by decide
 refine Cr PySem.F.kind_min PySem.F.plain_min PySem.F.entry_min (wz _ _) ?_
 show Nl _ X.A.in1 (QL "min" ["key","default"] 0 ⟨[],[(N7 "default",.int n0 t0)]⟩ >>= _) _ _ s
 refine Nd (Pl (show QL "min" ["key","default"] 0 ⟨[],[(N7 "default",.int n0 t0)]⟩=pure [none,some (.int n0 t0)]from rfl) (Nd (Nj (Nd ?_))))
 refine ZG.Fi (b:=false) p fun g d gs gk=>?_
 refine Nd (NI ?_)
 rw[nm]
 have tk:∀ c o,s.heap.get? c=some o->c ∉ [s.heap.objs.size]/\c≠g.objs.size:=fun c o e=>by
  have h1:@LT.lt Nat instLTNat c s.heap.objs.size:=Nt e
  refine⟨fun z=>r_ h1 (w_.mp z),?_⟩
  rw[gs]
  show ¬(_:Nat)=_
  omega
 have off:g.objs.size ∉ [s.heap.objs.size,a]:=fun z=>by
  rw[gs]at z
  have h1:@LT.lt Nat instLTNat a s.heap.objs.size:=hlt
  rcases m_.mp z with z | z
  ·exact absurd z (by show ¬(_:Nat)=_;omega)
  exact absurd (w_.mp z) (by show ¬(_:Nat)=_;omega)
 refine Nj ⟨OI Oe _,?_⟩
 have st1:(g.push { cls:=.type "list",data:=.seq ([]:List Nf).toArray }).IsListIter s.heap.objs.size a 0:=by
  obtain⟨o,e,r⟩:=(show g.IsListIter s.heap.objs.size a 0 from d)
  exact⟨o,Nk _ e,r⟩
 have st2:(g.push { cls:=.type "list",data:=.seq ([]:List Nf).toArray }).IsList a its.toArray:=by
  obtain⟨o,e,r⟩:=(show s.heap.IsList a _ from p)
  exact⟨o,Nk _ (gk _ o e),r⟩
 by_cases hn:ns=[]
 ·subst hn
  have ei:its=[]:=Je hll
  subst ei
  exact ZN.GC (R1 hh s.heap.objs.size a (r_ hlt) ([]:List Nf).toArray) g.objs.size off ⟨st1,st2⟩ (Np _ rfl) fun h' t kk=>⟨.int n0,H,I.kept (t':=t) fun c o e=>kk c o (tk c o e).1 (Nk _ (gk c o e)),⟨_,rfl⟩,q n0 (.inl ⟨rfl,rfl⟩)⟩
 have hpos:0 < its.toArray.size:=by
  rw[q_,hll]
  exact JQ fun z=>hn (Je z)
 refine ZN.IQ (R1 hh s.heap.objs.size a (r_ hlt) its.toArray) (cm _) g.objs.size off tk hpos ⟨st1,st2⟩ (fun c o e=>Nk _ (gk c o e)) (Np _ rfl) fun y h' t hy kk=>?_
 have kk':∀ c o,s.heap.get? c=some o->h'.get? c=some o:=fun c o e=>kk c o (tk c o e).1 (tk c o e).2 (Nk _ (gk c o e))
 obtain⟨b1,b2⟩:=ZM.Bw (bt:=gbI ns) (fun i j k h1 h2=>by
  unfold gbI at h1 h2 ⊢
  have h1:=of_decide_eq_true h1
  have h2:=of_decide_eq_true h2
  exact decide_eq_true (by omega)) (fun i=>by unfold gbI;exact decide_eq_false (by omega)) (its.toArray.size - 1)
 rw[Li]at hy
 obtain⟨m,t',rfl,em⟩:=at_ ia _ _ hy
 refine⟨.int m,H,I.kept (t':=t) kk',⟨_,rfl⟩,q m (.inr ⟨y_ em,fun n hm=>?_⟩)⟩
 obtain⟨j,hj,rfl⟩:=Jp.mp hm
 have this:decide (ns.getD j 0 < ns.getD (Ot (gbI ns) (its.toArray.size - 1)) 0)=false:=b2 j (by rw[q_,hll];omega)
 rw[C',C',em,a_ hj]at this
 have:=of_decide_eq_false this
 exact Int.not_lt.mp this
theorem Cq{e:Nz}{te:TE}{p1 pos1 kp vp:Pos}{kn:Nat}{n0:Int}(hc:X.calm=true)(hg1:Gl X "min")(hm1:X.mg "min"=none)(he:PE X e te)(hs1:NF [e] X.env=[(false,NS e X.env)]:=by rfl) :
  PE X (.Call (.Name "min" p1) [e] [⟨some "default",(.Constant (.int n0) kn vp),kp⟩] pos1) (fun σ H Q=>te σ H fun x H1=>∃ a ns,x=.ref a/\SqL X.K H1 a (ns.map V.int)/\∀ m,(ns=[]/\m=n0\/m∈ns/\∀ n∈ns,m<=n)->Q (.int m) H1):=by
 intro pins s σ H Q I h
 refine Ou (cp I hg1 hm1 boot_min (callWith_kw ?_ (by rw[hs1];rfl) (by rw[hs1];rfl) rfl rfl))
 rw[hs1]
 refine Pg (thn (he pins s σ H _ I h) ?_)
 rintro u s1 ⟨x,H1,I1,r1,l,ns,ex,hl,q⟩
 subst ex
 cases r1
 refine Nj ?_
 refine kws_cons (Sg (kws_nil ?_))
 show Nl _ _ (call (.builtin "min") [.ref l] [(N7 "default",.int n0 _)]) _ _ _
 exact xR hc (I1.tok _) hl q
end
end L2
namespace PL
open PySem PySem.Spec PyProof.Rows L2
def GY:P2
 | .int i,.int j,k=>k (.int (OM i j))
 | _,_,_=>False
noncomputable def uq:PM
 | .lst true ts,[.int i],k=>(0<=i/\i < 2 ^ 60)/\got (ts[i.toNat]?) fun t=>k (.lst true (ts.eraseIdx i.toNat)) t
 | _,_,_=>False
def xU:P2
 | .lst true [t],.int n,k=>(0<=n/\n<=100000)/\k (.lst true (t_ n.toNat (er t)))
 | _,_,_=>False
noncomputable def mnD(n0:Int):T->(T->Prop)->Prop
 | .lst _ ts,k=>got (intsOf ts) fun ns=>∀ m,(ns=[]/\m=n0\/m∈ns/\∀ n∈ns,m<=n)->k (.int m)
 | _,_=>False
def Hj:PSt:=fun _ _=>False
section
variable{X:Cx}{pos:Pos}{e:Nz}{es:List Nz}{fe:PF}{fr:PFs}{m:PM}{name:Str}{id:String}{apos cpos spos xp yp kp vp p1 pos1:Pos}{x:Str}{κ:Nat->Bool}{kn:Nat}
theorem HB:PIp X .BitOr (ipI fun i j=>OM i j):=by
 intro pins s σ H x y v u Q I r1 r2 h
 obtain⟨i,j,e1,e2,q⟩:=h
 subst e1;subst e2
 obtain⟨t,rfl⟩:=r1
 obtain⟨t',rfl⟩:=r2
 exact ior_int ⟨.int _,H,I.tok _,⟨_,rfl⟩,q⟩
theorem tZ:IpP X .BitOr GY:=by
 rintro pins s σ H x y v u Q I rx ry ⟨tx,ty,Γ,k,rp,g,c⟩
 cases tx <;> cases ty <;> first | exact NC g | skip
 rename_i i j
 rw[aF rp]at ry
 rw[aF rp.tail]at rx
 exact HB pins s σ H _ _ v u Q I rx ry ⟨i,j,rfl,rfl,c _ _ _ g (bg rp.tail.tail fun _=>.int)⟩
theorem oj:∀ {ts:List T} {vs:List V} {i:Nat} {t:T} {w:V},ts[i]?=some t->vs[i]?=some w->(zz ts vs).Perm ((t,some w)::zz (ts.eraseIdx i) (vs.eraseIdx i))
 | [],vs,i,t,w,e,f=>by simp at e
 | t::ts,[],i,_,w,e,f=>by simp at f
 | t::ts,v::vs,0,u,w,e,f=>by cases e;cases f;exact .refl _
 | t::ts,v::vs,i + 1,u,w,e,f=>((oj (ts:=ts) (vs:=vs) (i:=i) e f).cons _).trans (.swap _ _ _)
theorem wD:MtP X "list.pop" uq:=by
 rintro pins s σ H x xs v us Q I rx r ⟨t,ts,Γ,k,l,rp,g,c⟩
 unfold uq at g
 split at g
 ·rename_i k ts i
  obtain⟨y,rfl⟩:=zz1 l rfl
  obtain⟨⟨h0,h1⟩,g⟩:=g
  obtain⟨t,et,kt⟩:=aC g
  obtain⟨a,vs,ea,ha,la,rp2⟩:=fw rp
  cases ea
  have hy:y=.int i:=aF (rp2.perm ((A_ _ _ _).cons _ |>.trans (.swap _ _ _)))
  subst hy
  have hi:i.toNat < ts.length:=(c_.mp et).1
  obtain⟨w,ew⟩:=oA la et
  refine Ak pins s σ H _ _ v us Q I rx r ⟨a,vs,i,i.toNat,w,rfl,rfl,ha,by omega,by omega,TU h0 (by rw[<-la];omega),ew,c _ _ _ _ kt ?_⟩
  have rp3:Rp X.K H ((.bare,some (.ref a))::(zz ts vs++Γ)):=by
   have:Rp X.K H ((.int i,some (.int i))::((.bare,some (.ref a))::(zz ts vs++Γ))):=rp2.perm (by
    refine I_ (.cons _ h_) ?_
    exact .swap _ _ _)
   exact this.tail
  have rp4:Rp X.K H ((.bare,some (.ref a))::(zz (ts.eraseIdx i.toNat) (vs.eraseIdx i.toNat)++((t,some w)::Γ))):=rp3.perm (.cons _ (((oj et ew).append_right Γ).trans h_.symm))
  exact(eN rp4 (by rw[Mo,Mo,la]) Put.up).perm (.swap _ _ _)
 exact NC g
theorem vS{H:Hp}{t:T}{v:V}{Γ:Fm}(n:aX t=true):∀(k:Nat),Rp X.K H ((t,some v)::Γ)->Rp X.K H (zz (t_ k t) (t_ k v)++((t,some v)::Γ))
 | 0,h=>h
 | k + 1,h=>by
  have:=vS n k h
  have h2:=jE (this.perm (h_ (l₁:=zz (t_ k t) (t_ k v)))) n
  exact h2.perm (.cons _ h_.symm)
theorem kZ:OpP X (N9 .Mult) xU:=by
 rintro pins s σ H x y v u Q I rx ry ⟨tx,ty,Γ,k,rp,g,c⟩
 unfold xU at g
 split at g
 ·rename_i k t n
  rw[aF rp]at ry
  obtain⟨a,vs,ea,ha,la,rp2⟩:=fw rp.tail
  cases ea
  cases vs with
  | nil=>cases la
  | cons w vs=>
   cases vs with
   | cons _ _=>cases la
   | nil=>
    have rp3:Rp X.K H ((t,some w)::Γ):=rp2.tail
    have rp4:=vS (bF t) n.toNat (pM rp3)
    have rp5:Rp X.K H (zz (t_ n.toNat (er t)) (t_ n.toNat w)++Γ):=(rp4.perm h_).tail
    have sz:n.toNat<=sizeLine:=by rw[NQ];omega
    refine F7 pins s σ H _ _ v u Q I rx ry ⟨a,n,[w],rfl,rfl,ha,by omega,by omega,by rw[JO,Nat.one_mul];exact sz,fun p hp=>c _ _ _ g.2 ?_⟩
    have ef:(t_ n.toNat [w]).flatten=t_ n.toNat w:=by
     generalize n.toNat=j
     induction j with
     | zero=>rfl
     | succ j ih=>rw[Jz,Kt,ih,Jz];rfl
    rw[ef]
    exact cI rp5 (by rw[Kw,Kw]) hp (aV hp _) ay
 exact NC g
theorem AB{n0:Int}(hc:X.calm=true)(hg1:Gl X "min")(hm1:X.mg "min"=none)(he:GE X e fe)(hs1:NF [e] X.env=[(false,NS e X.env)]:=by rfl) :
  GE X (.Call (.Name "min" p1) [e] [⟨some "default",.Constant (.int n0) kn vp,kp⟩] pos1) (fUn (mnD n0) fe):=by
 refine PE.imp (Cq hc hg1 hm1 he hs1) ?_
 rintro σ H Q ⟨env,Fr,k,rs,q,c⟩
 refine⟨env,Fr,_,rs,q,fun t env1 v H1 q1 rs1=>?_⟩
 cases t <;> first | exact NC q1 | skip
 obtain⟨ns,en,g⟩:=aC q1
 have:=cz en
 subst this
 obtain⟨a,vs,rfl,hq,l,rp⟩:=aE rfl rs1.head
 have:=cL l rp
 subst this
 exact⟨a,ns,rfl,hq,fun m hm=>c _ _ _ _ (g m hm) (.of rs1.1 (bg rs1.drop.2 fun _=>.int))⟩
theorem Bq{st:NZ}:GS κ X st Hj:=by
 rintro pins s σ H D I ⟨env,Fr,pe,rs,q,c⟩
 exact q.elim
end
theorem ip{i j:Int}{k:T->Prop}:GY (.int i) (.int j) k=k (.int (OM i j)):=rfl
theorem cZ{ts:List T}{i:Int}{k:T->T->Prop}:uq (.lst true ts) [.int i] k=((0<=i/\i < 2 ^ 60)/\cj (ts[i.toNat]?) (k:=⟨fun t=>k (.lst true (ts.eraseIdx i.toNat)) t⟩)):=rfl
theorem eD{t:T}{n:Int}{k:T->Prop}:xU (.lst true [t]) (.int n) k=((0<=n/\n<=100000)/\k (.lst true (t_ n.toNat (er t)))):=rfl
theorem mM{n0:Int}{o:Bool}{ts:List T}{k:T->Prop}:mnD n0 (.lst o ts) k=cj (intsOf ts) (k:=⟨fun ns=>∀ m,(ns=[]/\m=n0\/m∈ns/\∀ n∈ns,m<=n)->k (.int m)⟩):=rfl
end PL
namespace Mp
open PySem L2
def top(i:Nat):NZ:=PySem.Challenge.pw_millpath_k59_many_jobs.main.body.getD i (.Pass ⟨0,0,0,0⟩)
abbrev js:NZ:=top 4
abbrev lU:NZ:=top 5
abbrev gv:NZ:=top 6
abbrev ji:NZ:=top 7
abbrev pV:NZ:=top 8
abbrev gp:NZ:=top 9
abbrev cW:NZ:=top 11
abbrev cD:NZ:=top 12
abbrev bY:NZ:=top 13
abbrev gh:NZ:=top 14
abbrev kM:NZ:=top 16
abbrev qf:NZ:=top 17
abbrev s_same:NZ:=top 18
abbrev t6:NZ:=top 19
abbrev j9:NZ:=top 20
abbrev cq:NZ:=top 21
abbrev fT:NZ:=top 22
abbrev fU:NZ:=top 23
abbrev cX:NZ:=top 24
abbrev pS:NZ:=top 25
abbrev eX:NZ:=top 26
theorem ra{kvs:List (Key × V)}{k:Key}{v:V}:ck ((k,v)::kvs) k=some v:=by
 unfold ck
 rw[Jn,show(decide ((k,v).1=k))=true from decide_eq_true rfl]
 rfl
theorem nG{kvs:List (Key × V)}{k k':Key}{v:V}(h:¬ k=k'):ck ((k,v)::kvs) k'=ck kvs k':=by
 unfold ck
 rw[Jn,show(decide ((k,v).1=k'))=false from decide_eq_false h]
theorem key_ne:¬((NL (some ("cells":Str)):Key)=NL (some ("turn":Str))):=by decide +kernel
def stK(c:Nh)(t:Int):List (Key × V):=[(NL (some ("cells":Str)),V.ref c),(NL (some ("turn":Str)),V.int t)]
theorem qi(c:Nh)(t:Int):ck (stK c t) (NL (some ("cells":Str)))=some (.ref c):=ra
theorem uX(c:Nh)(t:Int):ck (stK c t) (NL (some ("turn":Str)))=some (.int t):=by
 unfold stK
 rw[nG key_ne]
 exact ra
theorem Fj(c:Nh)(t u:Int):putK (stK c t) (NL (some ("turn":Str))) (.int u)=stK c u:=by
 have e:((stK c t).any fun kv=>decide (kv.1=(NL (some ("turn":Str)):Key)))=true:=by
  rw[iR,uX];rfl
 unfold putK
 rw[if_pos e]
 show [(if(NL (some ("cells":Str)):Key)=NL (some ("turn":Str))then _ else _),(if(NL (some ("turn":Str)):Key)=NL (some ("turn":Str))then _ else _)]=stK c u
 rw[if_neg key_ne,if_pos rfl]
 rfl
structure StAt (H:Hp) (st c:Nh) (cs:List Int) (t:Int):Prop where
 d:H st=some (.dK (stK c t))
 l:H c=some (.lst (cs.map V.int))
 pos:0 < cs.length
 len:cs.length<=63
theorem StAt.ne {H:Hp}{st c:Nh}{cs:List Int}{t:Int}(S:StAt H st c cs t):st≠c:=CQ S.d S.l (by intro z;cases z)
theorem StAt.same {H H':Hp}{st c:Nh}{cs:List Int}{t:Int}(S:StAt H st c cs t)(e:aP H H'):StAt H' st c cs t:=⟨e _ _ S.d,e _ _ S.l,S.pos,S.len⟩
structure Txt (mg:Str->Option Nf):Prop where
 len:mg "len"=none
 list:mg "list"=none
 divmod:mg "divmod"=none
 isinstance:mg "isinstance"=none
 dict:mg "dict"=none
 tuple:mg "tuple"=none
 str:mg "str"=none
 int:mg "int"=none
 bool:mg "bool"=none
 all:mg "all"=none
 any:mg "any"=none
 zip:mg "zip"=none
 range:mg "range"=none
 max:mg "max"=none
 min:mg "min"=none
 abs:mg "abs"=none
 sum:mg "sum"=none
 sorted:mg "sorted"=none
 enumerate:mg "enumerate"=none
 set:mg "set"=none
 reversed:mg "reversed"=none
noncomputable def AO(K:Ng):Sp:=fun vs H Q _=>∃(a:Nh) (ns:List Int),vs=[.ref a]/\SqL K H a (ns.map V.int)/\ns.length<=63/\∀(st c:Nh) (cs:List Int) (H':Hp),H st=none->H c=none->StAt H' st c cs 0->aP H H'->Q (.ref st) H'
noncomputable def Eu:Sp:=fun vs H Q _=>∃(st c:Nh) (cs:List Int) (t m:Int),vs=[.ref st,.int m]/\StAt H st c cs t/\0<=t/\t < 2 ^ 40/\0 < m/\m < 1073741824/\
 ∀(r:Int) (cs':List Int) (H':Hp),0<=r->r < m->StAt H' st c cs' (t + 1)->Kp st c H H'->Q (.int r) H'
section
variable{P:Nv}{w:NA}{K:Ng}{mg:Str->Option Nf}{base:NB}
theorem scB:FnScope ["_law_script","_law_cells"] ["_law_script"] (aj kM):=⟨rfl,rfl,rfl,by decide +kernel,rfl,by decide +kernel,by decide +kernel⟩
theorem yh{f:Nh}{fd:NK}(F:Fun K "_law_begin" "_law_begin" kM f fd)(T:Txt mg):FnOk P w K mg base CX0 1 f fd ["_law_script"] (AO K):=by
 refine F.ok scB (fun vs H Q E h=>?_) (fun cdv A outer s H vs Q E hr h=>?_)
 ·obtain⟨a,ns,rfl,_⟩:=h
  rfl
 obtain⟨a,ns,rfl,hS,h63,q⟩:=h
 have sc:=@scB
 refine⟨_,(aM (dR (i:=1) sc.nd rfl (k_ rfl) (ny i6 (by rfl) T.list (by decide +kernel) (aq (qO vI (pv 0) vA (uL bu)) b7)))
  (aM (iA (f7 yc (pv 1) (yF b7) (aO _)) (bS (dR (i:=1) sc.nd rfl (k_ rfl) (yF (aq bu b7)))) cy)
  (bS (cQ (C0 (rm gx (pv 1) (rm gx bu AL)) rfl rfl (by intro z;cases z) (by decide)))))),?_⟩
 refine⟨_,rfl,_,rfl,a,_,rfl,hS,fun p hp=>⟨p,_,rfl,.inl (SqL.of ay),fun l hl=>?_⟩⟩
 obtain⟨zs,ez,lz⟩:∃ zs:List Int,eL (ns.map V.int) none (some 63)=zs.map V.int/\zs.length<=63:=by
  refine⟨_,by unfold eL;rw[<-List.map_drop,<-MX],?_⟩
  exact v_ (List.length_take_le' _ _) (v_ (by rw[Jl];omega) h63)
 have hp0:H p=none:=hp
 have hl0:H l=none:=(aV hp _).none hl
 have g1:aP H (upd (upd H p (.lst (eL (ns.map V.int) none (some 63)))) l (.lst (eL (ns.map V.int) none (some 63)))):=(aV hp _).trans' (aV hl _)
 refine⟨_,rfl,(by show 0<=sizeLine;decide),fun e he=>?_⟩
 have hul:∀ o,upd (upd (upd H p (.lst (eL (ns.map V.int) none (some 63)))) l (.lst (eL (ns.map V.int) none (some 63)))) e o l=some (.lst (zs.map V.int)):=fun o=>by
  rw[au (aY ay he),ay,ez]
 have he0:H e=none:=g1.none he
 have g2:=g1.trans' (aV he (.lst []))
 refine⟨.lst (di zs),.lst (di []),rK (SqL.of (hul _)),rK (SqL.of ay),?_,_,rfl,?_⟩
 ·have:=fO hr
  rw[dpt,nK]
  exact this
 have fin:∀(c:Nh) (cs:List Int) (H2:Hp),H c=none->aP H H2->H2 c=some (.lst (cs.map V.int))->0 < cs.length->cs.length<=63->∀ p,H2 p=none->StAt (upd (upd H2 p (.dK [])) p (.dK (dY [] [(NL (some ("cells":Str)),V.ref c),(NL (some ("turn":Str)),V.int 0)]))) p c cs 0/\aP H (upd (upd H2 p (.dK [])) p (.dK (dY [] [(NL (some ("cells":Str)),V.ref c),(NL (some ("turn":Str)),V.int 0)]))):=fun c cs H2 hc g h1 h2 h3 p hp=>by
  have em:dY [] [((NL (some ("cells":Str)):Key),V.ref c),(NL (some ("turn":Str)),V.int 0)]=stK c 0:=by
   show putK (putK ([]:List (Key × V)) (NL (some ("cells":Str))) (V.ref c)) (NL (some ("turn":Str))) (V.int 0)=stK c 0
   rw[qh _ (show ck ([]:List (Key × V)) (NL (some ("cells":Str)))=none from rfl),KU,qh _ (show ck [((NL (some ("cells":Str)):Key),V.ref c)] (NL (some ("turn":Str)))=none by rw[nG key_ne];rfl)]
   rfl
  rw[em,C6]
  exact⟨⟨ay,by rw[au (aY h1 hp)];exact h1,h2,h3⟩,g.trans' (aV hp _)⟩
 refine HD (fun c=>?_) (fun c=>?_)
 ·
  refine⟨(by show 1<=sizeLine;decide),fun c7 h7=>?_⟩
  have g3:=g2.trans' (aV h7 (.lst [V.int 7]))
  intro p' hp'
  obtain⟨S,g4⟩:=fin c7 [7] _ (g2.none h7) g3 ay (by decide) (by decide) p' hp'
  refine⟨_,rfl,?_,[(NL (some ("cells":Str)),V.ref c7),(NL (some ("turn":Str)),V.int 0)],rfl,(by show 2<=15;decide),?_⟩
  ·exact ay
  exact q p' c7 [7] _ (g3.none hp') (g2.none h7) S g4
 have c0:0 < zs.length:=by
  cases zs with
  | nil=>rw[eS]at c;cases c
  | cons a r=>exact Nat.succ_pos _
 intro p' hp'
 obtain⟨S,g4⟩:=fin l zs _ hl0 g2 (hul _) c0 lz p' hp'
 refine⟨_,rfl,?_,[(NL (some ("cells":Str)),V.ref l),(NL (some ("turn":Str)),V.int 0)],rfl,(by show 2<=15;decide),?_⟩
 ·exact ay
 exact q p' l zs _ (g2.none hp') hl0 S g4
theorem scT:FnScope ["_law_state","_law_many","_law_turn","_law_place","_law_cell","_law_digit","_law_mixed"] ["_law_state","_law_many"] (aj qf):=⟨rfl,rfl,rfl,by decide +kernel,rfl,by decide +kernel,by decide +kernel⟩
theorem Ba{f:Nh}{fd:NK}(F:Fun K "_law_take" "_law_take" qf f fd)(T:Txt mg):FnOk P w K mg base CX0 1 f fd ["_law_state","_law_many"] Eu:=by
 refine F.ok scT (fun vs H Q E h=>?_) (fun cdv A outer s H vs Q E hr h=>?_)
 ·obtain⟨st,c,cs,t,m,rfl,_⟩:=h
  rfl
 obtain⟨st,c,cs,t,m,rfl,S,ht0,ht,hm0,hm1,q⟩:=h
 have sc:=@scT
 have hu:=fO hr
 refine⟨_,(aM (dR (i:=2) sc.nd rfl (k_ rfl) (bQ lX (kF hu (pv 0) gx (fun _ _=>rfl)) bu))
  (aM (Az hu (pv 0) gx (pv 2) rfl)
  (aM (dR (i:=3) sc.nd rfl (k_ rfl) (bQ jI (pv 2) (aQ cu (by rfl) T.len (by decide +kernel) (aq (kF hu (pv 0) gx (fun _ _=>rfl)) b7))))
  (aM (dR (i:=4) sc.nd rfl (k_ rfl) (D8 vw (kF hu (pv 0) gx (fun _ _=>rfl)) (pv 3) (fun _ _=>rfl)))
  (aM (iA (f7 Gw (pv 4) (bQ Fh bu bu) (aO _)) (aM (xQ (aQ r6 (by rfl) T.divmod (by decide +kernel) (aq (pv 4) (aq (pv 1) b7))) (ux rfl (dZ (yR (kF hu (pv 0) gx (fun _ _=>rfl)) (pv 3) set_list) (dZ (kN (i:=5) sc.nd rfl (k_ rfl)) pK))))
  (bS (cQ (pv 5)))) cy)
  (aM (dR (i:=6) sc.nd rfl (k_ rfl) (bQ jI (bQ jB (bQ lX (bQ lX (bQ jI (pv 4) bu) (bQ jB (bQ jB (pv 2) (pv 2)) bu)) bu) bu) bu))
  (aM (dR (i:=6) sc.nd rfl (k_ rfl) (bQ jI (bQ jB (pv 6) (pv 6)) bu))
  (bS (cQ (bQ jI (bQ BV (bQ jI (bQ jB (bQ lX (pv 6) (bQ jB (pv 2) bu)) bu) bu) bu) (pv 1))))))))))),?_⟩
 have D0:gJ H st (.str ("turn":Str)) (some (.int t)):=by rw[<-uX c t];exact gJ.k (k:=NL (some ("turn":Str))) S.d
 refine⟨_,rfl,st,_,rfl,D0,_,_,rfl,rfl,?_⟩
 have hP:wy H st (.str ("turn":Str)) (.int (t + 1)) (upd H st (.dK (stK c (t + 1)))):=by
  rw[<-Fj c t (t + 1)]
  exact wy.k (k:=NL (some ("turn":Str))) S.d (by show 2 < sizeLine;decide)
 refine⟨_,rfl,_,rfl,st,_,rfl,hP,?_⟩
 have S1:StAt (upd H st (.dK (stK c (t + 1)))) st c cs (t + 1):=⟨ay,by rw[au S.ne.symm];exact S.l,S.pos,S.len⟩
 have K1:Kp st c H (upd H st (.dK (stK c (t + 1)))):=fun b o e n1 n2=>by rw[au n1];exact e
 generalize upd H st (.dK (stK c (t + 1)))=H1 at S1 K1 ⊢
 have D1:gJ H1 st (.str ("cells":Str)) (some (.ref c)):=by rw[<-qi c (t + 1)];exact gJ.k (k:=NL (some ("cells":Str))) S1.d
 have hl:(cs.map V.int).length=cs.length:=b_ _
 have hpos:(0:Int) < (((cs.map V.int).length:Nat):Int):=by rw[hl];have:=S.pos;omega
 refine⟨_,rfl,_,rfl,st,_,rfl,D1,c,_,rfl,.inl (SqL.of S1.l),_,_,rfl,rfl,hpos,?_⟩
 have j0:0<=(t + 1) % (((cs.map V.int).length:Nat):Int):=Lo _ (by omega)
 have j1:(t + 1) % (((cs.map V.int).length:Nat):Int) < (cs.length:Int):=by
  have:=K9 (t + 1) hpos
  rw[hl]at this ⊢
  exact this
 obtain⟨v,hat⟩:∃ v:Int,atI (cs.map V.int) ((t + 1) % (((cs.map V.int).length:Nat):Int))=some (.int v):=⟨_,A0 j0 j1⟩
 refine⟨_,rfl,st,_,rfl,D1,_,rfl,c,_,_,_,rfl,rfl,SqL.of S1.l,hat,?_⟩
 refine⟨_,rfl,_,_,rfl,rfl,⟨by decide,by decide,by decide⟩,_,_,rfl,rfl,_,rfl,?_⟩
 refine HD (fun hc=>?_) (fun hc=>?_)
 ·
  refine⟨_,rfl,_,rfl,_,_,rfl,⟨hm0,hm1⟩,fun p hp=>?_⟩
  have g:=aV hp (.tup [.int (v / m),.int (v % m)])
  have S2:=S1.same g
  have D2:gJ (upd H1 p (.tup [.int (v / m),.int (v % m)])) st (.str ("cells":Str)) (some (.ref c)):=by rw[<-qi c (t + 1)];exact gJ.k (k:=NL (some ("cells":Str))) S2.d
  refine⟨p,_,rfl,SqT.of ay,rfl,_,_,rfl,?_⟩
  refine⟨_,rfl,st,_,rfl,D2,_,rfl,c,_,_,((t + 1) % (((cs.map V.int).length:Nat):Int)).toNat,rfl,rfl,S2.l,uD j0 (by rw[hl];rw[hl]at j1;exact j1),?_⟩
  refine⟨_,_,rfl,rfl,?_⟩
  refine⟨_,rfl,?_⟩
  have es:∀ j:Nat,(cs.map V.int).set j (.int (v / m))=(cs.set j (v / m)).map V.int:=fun j=>by rw[MC]
  refine q (v % m) (cs.set ((t + 1) % (((cs.map V.int).length:Nat):Int)).toNat (v / m)) _ (Lo _ (by omega)) (K9 _ hm0) ⟨?_,?_,?_,?_⟩ ?_
  ·rw[au S2.ne];exact S2.d
  ·rw[ay,es]
  ·rw[Jg];exact S.pos
  ·rw[Jg];exact S.len
  intro b o e n1 n2
  rw[au n2]
  exact g b o (K1 b o e n1 n2)
 
 have mulR:∀(x y:Int),-(2 ^ 64) < y->y < 2 ^ 64->AH x y:=fun x y h1 h2=>.inr ⟨h1,h2⟩
 refine⟨_,rfl,_,_,rfl,rfl,(by show(0:Int) < 2147483629;decide),_,rfl,_,rfl,_,_,rfl,rfl,mulR _ _ (by omega) (by omega),_,_,rfl,rfl,mulR _ _ (by decide) (by decide),_,_,rfl,rfl,_,_,rfl,rfl,_,_,rfl,rfl,mulR _ _ (by decide) (by decide),_,_,rfl,rfl,(by show(0:Int) < 2147483647;decide),?_⟩
 generalize hM:(v % 2147483629 + (t + 1) * (t + 1) * 7919 + 11) * 48271 % 2147483647=M
 have m0:0<=M:=by rw[<-hM];exact Lo _ (by decide)
 have m1:M < 2147483647:=by rw[<-hM];exact K9 _ (by decide)
 refine⟨_,rfl,_,rfl,_,_,rfl,rfl,mulR _ _ (by omega) (by omega),_,_,rfl,rfl,(by show(0:Int) < 2147483587;decide),?_⟩
 refine⟨_,rfl,_,rfl,_,_,rfl,rfl,mulR _ _ (by decide) (by decide),_,_,rfl,rfl,_,_,rfl,rfl,mulR _ _ (by decide) (by decide),_,_,rfl,rfl,(by show(0:Int) < 2147483629;decide),_,_,rfl,rfl,⟨by decide,by decide⟩,_,rfl,_,_,rfl,rfl,hm0,?_⟩
 exact q _ cs H1 (Lo _ (by omega)) (K9 _ hm0) S1 K1
end
mutual
def gd:Dt->Bool
 | .bl _=>false
 | .lst ds=>decide (ds.length<=100000) && gdL ds
 | .tup ds=>decide (ds.length<=100000) && gdL ds
 | _=>true
def gdL:List Dt->Bool
 | []=>true
 | d::r=>gd d && gdL r
end
theorem oC:∀ {ds:List Dt} {i:Nat} {d:Dt},gdL ds=true->ds[i]?=some d->gd d=true
 | [],i,d,_,e=>by simp at e
 | c::r,0,d,h,e=>by
  rw[gdL,E_]at h
  simp at e
  subst e
  exact h.1
 | c::r,i + 1,d,h,e=>by
  rw[gdL,E_]at h
  exact oC h.2 (i:=i) (by simpa using e)
noncomputable def jD(K:Ng)(n:Nat):Sp:=fun vs H Q _=>∃(x y:V) (d:Dt),vs=[x,y]/\Has K H d x/\Has K H d y/\gd d=true/\dpt d < n/\∀ H',aP H H'->Q (.bl true) H'
theorem qD{α:Type}(n:Nat)(c:α):(o_ n).map (fun _=>c)=t_ n c:=by
 induction n with
 | zero=>rfl
 | succ n ih=>rw[Kh,z_,ih,List.map_singleton,List.replicate_succ']
theorem jM(n:Nat):(o_ n).filter (fun _=>true)=o_ n:=by simp
section
variable{P:Nv}{w:NA}{K:Ng}{mg:Str->Option Nf}{base:NB}
theorem scS:FnScope ["_law_found","_law_due"] ["_law_found","_law_due"] (aj s_same):=⟨rfl,rfl,rfl,by decide +kernel,rfl,by decide +kernel,by decide +kernel⟩
set_option maxHeartbeats 1000000 in
theorem Be{n:Nat}{f:Nh}{fd:NK}(F:Fun K "_law_same" "_law_same" s_same f fd)(T:Txt mg)(G_same:Cal P w K mg base n "_law_same" ["_law_found","_law_due"] (jD K n)) :
  FnOk P w K mg base CX0 (n + 1) f fd ["_law_found","_law_due"] (jD K (n + 1)):=by
 refine F.ok scS (fun vs H Q E h=>?_) (fun cdv A outer s H vs Q E hr h=>?_)
 ·obtain⟨x,y,d,rfl,_⟩:=h
  rfl
 obtain⟨x,y,d,rfl,hx,hy,hg,hd,q⟩:=h
 have sc:=@scS
 have nd2:(["_law_one","_law_other"]:List Str).Nodup:=by decide +kernel
 refine⟨_,(aM (iA (ET (yS (pv 1))) (bS (cQ (Fx (yS (pv 0))))) cy)
  (aM (iA (oH (aQ aS (by rfl) T.isinstance (by decide +kernel) (aq (pv 1) (aq (bR (v:=.ty (Ty.nm .dct)) (by rfl) T.dict (by decide +kernel) rfl) b7)))) wx cy)
  (aM (iA (PW.pt (CT (oH (aQ aS (by rfl) T.isinstance (by decide +kernel) (aq (pv 1) (aq (bR (v:=.ty (Ty.nm .lst)) (by rfl) T.list (by decide +kernel) rfl) b7)))) (xA (oH (aQ aS (by rfl) T.isinstance (by decide +kernel) (aq (pv 1) (aq (bR (v:=.ty (Ty.nm .tup)) (by rfl) T.tuple (by decide +kernel) rfl) b7)))))))
   (aM (iA (f7 Ad (aQ aS (by rfl) T.isinstance (by decide +kernel) (aq (pv 0) (aq (bR (v:=.ty (Ty.nm .lst)) (by rfl) T.list (by decide +kernel) rfl) b7))) (aQ aS (by rfl) T.isinstance (by decide +kernel) (aq (pv 1) (aq (bR (v:=.ty (Ty.nm .lst)) (by rfl) T.list (by decide +kernel) rfl) b7))) (aO _)) (bS (cQ yq)) cy)
   (aM (iA (PW.pt (CT (f7 Ad (aQ aS (by rfl) T.isinstance (by decide +kernel) (aq (pv 0) (aq (bR (v:=.ty (Ty.nm .tup)) (by rfl) T.tuple (by decide +kernel) rfl) b7))) (aQ aS (by rfl) T.isinstance (by decide +kernel) (aq (pv 1) (aq (bR (v:=.ty (Ty.nm .tup)) (by rfl) T.tuple (by decide +kernel) rfl) b7))) (aO _)) (xA (f7 Ad (aQ cu (by rfl) T.len (by decide +kernel) (aq (pv 0) b7)) (aQ cu (by rfl) T.len (by decide +kernel) (aq (pv 1) b7)) (aO _))))) (bS (cQ yq)) cy)
   (bS (cQ (aQ (qN rfl) (by rfl) T.all (by decide +kernel) (aq (sD sc ["_law_one","_law_other"] [none,none] nd2 (by decide +kernel) (FC (by rfl) T.zip (aq (pv 0) (aq (pv 1) b7))) (fun _ _ _=>(ux rfl (dZ (kN (i:=0) nd2 rfl (k_ rfl) (l_ rfl)) (dZ (kN (i:=1) nd2 rfl (k_ rfl) (l_ rfl)) pK)))) (fun _ _ _=>vP) (fun _ _ _=>(zW G_same hr (by rfl) (aq (pv 0) (aq (pv 1) b7))))) b7)))))) cy)
  (aM (iA (oH (aQ aS (by rfl) T.isinstance (by decide +kernel) (aq (pv 1) (aq (bR (v:=.ty (Ty.nm .str)) (by rfl) T.str (by decide +kernel) rfl) b7)))) (bS (cQ (oq (aQ aS (by rfl) T.isinstance (by decide +kernel) (aq (pv 0) (aq (bR (v:=.ty (Ty.nm .str)) (by rfl) T.str (by decide +kernel) rfl) b7))) (tu (oW D9 (pv 0) (pv 1) (aO _)))))) cy)
  (bS (cQ (oq (aQ aS (by rfl) T.isinstance (by decide +kernel) (aq (pv 0) (aq (bR (v:=.ty (Ty.nm .int)) (by rfl) T.int (by decide +kernel) rfl) b7))) (oq (E4 (aQ aS (by rfl) T.isinstance (by decide +kernel) (aq (pv 0) (aq (bR (v:=.ty (Ty.nm .bl)) (by rfl) T.bool (by decide +kernel) rfl) b7)))) (tu (oW D9 (pv 0) (pv 1) (aO _))))))))))),?_⟩
 cases d with
 | bl b=>simp[gd]at hg
 | non=>
  rw[Has]at hx hy
  subst hx hy
  refine⟨_,rfl,_,rfl,lH (by decide) ⟨_,rfl,?_⟩⟩
  exact rg (by decide) (q H .bz)
 | int i=>
  rw[Has]at hx hy
  subst hx hy
  refine⟨_,rfl,_,rfl,bJ (by simp) ?_⟩
  refine⟨_,rfl,_,_,.int,[.dct],rfl,.int i,.inl ⟨_,rfl,rfl⟩,_,rfl,bJ (by decide) ?_⟩
  refine⟨_,rfl,_,_,.int,[.lst],rfl,.int i,.inl ⟨_,rfl,rfl⟩,_,rfl,bJ (by decide) ?_⟩
  refine⟨_,rfl,_,_,.int,[.tup],rfl,.int i,.inl ⟨_,rfl,rfl⟩,_,rfl,bJ (by decide) ?_⟩
  refine⟨_,rfl,_,_,.int,[.str],rfl,.int i,.inl ⟨_,rfl,rfl⟩,_,rfl,bJ (by decide) ?_⟩
  refine⟨_,rfl,_,_,.int,[.int],rfl,.int i,.inl ⟨_,rfl,rfl⟩,_,rfl,lH (by decide) ?_⟩
  refine⟨_,rfl,_,_,.int,[.bl],rfl,.int i,.inl ⟨_,rfl,rfl⟩,_,rfl,_,rfl,lH (by decide) ?_⟩
  refine⟨_,rfl,_,rfl,rfl,?_⟩
  exact rg (by simp) (q H .bz)
 | str i=>
  rw[Has]at hx hy
  subst hx hy
  refine⟨_,rfl,_,rfl,bJ (by simp) ?_⟩
  refine⟨_,rfl,_,_,.str,[.dct],rfl,.str i,.inl ⟨_,rfl,rfl⟩,_,rfl,bJ (by decide) ?_⟩
  refine⟨_,rfl,_,_,.str,[.lst],rfl,.str i,.inl ⟨_,rfl,rfl⟩,_,rfl,bJ (by decide) ?_⟩
  refine⟨_,rfl,_,_,.str,[.tup],rfl,.str i,.inl ⟨_,rfl,rfl⟩,_,rfl,bJ (by decide) ?_⟩
  refine⟨_,rfl,_,_,.str,[.str],rfl,.str i,.inl ⟨_,rfl,rfl⟩,_,rfl,lH (by decide) ?_⟩
  refine⟨_,rfl,_,_,.str,[.str],rfl,.str i,.inl ⟨_,rfl,rfl⟩,_,rfl,lH (by decide) ?_⟩
  refine⟨_,rfl,_,rfl,rfl,?_⟩
  exact rg (by simp) (q H .bz)
 | lst ds=>
  rw[Has]at hx hy
  obtain⟨a,xs,rfl,s1,l1⟩:=hx
  obtain⟨b,ys,rfl,s2,l2⟩:=hy
  have m1:=l1.len
  have m2:=l2.len
  have hg2:ds.length<=100000/\gdL ds=true:=by simpa[gd]using hg
  have hd2:bo ds < n:=by rw[dpt]at hd;omega
  refine⟨_,rfl,_,rfl,bJ (by simp) ?_⟩
  refine⟨_,rfl,_,_,.lst,[.dct],rfl,.lst s2,.inl ⟨_,rfl,rfl⟩,_,rfl,bJ (by decide) ?_⟩
  refine⟨_,rfl,_,_,.lst,[.lst],rfl,.lst s2,.inl ⟨_,rfl,rfl⟩,_,rfl,lH (by decide) ?_⟩
  refine⟨_,rfl,_,_,.lst,[.lst],rfl,.lst s1,.inl ⟨_,rfl,rfl⟩,_,rfl,_,_,.lst,[.lst],rfl,.lst s2,.inl ⟨_,rfl,rfl⟩,rfl,_,rfl,bJ (by simp) ?_⟩
  refine⟨_,rfl,_,_,.lst,[.tup],rfl,.lst s1,.inl ⟨_,rfl,rfl⟩,_,rfl,_,_,.lst,[.tup],rfl,.lst s2,.inl ⟨_,rfl,rfl⟩,rfl,_,rfl,bJ (by simp) ?_⟩
  refine⟨_,rfl,a,_,rfl,.inl s1,_,rfl,b,_,rfl,.inl s2,rfl,_,rfl,bJ (by rw[<-m1,<-m2];simp) ?_⟩
  refine⟨_,rfl,_,rfl,false,a,false,b,rfl,⟨xs,s1⟩,⟨ys,s2⟩,rE (K:=K) (fun σ'=>σ'.length=2) ds.length (by have:=hg2.1;show ds.length < 2 ^ 24;omega) (fun _=>.bl true) (fun _=>true) (fun _=>by simp[rV]) rfl
   (yg (b1:=false) (b2:=false) s1 s2 m1.symm m2.symm) (qI (b1:=false) (b2:=false) s1 s2 m1.symm m2.symm) ?_ ?_⟩
  ·intro s3 H3' fp i σ' H' hi ok sm x H2 hy Nx Ap _ hA
   obtain⟨p',u,v,rfl,sm2,hp',hu,hv⟩:=uT (b1:=false) (b2:=false) s1 s2 sm hy
   obtain⟨z0,z1,rfl⟩:∃ z0 z1,σ'=[z0,z1]:=by
    match σ',ok with
    | [z0,z1],_=>exact⟨z0,z1,rfl⟩
   have sm3:=sm.trans' sm2
   refine⟨p',_,rfl,SqT.of hp',rfl,u,[v],rfl,v,[],rfl,rfl,?_⟩
   refine qX ?_
   refine⟨_,rfl,_,rfl,u,v,ds[i],rfl,Has.same sm3 (l1.get (a_ hi) hu),Has.same sm3 (l2.get (a_ hi) hv),oC hg2.2 (a_ hi),Jq (iD (a_ hi)) hd2,fun H5 s5=>?_⟩
   exact hA rfl _ _ H5 rfl (sm2.trans' s5) (by rw[Has])
  ·intro p acc H' hp sm hacc hl
   have e:((o_ ds.length).filter fun _=>true).map (fun _=>Dt.bl true)=(t_ ds.length true).map Dt.bl:=by rw[jM,qD,LA]
   rw[e]at hl
   have hb:=gn hl
   rw[hb]at hacc
   refine⟨p,_,rfl,SqL.of hacc,?_⟩
   exact rg (by simp) (q H' sm)
 | tup ds=>
  rw[Has]at hx hy
  obtain⟨a,xs,rfl,s1,l1⟩:=hx
  obtain⟨b,ys,rfl,s2,l2⟩:=hy
  have m1:=l1.len
  have m2:=l2.len
  have hg2:ds.length<=100000/\gdL ds=true:=by simpa[gd]using hg
  have hd2:bo ds < n:=by rw[dpt]at hd;omega
  refine⟨_,rfl,_,rfl,bJ (by simp) ?_⟩
  refine⟨_,rfl,_,_,.tup,[.dct],rfl,.tup s2,.inl ⟨_,rfl,rfl⟩,_,rfl,bJ (by decide) ?_⟩
  refine⟨_,rfl,_,_,.tup,[.lst],rfl,.tup s2,.inl ⟨_,rfl,rfl⟩,_,rfl,bJ (by decide) ?_⟩
  refine⟨_,rfl,_,_,.tup,[.tup],rfl,.tup s2,.inl ⟨_,rfl,rfl⟩,_,rfl,lH (by decide) ?_⟩
  refine⟨_,rfl,_,_,.tup,[.lst],rfl,.tup s1,.inl ⟨_,rfl,rfl⟩,_,rfl,_,_,.tup,[.lst],rfl,.tup s2,.inl ⟨_,rfl,rfl⟩,rfl,_,rfl,bJ (by simp) ?_⟩
  refine⟨_,rfl,_,_,.tup,[.tup],rfl,.tup s1,.inl ⟨_,rfl,rfl⟩,_,rfl,_,_,.tup,[.tup],rfl,.tup s2,.inl ⟨_,rfl,rfl⟩,rfl,_,rfl,bJ (by simp) ?_⟩
  refine⟨_,rfl,a,_,rfl,.inr s1,_,rfl,b,_,rfl,.inr s2,rfl,_,rfl,bJ (by rw[<-m1,<-m2];simp) ?_⟩
  refine⟨_,rfl,_,rfl,true,a,true,b,rfl,⟨xs,s1⟩,⟨ys,s2⟩,rE (K:=K) (fun σ'=>σ'.length=2) ds.length (by have:=hg2.1;show ds.length < 2 ^ 24;omega) (fun _=>.bl true) (fun _=>true) (fun _=>by simp[rV]) rfl
   (yg (b1:=true) (b2:=true) s1 s2 m1.symm m2.symm) (qI (b1:=true) (b2:=true) s1 s2 m1.symm m2.symm) ?_ ?_⟩
  ·intro s3 H3' fp i σ' H' hi ok sm x H2 hy Nx Ap _ hA
   obtain⟨p',u,v,rfl,sm2,hp',hu,hv⟩:=uT (b1:=true) (b2:=true) s1 s2 sm hy
   obtain⟨z0,z1,rfl⟩:∃ z0 z1,σ'=[z0,z1]:=by
    match σ',ok with
    | [z0,z1],_=>exact⟨z0,z1,rfl⟩
   have sm3:=sm.trans' sm2
   refine⟨p',_,rfl,SqT.of hp',rfl,u,[v],rfl,v,[],rfl,rfl,?_⟩
   refine qX ?_
   refine⟨_,rfl,_,rfl,u,v,ds[i],rfl,Has.same sm3 (l1.get (a_ hi) hu),Has.same sm3 (l2.get (a_ hi) hv),oC hg2.2 (a_ hi),Jq (iD (a_ hi)) hd2,fun H5 s5=>?_⟩
   exact hA rfl _ _ H5 rfl (sm2.trans' s5) (by rw[Has])
  intro p acc H' hp sm hacc hl
  have e:((o_ ds.length).filter fun _=>true).map (fun _=>Dt.bl true)=(t_ ds.length true).map Dt.bl:=by rw[jM,qD,LA]
  rw[e]at hl
  have hb:=gn hl
  rw[hb]at hacc
  refine⟨p,_,rfl,SqL.of hacc,?_⟩
  exact rg (by simp) (q H' sm)
theorem same_none{f:Nh}{fd:NK}:FnOk P w K mg base CX0 0 f fd ["_law_found","_law_due"] (jD K 0):=by
 have no:∀ vs H Q E,¬ jD K 0 vs H Q E:=fun vs H Q E h=>by
  obtain⟨x,y,d,_,_,_,_,h,_⟩:=h
  omega
 exact⟨fun vs H Q E h=>absurd h (no vs H Q E),fun A outer s H args us vs Q E _ _ _ _ h=>absurd h (no vs H Q E)⟩
theorem qM(D:Dfn K mg "_law_same" s_same ["_law_found","_law_due"])(T:Txt mg):∀ n,Cal P w K mg base n "_law_same" ["_law_found","_law_due"] (jD K n)
 | 0=>D.cal fun _ _ _=>same_none
 | n + 1=>D.cal fun _ _ F=>Be F T (qM D T n)
end
open PySem L2 PL
structure Cells where
 cs:List Int
 pos:0 < cs.length
 len:cs.length<=63
noncomputable def stT(c:Cells)(n:Nat):T:=.dK true [(NL (some ("cells":Str)),.lst true (c.cs.map T.int)),(NL (some ("turn":Str)),.int (n:Int))]
theorem Am{c:Cells}{n:Nat}:isAny (stT c n)=false:=rfl
def Scr(K:Ng)(t:T)(ns:List Int):Prop:=t=.lst false (ns.map T.int)\/∃ a,t=.hole (.ref a)/\∀ H,SqL K H a (ns.map V.int)
def pW(K:Ng):FP:=fun ts k=>∃ t,∃ ns:List Int,ts=[t]/\Scr K t ns/\ns.length<=63/\∀ c,k (stT c 0) ts
noncomputable def oV:FP:=fun ts k=>∃ c n m,ts=[stT c n,.int m]/\n < 2 ^ 40/\0 < m/\m < 1073741824/\∀ r c',0<=r->r < m->k (.int r) [stT c' (n + 1),.int m]
noncomputable def pL(n:Nat):FP:=fun ts k=>∃ f d,ts=[f,d]/\isD f=true/\isD d=true/\dt f=dt d/\gd (dt d)=true/\dpt (dt d) < n/\k (.bl true) ts
section
variable{P:Nv}{w:NA}{K:Ng}{mg:Str->Option Nf}{base:NB}
theorem oD{α β:Type}{l:List (α × β)}{a b:α}(h:[a,b]=l.map (·.1)):∃ v w,l=[(a,v),(b,w)]:=by
 cases l with
 | nil=>cases h
 | cons x l=>
  cases l with
  | nil=>cases h
  | cons y l=>
   cases l with
   | nil=>
    have h1:=(JC h).1
    have h2:=(JC (JC h).2).1
    exact⟨x.2,y.2,by rw[h1,h2]⟩
   | cons z l=>cases (JC (JC h).2).2
theorem rT{H:Hp}{a:Nh}{o:HO}(h:H a=some o):Put H a o H:=⟨h,fun _ _=>rfl⟩
theorem HA{H:Hp}{Γ:Fm}{c:Cells}{n:Nat}{v:V}(h:Rp K H ((stT c n,some v)::Γ)):∃ st l,v=.ref st/\StAt H st l c.cs n/\Rp K H ((.bare,some (.ref st))::(.bare,some (.ref l))::Γ):=by
 obtain⟨st,kvs,ev,hs,ek,h2⟩:=qV h
 cases ev
 obtain⟨v1,v2,rfl⟩:=oD ek
 have h2:Rp K H ((.bare,some (.ref st))::(.lst true (c.cs.map T.int),some v1)::(.int (n:Int),some v2)::Γ):=h2
 have e2:v2=.int n:=aF h2.tail.tail
 subst e2
 have h3:=h2.perm (.swap _ _ _)
 obtain⟨l,vs,el,hl,ll,h4⟩:=fw h3
 cases el
 have ev:vs=c.cs.map V.int:=cL ll h4.tail
 subst ev
 refine⟨st,l,rfl,⟨hs,hl,c.pos,c.len⟩,?_⟩
 have h5:Rp K H ((.bare,some (.ref l))::(.bare,some (.ref st))::(.int (n:Int),some (.int n))::Γ):=by
  have:Rp K H (zz (c.cs.map T.int) (c.cs.map V.int)++((.bare,some (.ref l))::(.bare,some (.ref st))::(.int (n:Int),some (.int n))::Γ)):=h4.perm h_.symm
  exact this.part
 exact(h5.perm (by
  refine I_ (.cons _ (.swap _ _ _)) ?_
  refine I_ (.swap _ _ _) ?_
  exact .cons _ (.swap _ _ _))).tail
theorem rj{H:Hp}{Γ:Fm}:∀(ns:List Int),Rp K H Γ->Rp K H (zz (ns.map T.int) (ns.map V.int)++Γ)
 | [],h=>h
 | n::r,h=>bg (rj r h) fun _=>.int
theorem zO{H:Hp}{Γ:Fm}{cs:List Int}{n:Nat}{st l:Nh}(S:StAt H st l cs n)(h:Rp K H ((.bare,some (.ref st))::(.bare,some (.ref l))::Γ)):∃ c,Rp K H ((stT c n,some (.ref st))::Γ):=by
 refine⟨⟨cs,S.pos,S.len⟩,?_⟩
 have h1:Rp K H ((.bare,some (.ref l))::(zz (cs.map T.int) (cs.map V.int)++((.bare,some (.ref st))::Γ))):=(rj cs (h.perm (.swap _ _ _))).perm h_
 have h2:=eN h1 (by rw[b_,b_]) (rT S.l)
 have h3:Rp K H ((.bare,some (.ref st))::((.lst true (cs.map T.int),some (.ref l))::(.int (n:Int),some (.int n))::Γ)):=by
  refine(bg (t:=.int (n:Int)) h2 fun _=>.int).perm ?_
  refine I_ (.swap _ _ _) ?_
  refine I_ (.cons _ (.swap _ _ _)) ?_
  exact .swap _ _ _
 exact mZ (ts:=[(NL (some ("cells":Str)),.lst true (cs.map T.int)),(NL (some ("turn":Str)),.int (n:Int))]) (vs:=stK l n) h3 rfl (rT S.d)
theorem Hf{H H':Hp}{a c:Nh}{Γ:Fm}(h:Rp K H ((.bare,some (.ref a))::(.bare,some (.ref c))::Γ))(k:Kp a c H H')(ha:∃ u,H' a=some u/\∀ xs,u≠.tup xs)(hc:∃ u,H' c=some u/\∀ xs,u≠.tup xs):Rp K H' ((.bare,some (.ref a))::(.bare,some (.ref c))::Γ):=by
 obtain⟨ua,ea,na⟩:=ha
 obtain⟨uc,ec,nc⟩:=hc
 obtain⟨Hz,N,h,nd,g,d⟩:=h
 cases h with
 | cons e1 h1 c1=>
  cases c1 with
  | cons e2 h2 c2=>
   rcases h1 with⟨z,_⟩ | ⟨v1,ev1,h1⟩
   ·cases z
   rcases h2 with⟨z,_⟩ | ⟨v2,ev2,h2⟩
   ·cases z
   cases ev1;cases ev2
   cases h1;cases h2
   rename_i M u1 hu1 nt1 u2 hu2 nt2
   subst e2;subst e1
   have nd':(a::c::M).Nodup:=nd
   rw[D',D']at nd'
   have keep:∀ b o,H b=some o->b≠a->b≠c->H' b=some o:=k
   have tk:TK H H':=fun b xs r=>keep b _ r (fun z=>nt1 xs (z ▸ r)) (fun z=>nt2 xs (z ▸ r))
   have za:Hz a=none:=d a p_
   have zc:Hz c=none:=d c (n_ _ p_)
   have g':Gr Hz H':=fun b u r=>by
    obtain⟨w',q⟩:=Rd.some r
    have b1:b≠a:=fun z=>by rw[z,za]at q;cases q
    have b2:b≠c:=fun z=>by rw[z,zc]at q;cases q
    rcases g b u r with r | ⟨o,r⟩
    ·exact .inl (keep b _ r b1 b2)
    exact .inr ⟨o,keep b _ r b1 b2⟩
   refine⟨Hz,[a]++([c]++M),.cons rfl (.inr ⟨_,rfl,.bare ea fun xs z=>?_⟩) (.cons rfl (.inr ⟨_,rfl,.bare ec fun xs z=>?_⟩) (c2.move tk .bz fun b m u e=>?_)),nd,g',d⟩
   ·rw[ea]at z;exact na xs (D_ z)
   ·rw[ec]at z;exact nc xs (D_ z)
   have b1:b≠a:=fun z=>nd'.1 (by rw[<-z];exact n_ _ m)
   have b2:b≠c:=fun z=>nd'.2.1 (by rw[<-z];exact m)
   exact⟨keep b u e b1 b2,fun nt xs r=>nt xs (by rw[keep b u e b1 b2]at r;exact e.trans r)⟩
theorem BS{H H':Hp}{a c:Nh}{Γ:Fm}(h:Rp K H Γ)(ha:H a=none)(hc:H c=none)(ne:a≠c)(s:aP H H')(ea:∃ u,H' a=some u/\∀ xs,u≠.tup xs)(ec:∃ u,H' c=some u/\∀ xs,u≠.tup xs):Rp K H' ((.bare,some (.ref a))::(.bare,some (.ref c))::Γ):=by
 obtain⟨ua,ea,na⟩:=ea
 obtain⟨uc,ec,nc⟩:=ec
 obtain⟨Hz,N,h,nd,g,d⟩:=h
 have n1:a ∉ N:=fun m=>by
  obtain⟨⟨u,e⟩,_⟩:=h.there a m
  rw[ha]at e;cases e
 have n2:c ∉ N:=fun m=>by
  obtain⟨⟨u,e⟩,_⟩:=h.there c m
  rw[hc]at e;cases e
 refine⟨Hz,[a]++([c]++N),.cons rfl (.inr ⟨_,rfl,.bare ea fun xs z=>?_⟩) (.cons rfl (.inr ⟨_,rfl,.bare ec fun xs z=>?_⟩) (h.move (aP.tk s) .bz fun b m u e=>fm s b u e)),?_,g.trans (.of s),?_⟩
 ·rw[ea]at z;exact na xs (D_ z)
 ·rw[ec]at z;exact nc xs (D_ z)
 ·show(a::c::N).Nodup
  rw[D',D']
  exact⟨fun m=>(m_.mp m).elim (fun z=>ne z) n1,n2,nd⟩
 intro b m
 have m:b∈a::c::N:=m
 rcases m_.mp m with rfl | m
 ·exact g.none ha
 rcases m_.mp m with rfl | m
 ·exact g.none hc
 exact d b m
theorem Ab(D:Dfn K mg "_law_take" qf ["_law_state","_law_many"])(TX:Txt mg):Cal P w K mg base 1 "_law_take" ["_law_state","_law_many"] (aG K 2 oV):=by
 refine(D.cal fun _ _ F=>Ba F TX).imp ?_
 rintro vs H Q E ⟨ts,Fr,k,l,hn,rp,⟨c,n,m,rfl,h1,h2,h3,pk⟩,q⟩
 obtain⟨x,y,rfl⟩:=zz2 l rfl
 have rp:Rp K H ((stT c n,some x)::(.int m,some y)::Fr):=rp
 have ey:=aF rp.tail
 subst ey
 obtain⟨st,lc,rfl,S,rp2⟩:=HA rp
 refine⟨st,lc,c.cs,n,m,rfl,S,by omega,by omega,h2,h3,fun r cs' H' hr0 hr1 S' kp=>?_⟩
 have rp3:=Hf rp2 kp ⟨_,S'.d,fun _ z=>by cases z⟩ ⟨_,S'.l,fun _ z=>by cases z⟩
 have S'':StAt H' st lc cs' ((n + 1:Nat):Int):=by push_cast;exact S'
 obtain⟨c',rp4⟩:=zO S'' rp3
 exact q _ _ _ _ (pk r c' hr0 hr1) (bg rp4 fun _=>.int)
theorem sR{H:Hp}{Γ:Fm}{w y:V}(h:Rp K H ((.hole w,some y)::Γ)):y=w:=by
 obtain⟨_,_,r,_⟩:=fY h rfl
 cases r
 rfl
theorem wX(D:Dfn K mg "_law_begin" kM ["_law_script"])(TX:Txt mg):Cal P w K mg base 1 "_law_begin" ["_law_script"] (aG K 1 (pW K)):=by
 refine(D.cal fun _ _ F=>yh F TX).imp ?_
 rintro vs H Q E ⟨ts,Fr,k,l,hn,rp,⟨t,ns,rfl,hs,h1,pk⟩,q⟩
 obtain⟨x,rfl⟩:=zz1 l rfl
 have rp:Rp K H ((t,some x)::Fr):=rp
 obtain⟨a,rfl,hq⟩:∃ a,x=.ref a/\SqL K H a (ns.map V.int):=by
  rcases hs with rfl | ⟨a,rfl,hs⟩
  ·obtain⟨a,us,rfl,hq,l2,rp2⟩:=aE rfl rp
   have eu:=cL l2 rp2
   subst eu
   exact⟨a,rfl,hq⟩
  exact⟨a,sR rp,hs H⟩
 refine⟨a,ns,rfl,hq,h1,fun st lc cs H' hs hl S g=>?_⟩
 have rp3:=BS rp hs hl S.ne g ⟨_,S.d,fun _ z=>by cases z⟩ ⟨_,S.l,fun _ z=>by cases z⟩
 obtain⟨c,rp4⟩:=zO (n:=0) S rp3
 exact q _ _ _ _ (pk c) rp4
def xN(K:Ng):FP:=fun ts k=>∃ t,∃ ns:List Int,ts=[t]/\Scr K t ns/\ns.length<=63/\∀ z,k (.bl true) [z]
noncomputable def uA(K:Ng):Sp:=fun vs H Q _=>∃(a:Nh) (ns:List Int),vs=[.ref a]/\SqL K H a (ns.map V.int)/\ns.length<=63/\∀ H',Q (.bl true) H'
theorem rn{Hz H:Hp}:∀(ns:List Int),RepTs K Hz H (ns.map T.int) (ns.map V.int) []
 | []=>.nil
 | _::r=>.cons rfl .int (rn r)
theorem F8{k:Nat}{f:Nh}{fd:NK}(F:FnOk P w K mg base CX0 k f fd ["_law_script"] (aG K 1 (xN K))):FnOk P w K mg base CX0 k f fd ["_law_script"] (uA K):=by
 refine F.imp ?_
 rintro vs H Q E ⟨a,ns,rfl,hq,h1,q⟩
 have key:∀ t,Scr K t ns->(∀ Hz,RepT K H Hz t (.ref a) [])->aG K 1 (xN K) [.ref a] H Q E:=fun t sc ht=>
  ⟨[t],[],fun t _=>t=.bl true,rfl,rfl,⟨H,[],.cons rfl (.inr ⟨_,rfl,ht H⟩) .nil,Kd,.bz,fun _ m=>by cases m⟩,⟨t,ns,rfl,sc,h1,fun _=>rfl⟩,fun t ts' v H' e rp=>by
   subst e
   rw[nh rp]
   exact q H'⟩
 rcases hq with hq | hq
 ·exact key _ (.inl rfl) fun Hz=>.lstZ hq (rn ns)
 exact key _ (.inr ⟨a,rfl,fun H=>.inr hq⟩) fun Hz=>.hole
theorem yG{x y:Str}(D:Dfn K mg "_law_same" s_same [x,y])(n:Nat)(C:Cal P w K mg base n "_law_same" [x,y] (jD K n)):Cal P w K mg base n "_law_same" [x,y] (aG K 2 (pL n)):=by
 refine C.imp ?_
 rintro vs H Q E ⟨ts,Fr,k,l,hn,rp,⟨f,d,rfl,h1,h2,h3,h4,h5,pk⟩,q⟩
 obtain⟨u,v,rfl⟩:=zz2 l rfl
 have rp:Rp K H ((f,some u)::(d,some v)::Fr):=rp
 have r1:=cV rp h1
 rw[h3]at r1
 exact⟨u,v,dt d,rfl,r1,cV rp.tail h2,h4,h5,fun H' g=>q _ _ _ _ pk (bg (rp.same g) fun _=>.bl)⟩
end
open PySem L2 PL
noncomputable def zE:=g_ @PL.Cp (g_ @PL.EB (g_ @PL.Eo (g_ @PL.Eb (g_ @PL.Bl (g_ @PL.y6 (g_ @PL.yW (g_ @PL.B6 (g_ @PL.G1 (g_ @PL.BH (g_ @PL.y0 (g_ @PL.En (g_ @PL.Ct (g_ @PL.BM (g_ @PL.zU (g_ @PL.zp (g_ @PL.Fs (g_ @PL.As (g_ @PL.Fz (g_ @PL.B2 (g_ @PL.B0 (g_ @PL.x6 (g_ @PL.BC (g_ @PL.Bt (g_ @PL.AN (g_ @PL.yM (g_ @PL.AM (g_ @PL.Dy (g_ @PL.FW (g_ @PL.Fb (g_ @PL.EV (g_ @PL.DL (g_ @PL.Eg (g_ @PL.C5 (g_ @PL.BR (g_ @PL.Bj (g_ @PL.AU (g_ @PL.BG (g_ @PL.Ei (g_ @PL.DV (g_ @PL.Fu (g_ @PL.FL (g_ @PL.Ed (g_ @PL.xF (g_ @PL.DY (g_ @PL.Ay (g_ @PL.F9 (g_ @PL.FG (g_ @PL.Cg (g_ @PL.Au (g_ @PL.ye (g_ @PL.Ai (g_ @PL.Fo (g_ @PL.Ft (g_ @PL.yV (g_ @PL.Dl (g_ @PL.GP (g_ @PL.FA (g_ @PL.Dq (g_ @PL.Ep (g_ @PL.tO (g_ @PL.Er (@PL.By))))))))))))))))))))))))))))))))))))))))))))))))))))))))))))))
noncomputable def yi:=g_ @PL.Ce (g_ @PL.A3 (g_ @PL.rA (g_ @PL.Ih (g_ @PL.HM (g_ @PL.qU (g_ @PL.nE (g_ @PL.Bd (g_ @PL.fk (g_ @PL.Br (g_ @PL.uv (g_ @PL.bF (g_ @PL.jx (g_ @PL.wK (g_ @PL.Ac (g_ @PL.xo (g_ @PL.xw (g_ @PL.Bf (g_ @f_.{0,0} (g_ @Kx.{0,0} (g_ @b_.{0,0} (g_ @List.zipWith_nil_right.{0,0,0} (g_ @decide_eq_true_eq (g_ @decide_true (g_ @decide_false (g_ @Mr (g_ @Mi (g_ @Kg (g_ @Ms (g_ @Ji (g_ @true_and (g_ @Option.map_some.{0,0} (g_ @K7 (g_ @K6 (g_ @PySem.sizeLine_eq (@Mp.Am)))))))))))))))))))))))))))))))))))
theorem B5{α:Type}{l:List α}{i:Int}(h0:0<=i)(h1:i < l.length):∃ x,x∈l/\atI l i=some x:=by
 have h:i.toNat < l.length:=by omega
 refine⟨l[i.toNat],JN h,?_⟩
 have:=kx (xs:=l) (j:=i.toNat) (a_ h)
 rwa[KS h0]at this
theorem n6(P:Int->Prop){ns:List Int}{i:Int}(h0:0<=i)(h1:i < ns.length)(hp:∀ x∈ns,P x):∃ v,atI (ns.map T.int) i=some (.int v)/\P v:=by
 obtain⟨t,m,e⟩:=B5 (l:=ns.map T.int) h0 (by rw[b_];exact h1)
 obtain⟨v,mv,rfl⟩:=B'.mp m
 exact⟨v,e,hp v mv⟩
theorem Dm{K:Ng}{t:T}{ns:List Int}(h:Scr K t ns):er t=t/\isAny t=false:=by
 rcases h with rfl | ⟨a,rfl,_⟩
 ·exact⟨by simp only[er,fk],rfl⟩
 exact⟨rfl,rfl⟩
theorem dq{c:Cells}{n:Nat}:bK (stT c n)=true:=by simp only[stT,bK,lI,jx,Ac,Kg,MY]
theorem map_take{α β:Type}{g:α->β}{l:List α}{i:Nat}{x:α}(h:l[i]?=some x):Kq g (l.take (i + 1))=Kq g (l.take i)++[g x]:=by rw[JY,h,z_];rfl
theorem nu{α β:Type}{g:α->β}{p:α->Bool}{l:List α}{i:Nat}{x:α}(h:l[i]?=some x):Kq g ((l.take (i + 1)).filter p)=Kq g ((l.take i).filter p)++(if p x then [g x]else []):=by
 rw[JY,h,Ki,z_]
 congr 1
 show Kq g (List.filter p [x])=_
 rw[KL]
 cases p x <;> rfl
theorem nI{i:Int}:isD (.int i)=true:=rfl
theorem m5:cT []=true:=rfl
theorem lF{i:Int}{ts:List T}:cT (.int i::ts)=cT ts:=by rw[cT,nI,Kg]
theorem iz{a b:Int}:(bo (dtL [.int a,.int b]) < 180)=True:=eq_true (by simp[dt,dtL,dpt,bo])
def Gd(t:T)(n:Nat):Prop:=isD t=true/\gd (dt t)=true/\dpt (dt t)<=n
def GdL(ts:List T)(n:Nat):Prop:=cT ts=true/\gdL (dtL ts)=true/\bo (dtL ts)<=n
theorem Es{i:Int}{n:Nat}:Gd (.int i) n:=⟨rfl,rfl,by rw[dt,dpt.eq_def];exact G_ _⟩
theorem vm{n:Nat}:GdL [] n:=⟨rfl,by simp only[dtL,gdL],by simp only[dtL,bo,G_]⟩
theorem l9{t:T}{ts:List T}{n:Nat}(h:Gd t n)(r:GdL ts n):GdL (t::ts) n:=
 ⟨by rw[cT,h.1,r.1];rfl,by rw[dtL,gdL,h.2.1,r.2.1];rfl,by rw[dtL,bo];exact Nat.max_le.mpr ⟨h.2.2,r.2.2⟩⟩
theorem vC{α:Type}{g:α->T}{l:List α}{n:Nat}(h:∀ x∈l,Gd (g x) n):GdL (l.map g) n:=by
 induction l with
 | nil=>exact vm
 | cons x l ih=>exact l9 (h x (p_ ..)) (ih fun y m=>h y (n_ _ m))
theorem Gv{o:Bool}{ts:List T}{n:Nat}(h:GdL ts n)(hl:ts.length<=100000):Gd (.lst o ts) (n + 1):=
 ⟨by rw[isD];exact h.1,by rw[dt,gd,h.2.1,decide_eq_true (by rw[tJ,b_];exact hl)];rfl,by rw[dt,dpt];exact Lf h.2.2⟩
theorem IP{ts:List T}{n:Nat}(h:GdL ts n)(hl:ts.length<=100000):Gd (.tup ts) (n + 1):=
 ⟨by rw[isD];exact h.1,by rw[dt,gd,h.2.1,decide_eq_true (by rw[tJ,b_];exact hl)];rfl,by rw[dt,dpt];exact Lf h.2.2⟩
theorem C1{f d:T}{n m:Nat}{k:T->List T->Prop}(h:Gd d n)(hn:n < m)(hi:isD f=true)(e:dt f=dt d)(q:k (.bl true) [f,d]):pL m [f,d] k:=⟨f,d,rfl,hi,h.1,e,h.2.1,Jq h.2.2 hn,q⟩
abbrev Rws:=List (Int × Nat)
def rdB(R:Rws)(d i:Nat):Bool:=match R[i]? with
 | some r=>!d.testBit i && (r.2 &&& d == r.2)
 | none=>false
def rdy(R:Rws)(d:Nat):List Nat:=(o_ R.length).filter (rdB R d)
def tl(R:Rws)(i:Nat):Int:=(R.getD i (0,0)).1
def cst(t:Option Int)(u:Int):Int:=if t=some u then 0 else 1
def tkF(R:Rws):Option Int->List Nat->Int
 | _,[]=>0
 | t,i::o=>tkF R (some (tl R i)) o + cst t (tl R i)
def Ch(R:Rws):Nat->List Nat->Prop
 | _,[]=>True
 | d,i::o=>i∈rdy R d/\Ch R (d ||| 2 ^ i) o
def orM:Nat->List Nat->Nat
 | d,[]=>d
 | d,i::o=>orM (d ||| 2 ^ i) o
def Cmp(R:Rws)(d:Nat)(o:List Nat):Prop:=Ch R d o/\orM d o=2 ^ R.length - 1
def Sub(a b:Nat):Prop:=∀ j,a.testBit j=true->b.testBit j=true
theorem vd{a b:Nat}:a &&& b=a↔Sub a b:=by
 constructor
 ·intro h j hj
  have:=congrArg (fun x=>x.testBit j) h
  simp only[Lp,hj,Kg]at this
  exact this
 intro h
 apply Kc
 intro j
 rw[Lp]
 cases e:a.testBit j with
 | false=>rfl
 | true=>rw[h j e];rfl
theorem fV{d i j:Nat}:(d ||| 2 ^ i).testBit j=(d.testBit j || decide (i=j)):=by
 rw[Ml,Mv]
theorem fG{n d i:Nat}(h:d < 2 ^ n)(hi:i < n):d ||| 2 ^ i < 2 ^ n:=Nat.or_lt_two_pow h (Nat.pow_lt_pow_right (by decide) hi)
theorem uI{d i:Nat}(h:d.testBit i=false):d < d ||| 2 ^ i:=by
 refine JS MU fun z=>?_
 have:(d ||| 2 ^ i).testBit i=true:=by rw[fV];simp
 rw[<-z,h]at this
 cases this
theorem bX{n j:Nat}:(2 ^ n - 1).testBit j=decide (j < n):=Nat.testBit_two_pow_sub_one ..
theorem Dw{n d j:Nat}(h:d < 2 ^ n)(hj:n<=j):d.testBit j=false:=Nat.testBit_lt_two_pow (x_ h (KN (by decide) hj))
theorem gY{n d:Nat}(h:d < 2 ^ n)(s:Sub (2 ^ n - 1) d):d=2 ^ n - 1:=by
 apply Kc
 intro j
 rw[bX]
 by_cases hj:j < n
 ·rw[decide_eq_true hj]
  exact s j (by rw[bX,decide_eq_true hj])
 rw[decide_eq_false hj,Dw h (by omega)]
theorem fy{R:Rws}{d i:Nat}:i∈rdy R d↔∃ r,R[i]?=some r/\d.testBit i=false/\Sub r.2 d:=by
 unfold rdy
 rw[Jv,Jh]
 unfold rdB
 constructor
 ·rintro⟨h,e⟩
  rw[a_ h]at e ⊢
  simp only[E_,LP,beq_iff_eq]at e
  exact⟨_,rfl,e.1,vd.mp e.2⟩
 rintro⟨r,e,h1,h2⟩
 refine⟨(c_.mp e).1,?_⟩
 rw[e]
 simp only[E_,LP,beq_iff_eq]
 exact⟨h1,vd.mpr h2⟩
theorem aR{R:Rws}{d i:Nat}(h:i∈rdy R d):i < R.length:=by
 obtain⟨r,e,_⟩:=fy.mp h
 exact(c_.mp e).1
theorem cx{R:Rws}{d i:Nat}(h:i∈rdy R d):d.testBit i=false:=by
 obtain⟨r,_,e,_⟩:=fy.mp h
 exact e
theorem Fd(R:Rws)(d:Nat):(rdy R d).Pairwise (· < ·):=List.Pairwise.filter _ Kr
theorem d4(R:Rws):rdy R (2 ^ R.length - 1)=[]:=List.eq_nil_iff_forall_not_mem.mpr fun i h=>by
 have h1:=cx h
 rw[bX,decide_eq_true (aR h)]at h1
 cases h1
theorem qF{R:Rws}{d:Nat}(hd:d < 2 ^ R.length)(ne:d≠2 ^ R.length - 1):∀(o:List Nat) (d0:Nat),Cmp R d0 o->Sub d0 d->rdy R d≠[]
 | [],d0,h,s=>absurd (gY hd (by have:d0=_:=h.2;rw[<-this];exact s)) ne
 | i::o,d0,h,s=>by
  cases e:d.testBit i with
  | true=>
   refine qF hd ne o (d0 ||| 2 ^ i) ⟨h.1.2,h.2⟩ fun j hj=>?_
   rw[fV,KW,decide_eq_true_iff]at hj
   rcases hj with hj | rfl
   ·exact s j hj
   ·exact e
  | false=>
   obtain⟨r,e1,_,e3⟩:=fy.mp h.1.1
   exact LB (fy.mpr ⟨r,e1,e,fun j hj=>s j (e3 j hj)⟩)
def b8(R:Rws):Prop:=∃ o,Cmp R 0 o
theorem pI{R:Rws}{d:Nat}(h:b8 R)(hd:d < 2 ^ R.length)(ne:d≠2 ^ R.length - 1):rdy R d≠[]:=by
 obtain⟨o,h⟩:=h
 exact qF hd ne o 0 h fun j hj=>by rw[Lh]at hj;cases hj
def TS(R:Rws)(t:Option Int):Prop:=t=none\/∃ i,i < R.length/\t=some (tl R i)
noncomputable def VOk(R:Rws)(v:Nat->Option Int->Int)(d:Nat)(t:Option Int):Prop:=
 (rdy R d=[]/\v d t=0)\/(∃ i∈rdy R d,v d t=v (d ||| 2 ^ i) (some (tl R i)) + cst t (tl R i))/\∀ i∈rdy R d,v d t<=v (d ||| 2 ^ i) (some (tl R i)) + cst t (tl R i)
def zd(R:Rws)(v:Nat->Option Int->Int):Prop:=∀ d t,d < 2 ^ R.length->TS R t->VOk R v d t
theorem Ar{R:Rws}{v:Nat->Option Int->Int}(V:zd R v):∀(o:List Nat) (d:Nat) (t:Option Int),d < 2 ^ R.length->TS R t->Cmp R d o->v d t<=tkF R t o
 | [],d,t,hd,ht,h=>by
  have e:d=2 ^ R.length - 1:=h.2
  rcases V d t hd ht with⟨_,e0⟩ | ⟨⟨i,m,_⟩,_⟩
  ·rw[e0];exact M_ _
  ·rw[e,d4]at m;cases m
 | i::o,d,t,hd,ht,h=>by
  have il:=aR h.1.1
  have ih:=Ar V o (d ||| 2 ^ i) (some (tl R i)) (fG hd il) (.inr ⟨i,il,rfl⟩) ⟨h.1.2,h.2⟩
  rcases V d t hd ht with⟨e0,_⟩ | ⟨_,g⟩
  ·have:=h.1.1;rw[e0]at this;cases this
  have:=g i h.1.1
  rw[tkF]
  omega
def ci(o:List Nat):List Int:=o.map fun(i:Nat)=>(i:Int)
noncomputable def oS(R:Rws)(v:Nat->Option Int->Int)(d:Nat)(t:Option Int)(o:List Nat):Prop:=Cmp R d o/\tkF R t o=v d t/\∀ o',Cmp R d o'->tkF R t o'=v d t->ZM.lx (ci o') (ci o)=false
theorem kY{R:Rws}{v:Nat->Option Int->Int}(V:zd R v){t:Option Int}(ht:TS R t):oS R v (2 ^ R.length - 1) t []:=by
 have hp:0 < 2 ^ R.length:=JH _
 refine⟨⟨trivial,rfl⟩,?_,fun o' h _=>?_⟩
 ·rcases V (2 ^ R.length - 1) t (by omega) ht with⟨_,e0⟩ | ⟨⟨i,m,_⟩,_⟩
  ·rw[e0];rfl
  rw[d4]at m;cases m
 cases o' with
 | nil=>rfl
 | cons i o'=>have:=h.1.1;rw[d4]at this;cases this
theorem jo{R:Rws}{v:Nat->Option Int->Int}(V:zd R v){d i:Nat}{t:Option Int}{o:List Nat}(hd:d < 2 ^ R.length)(ht:TS R t)(hi:i∈rdy R d)(hv:v (d ||| 2 ^ i) (some (tl R i)) + cst t (tl R i)=v d t)
  (hm:∀ j∈rdy R d,v (d ||| 2 ^ j) (some (tl R j)) + cst t (tl R j)=v d t->i<=j) (B:oS R v (d ||| 2 ^ i) (some (tl R i)) o):oS R v d t (i::o):=by
 obtain⟨b1,b2,b3⟩:=B
 refine⟨⟨⟨hi,b1.1⟩,b1.2⟩,by rw[tkF,b2,hv],fun o' h e=>?_⟩
 cases o' with
 | nil=>
  have e:d=2 ^ R.length - 1:=h.2
  rw[e,d4]at hi
  cases hi
 | cons j o'=>
  have jl:=aR h.1.1
  have lb:=Ar V o' (d ||| 2 ^ j) (some (tl R j)) (fG hd jl) (.inr ⟨j,jl,rfl⟩) ⟨h.1.2,h.2⟩
  rw[tkF]at e
  rcases V d t hd ht with⟨e0,_⟩ | ⟨_,g⟩
  ·rw[e0]at hi;cases hi
  have gj:=g j h.1.1
  have ej:v (d ||| 2 ^ j) (some (tl R j)) + cst t (tl R j)=v d t:=by omega
  have ij:=hm j h.1.1 ej
  show(if(j:Int)=i then ZM.lx (ci o') (ci o)else decide ((j:Int) < i))=false
  by_cases q:j=i
  ·subst q
   rw[if_pos rfl]
   exact b3 o' ⟨h.1.2,h.2⟩ (by omega)
  rw[if_neg (by omega)]
  exact decide_eq_false (by omega)
def sM(l:List Nat):Nat:=orM 0 l
theorem vx:∀(l:List Nat) (d i:Nat),orM d (l++[i])=orM d l ||| 2 ^ i
 | [],d,i=>rfl
 | j::l,d,i=>vx l (d ||| 2 ^ j) i
theorem kE:∀(l:List Nat) (d j:Nat),(orM d l).testBit j=true↔d.testBit j=true\/j∈l
 | [],d,j=>⟨.inl,fun h=>h.elim id fun m=>nomatch m⟩
 | i::l,d,j=>by
  rw[orM,kE l,fV,KW,decide_eq_true_iff,m_,or_assoc,eq_comm (a:=i)]
theorem bN{l:List Nat}{j:Nat}:(sM l).testBit j=true↔j∈l:=by
 unfold sM
 rw[kE,Lh]
 exact⟨fun h=>h.elim (fun z=>nomatch z) id,.inr⟩
theorem p0{l:List Nat}{j:Nat}:(sM l).testBit j=false↔j ∉ l:=by
 rw[<-bN,Bool.not_eq_true]
theorem mC{l:List Nat}{i:Nat}:sM (l++[i])=sM l ||| 2 ^ i:=vx l 0 i
theorem sW{n:Nat}:∀(l:List Nat) (d:Nat),d < 2 ^ n->(∀ i∈l,i < n)->orM d l < 2 ^ n
 | [],d,h,_=>h
 | i::l,d,h,g=>sW l _ (fG h (g i p_)) fun j m=>g j (n_ _ m)
theorem o8{n:Nat}{l:List Nat}(g:∀ i∈l,i < n):sM l < 2 ^ n:=sW l 0 (JH _) g
theorem zY{a b:List Nat}:Sub (sM a) (sM b)↔∀ i∈a,i∈b:=⟨fun h i m=>bN.mp (h i (bN.mpr m)),fun h j m=>bN.mpr (h j (bN.mp m))⟩
theorem CM{d:Nat}{l:List Nat}:d ||| sM l=orM d l:=by
 apply Kc
 intro j
 rw[Ml,JT,KW,bN,kE]
theorem C9{R:Rws}{d:Nat}(hd:d < 2 ^ R.length)(h:rdy R d≠[]):d < (d ||| sM (rdy R d))/\(d ||| sM (rdy R d)) < 2 ^ R.length:=by
 rw[CM]
 refine⟨?_,sW _ _ hd fun i m=>aR m⟩
 obtain⟨i,m⟩:=LU _ h
 rw[<-CM]
 refine JS MU fun z=>?_
 have:(d ||| sM (rdy R d)).testBit i=true:=by rw[Ml,bN.mpr m,Bool.or_true]
 rw[<-z,cx m]at this
 cases this
theorem cc{α:Type}[DecidableEq α]:∀ {l m:List α},l.Nodup->(∀ z∈l,z∈m)->l.length<=m.length:=by
 intro l
 induction l with
 | nil=>intro m _ _;exact G_ _
 | cons a l ih=>
  intro m nd h
  obtain⟨n1,n2⟩:=D'.mp nd
  have hm:a∈m:=h a p_
  have:=ih (m:=m.erase a) n2 fun z hz=>(List.mem_erase_of_ne (fun e:z=a=>n1 (by rw[<-e];exact hz))).mpr (h z (n_ _ hz))
  rw[List.length_erase_of_mem hm]at this
  have:=List.length_pos_of_mem hm
  rw[i_]
  omega
theorem jH{n:Nat}{l:List Nat}(nd:l.Nodup)(g:∀ i∈l,i < n):l.length=n↔sM l=2 ^ n - 1:=by
 have hs:=o8 g
 have len:=cc nd fun i m=>Jh.mpr (g i m)
 rw[u_]at len
 constructor
 ·intro h
  refine gY hs fun j hj=>?_
  rw[bX,decide_eq_true_iff]at hj
  rw[bN]
  by_cases z:j∈l
  ·exact z
  have:=cc (l:=j::l) (D'.mpr ⟨z,nd⟩) fun i m=>Jh.mpr ((m_.mp m).elim (fun e=>e ▸ hj) (g i))
  rw[u_,i_]at this
  omega
 intro h
 have:=cc (L7 (n:=n)) (m:=l) fun i m=>by
  refine bN.mp ?_
  rw[h,bX,decide_eq_true (Jh.mp m)]
 rw[u_]at this
 omega
theorem v7:∀ {a b:List Int},ZM.lx a b=false->ZM.lx b a=false->a=b
 | [],[],_,_=>rfl
 | [],_::_,h,_=>nomatch h
 | _::_,[],_,h=>nomatch h
 | x::a,y::b,h,g=>by
  rw[ZM.lx]at h g
  by_cases e:x=y
  ·subst e
   rw[if_pos rfl]at h g
   rw[v7 h g]
  rw[if_neg e]at h
  rw[if_neg (Oq e)]at g
  have:=of_decide_eq_false h
  have:=of_decide_eq_false g
  omega
noncomputable def j5(R:Rws)(L:Int)(o:List Nat):Prop:=Cmp R 0 o/\tkF R none o=L/\∀ o',Cmp R 0 o'->ZM.lx (tkF R none o'::ci o') (L::ci o)=false
theorem mK{R:Rws}{v:Nat->Option Int->Int}(V:zd R v){o:List Nat}(B:oS R v 0 none o):j5 R (v 0 none) o:=by
 obtain⟨b1,b2,b3⟩:=B
 refine⟨b1,b2,fun o' h=>?_⟩
 have lb:=Ar V o' 0 none (JH _) (.inl rfl) h
 show(if tkF R none o'=v 0 none then ZM.lx (ci o') (ci o)else decide (tkF R none o' < v 0 none))=false
 by_cases e:tkF R none o'=v 0 none
 ·rw[if_pos e];exact b3 o' h e
 rw[if_neg e];exact decide_eq_false (by omega)
def chs:Option Int->List (Option Int)->Nat
 | _,[]=>0
 | t,u::l=>chs u l + if t=u then 0 else 1
theorem zi(R:Rws):∀(o:List Nat) (t:Option Int),(chs t (o.map fun i=>some (tl R i)):Int)=tkF R t o
 | [],t=>rfl
 | i::o,t=>by
  rw[f_,chs,tkF,<-zi R o,cst]
  split <;> simp
theorem vy:∀(l:List (Option Int)) (t:Option Int),((o_ l.length).filter fun k=>decide ((t::l)[k]?≠(t::l)[k + 1]?)).length=chs t l
 | [],t=>rfl
 | u::l,t=>by
  rw[i_,Me,KL,List.filter_map,chs,<-vy l u]
  have e:((o_ l.length).filter ((fun k=>decide ((t::u::l)[k]?≠(t::u::l)[k + 1]?)) ∘ Nat.succ))=((o_ l.length).filter fun k=>decide ((u::l)[k]?≠(u::l)[k + 1]?)):=rfl
  rw[e]
  by_cases h:t=u
  ·subst h
   rw[if_neg (by simp),if_pos rfl,b_]
   rfl
  rw[if_pos (by simpa using h),if_neg h,i_,b_]
theorem Aj{P:Nv}{w:NA}{K:Ng}{mg:Str->Option Nf}{base:NB}{k n:Nat}{f:Nh}{fd:NK}{ps:List Str}(h:n=ps.length):FnOk P w K mg base CX0 k f fd ps (aG K n fun _ _=>False):=
 ⟨fun _ _ _ _ ⟨_,_,_,_,h2,_⟩=>h2.trans h,fun _ _ _ _ _ _ _ _ _ _ _ _ _ ⟨_,_,_,_,_,_,z,_⟩=>z.elim⟩
abbrev nT(i:Nat):T:=.int (i:Int)
def rwT(r:Int × Nat):T:=.tup [.int r.1,.int (r.2:Int)]
theorem lE{r:Int × Nat}:er (rwT r)=rwT r:=rfl
theorem dP{r:Int × Nat}:bK (rwT r)=true:=rfl
theorem dv{r:Int × Nat}:aX (rwT r)=true:=rfl
theorem du{r:Int × Nat}:isAny (rwT r)=false:=rfl
theorem iB{r:Int × Nat}{k:T->Prop}:ixT (rwT r) (.int 0) k=k (.int r.1):=rfl
theorem j4{r:Int × Nat}{k:T->Prop}:ixT (rwT r) (.int 1) k=k (.int (r.2:Int)):=rfl
theorem bOr(a b:Nat):OM (a:Int) (b:Int)=((a ||| b:Nat):Int):=by
 have nn:∀ x:Int,Qa (Qa x)=x:=fun x=>by unfold Qa;omega
 have ng:∀ x:Nat,¬ 0<=Qa (x:Int):=fun x=>by unfold Qa;omega
 unfold OM
 rw[Vu (ng a) (ng b),nn,nn,nn,C_,C_]
theorem zC(a b:Nat):P9 (a:Int) (b:Int)=((a &&& b:Nat):Int):=by
 rw[Vv (LC a) (LC b),C_,C_]
theorem zr(i:Nat):(1:Int) * 2 ^ (i:Int).toNat=((2 ^ i:Nat):Int):=by
 rw[Int.one_mul,C_,Int.natCast_pow]
 rfl
theorem qk{i:Nat}(h:i<=1000000):xq 1 (i:Int):=⟨LC i,by omega,by decide⟩
theorem B9{ns:List Nat}{i n:Nat}(h:ns[i]?=some n):sM (ns.take (i + 1))=sM (ns.take i) ||| 2 ^ n:=by
 rw[JY,h]
 exact mC
structure Jb where
 tool:Int
 needs:List Nat
 a:Bool
 b:Bool
def ndT(b:Bool)(ns:List Nat):T:=if b then .lst false (ns.map nT)else .tup (ns.map nT)
def jbT(j:Jb):T:=if j.a then .lst false [.int j.tool,ndT j.b j.needs]else .tup [.int j.tool,ndT j.b j.needs]
def jsT(c o:Bool)(J:List Jb):T:=if c then .tup (J.map jbT)else .lst o (J.map jbT)
def ah(J:List Jb):Rws:=J.map fun j=>(j.tool,sM j.needs)
theorem fS{ns:List Nat}:erL (ns.map nT)=ns.map nT:=by rw[fk];rfl
theorem tU{b:Bool}{ns:List Nat}:er (ndT b ns)=ndT b ns:=by
 cases b
 ·show er (.tup (ns.map nT))=.tup (ns.map nT)
  rw[er,fS]
 show er (.lst false (ns.map nT))=.lst false (ns.map nT)
 rw[er,fS]
theorem xb{b:Bool}{ns:List Nat}:isAny (ndT b ns)=false:=by cases b <;> rfl
theorem cA{b:Bool}{ns:List Nat}:items (ndT b ns)=some (ns.map nT):=by cases b <;> rfl
theorem fW{j:Jb}:er (jbT j)=jbT j:=by
 unfold jbT
 cases j.a
 ·show er (.tup [.int j.tool,ndT j.b j.needs])=.tup [.int j.tool,ndT j.b j.needs]
  rw[er,erL,erL,erL,tU];rfl
 show er (.lst false [.int j.tool,ndT j.b j.needs])=.lst false [.int j.tool,ndT j.b j.needs]
 rw[er,erL,erL,erL,tU];rfl
theorem cY{j:Jb}:isAny (jbT j)=false:=by unfold jbT;cases j.a <;> rfl
theorem d3{j:Jb}:aX (jbT j)=true:=by rw[<-fW];exact bF _
theorem iY{j:Jb}{k:T->Prop}:ixT (jbT j) (.int 0) k=k (.int j.tool):=by unfold jbT;cases j.a <;> rfl
theorem iP{j:Jb}{k:T->Prop}:ixT (jbT j) (.int 1) k=k (ndT j.b j.needs):=by unfold jbT;cases j.a <;> rfl
theorem eK{c o:Bool}{J:List Jb}:er (jsT c o J)=jsT c false J:=by
 have e:erL (J.map jbT)=J.map jbT:=by rw[fk];exact JF fun _ _=>fW
 cases c
 ·show er (.lst o (J.map jbT))=.lst false (J.map jbT)
  rw[er,e]
 show er (.tup (J.map jbT))=.tup (J.map jbT)
 rw[er,e]
theorem cC{c o:Bool}{J:List Jb}:isAny (jsT c o J)=false:=by cases c <;> rfl
theorem de{c o:Bool}{J:List Jb}:items (jsT c o J)=some (J.map jbT):=by cases c <;> rfl
theorem sP(n:Nat):(((2 ^ n:Nat):Int) - 1)=((2 ^ n - 1:Nat):Int):=by
 have:0 < 2 ^ n:=JH n
 omega
theorem md{l:List Nat}:bC (l.map nT)=true:=by rw[jx];exact JB.mpr fun _ _=>rfl
theorem qx{l:List Nat}:intsOf (l.map nT)=some (ci l):=by
 rw[show l.map nT=(ci l).map T.int by unfold ci;rw[Jj];rfl]
 exact cG _
theorem C3{R:Rws}{d i:Nat}{r:Int × Nat}(h:R[i]?=some r):((o_ (i + 1)).filter (rdB R d)).map nT=((o_ i).filter (rdB R d)).map nT++if !d.testBit i && (r.2 &&& d == r.2)then [nT i]else []:=by
 rw[Kh,Ki,z_]
 congr 1
 have:rdB R d i=(!d.testBit i && (r.2 &&& d == r.2)):=by unfold rdB;rw[h]
 rw[KL,Mc,this]
 split <;> rfl
theorem Ej(a b:Nat):decide (((a &&& b:Nat):Int)=(a:Int))=(a &&& b == a):=by
 by_cases h:a &&& b=a
 ·rw[h,decide_eq_true rfl,beq_self_eq_true]
 rw[decide_eq_false (by omega)]
 exact(beq_eq_false_iff_ne.mpr h).symm
theorem fA{α:Type}{g:α->T}{l:List α}{n i:Nat}{t:T}(h:(M6 (fun(i:Nat) x=>T.tup [T.int (i:Int),x]) (o_ n) (l.map g))[i]?=some t):∃ x,l[i]?=some x/\t=.tup [.int (i:Int),g x]:=by
 rw[Mk,A']at h
 cases e1:(o_ n)[i]? with
 | none=>rw[e1]at h;cases h
 | some j=>
  cases e2:l[i]? with
  | none=>rw[e1,e2]at h;cases h
  | some x=>
   rw[e1,e2]at h
   cases h
   obtain⟨h1,h2⟩:=c_.mp e1
   rw[LD]at h2
   exact⟨x,rfl,by rw[h2]⟩
theorem cE{α:Type}{g:α->T}{l:List α}:(M6 (fun(i:Nat) x=>T.tup [T.int (i:Int),x]) (o_ l.length) (l.map g)).length=l.length:=by
 rw[Mu,u_,b_];omega
theorem zl{R:Rws}:intsOf (R.map fun r=>T.int r.1)=some (R.map fun r=>r.1):=by
 rw[show(R.map fun r=>T.int r.1)=(R.map fun r=>r.1).map T.int by rw[Jj];rfl]
 exact cG _
theorem dc{c:Bool}{J:List Jb}:aX (jsT c false J)=true:=by rw[<-eK (o:=false)];exact bF _
theorem uB{d i:Nat}:(d &&& 2 ^ i=0)↔d.testBit i=false:=by
 constructor
 ·intro h
  have:=congrArg (fun x=>x.testBit i) h
  simp only[Lp,Nat.testBit_two_pow_self,MY,Lh]at this
  exact this
 intro h
 apply Kc
 intro j
 rw[Lp,Mv,Lh]
 by_cases e:i=j
 ·subst e;rw[h];rfl
 rw[decide_eq_false e,MT]
theorem IK(d i:Nat):(((d &&& 2 ^ i:Nat):Int) != 0)=d.testBit i:=by
 cases e:d.testBit i with
 | false=>rw[uB.mpr e];rfl
 | true=>
  refine bne_iff_ne.mpr fun z=>?_
  have:d &&& 2 ^ i=0:=by omega
  rw[uB.mp this]at e
  cases e
def mn0:List Int->Int
 | []=>0
 | x::l=>l.foldl min x
theorem pX:∀(l:List Int) (x:Int),l.foldl min x<=x/\∀ y∈l,l.foldl min x<=y
 | [],x=>⟨M_ _,fun y m=>nomatch m⟩
 | z::l,x=>by
  obtain⟨h1,h2⟩:=pX l (min x z)
  rw[Lk]
  refine⟨by omega,fun y m=>?_⟩
  rcases m_.mp m with rfl | m
  ·omega
  exact h2 y m
theorem m4:∀(l:List Int) (x:Int),l.foldl min x=x\/l.foldl min x∈l
 | [],x=>.inl rfl
 | z::l,x=>by
  rw[Lk]
  rcases m4 l (min x z)with h | h
  ·by_cases q:x<=z
   ·exact .inl (by rw[h];omega)
   exact .inr (by rw[h,show min x z=z by omega];exact p_)
  exact .inr (n_ _ h)
theorem FQ{l:List Int}{m:Int}(h:l=[]/\m=0\/m∈l/\∀ n∈l,m<=n):m=mn0 l:=by
 rcases h with⟨rfl,rfl⟩ | ⟨h1,h2⟩
 ·rfl
 cases l with
 | nil=>cases h1
 | cons x l=>
  have a:=pX l x
  have b:mn0 (x::l)∈x::l:=(m4 l x).elim (fun e=>by show l.foldl min x∈_;rw[e];exact p_) (n_ _)
  have c:=h2 _ b
  have d:mn0 (x::l)<=m:=(m_.mp h1).elim (fun e=>by rw[e];exact a.1) (a.2 m)
  omega
noncomputable def lv(R:Rws):Nat->Nat->Option Int->Int
 | 0,_,_=>0
 | f + 1,d,t=>mn0 ((rdy R d).map fun i=>lv R f (d ||| 2 ^ i) (some (tl R i)) + cst t (tl R i))
theorem vW{R:Rws}:∀(f g d:Nat) (t:Option Int),d < 2 ^ R.length->2 ^ R.length - d<=f->2 ^ R.length - d<=g->lv R f d t=lv R g d t
 | 0,g,d,t,hd,hf,_=>by omega
 | f + 1,0,d,t,hd,_,hg=>by omega
 | f + 1,g + 1,d,t,hd,hf,hg=>by
  rw[lv,lv]
  congr 1
  refine JF fun i m=>?_
  have h1:=uI (cx m)
  have h2:=fG hd (aR m)
  rw[vW f g (d ||| 2 ^ i) _ h2 (by omega) (by omega)]
def Lv(R:Rws)(d:Nat)(t:Option Int):Int:=lv R (2 ^ R.length) d t
theorem qC{R:Rws}{d:Nat}{t:Option Int}(hd:d < 2 ^ R.length):Lv R d t=mn0 ((rdy R d).map fun i=>Lv R (d ||| 2 ^ i) (some (tl R i)) + cst t (tl R i)):=by
 unfold Lv
 rw[vW _ (2 ^ R.length + 1) d t hd (by omega) (by omega),lv]
theorem fP(R:Rws):zd R (Lv R):=fun d t hd ht=>by
 have e:=qC (t:=t) hd
 cases h:rdy R d with
 | nil=>exact .inl ⟨h,by rw[e,h];rfl⟩
 | cons i l=>
  rw[h]at e
  have a:=pX (l.map fun i=>Lv R (d ||| 2 ^ i) (some (tl R i)) + cst t (tl R i)) (Lv R (d ||| 2 ^ i) (some (tl R i)) + cst t (tl R i))
  refine .inr ⟨?_,fun j m=>?_⟩
  ·rw[e,h]
   rcases m4 (l.map fun i=>Lv R (d ||| 2 ^ i) (some (tl R i)) + cst t (tl R i)) (Lv R (d ||| 2 ^ i) (some (tl R i)) + cst t (tl R i))with q | q
   ·exact⟨i,p_,q⟩
   obtain⟨j,m,ej⟩:=B'.mp q
   exact⟨j,n_ _ m,ej.symm⟩
  rw[h]at m
  rw[e]
  rcases m_.mp m with rfl | m
  ·exact a.1
  exact a.2 _ (B'.mpr ⟨j,m,rfl⟩)
abbrev Ent:=(Nat × Option Int) × Int
def tK:Option Int->Key
 | none=>.inr none
 | some x=>.inl x
def tT:Option Int->T
 | none=>.non
 | some x=>.int x
def kD(d:Nat)(t:Option Int):List Key:=[.inl (d:Int),tK t]
def dM(D:List Ent):List (List Key × T):=D.map fun e=>(kD e.1.1 e.1.2,.int e.2)
theorem Et{a b:Option Int}(h:tK a=tK b):a=b:=by
 cases a <;> cases b <;> cases h <;> rfl
theorem xX{d d':Nat}{t t':Option Int}(h:kD d t=kD d' t'):(d,t)=(d',t'):=by
 obtain⟨h1,h2⟩:=JC h
 have h1:=SW h1
 rw[Et (JC h2).1,show d=d' by omega]
def DOk(R:Rws)(D:List Ent):Prop:=∀ e∈D,e.2=Lv R e.1.1 e.1.2
theorem sS{R:Rws}:∀ {D:List Ent} {d:Nat} {t:Option Int},DOk R D->(d,t)∈D.map (·.1)->jk (dM D) (kD d t)=some (.int (Lv R d t)):=by
 intro D d t
 induction D with
 | nil=>intro _ m;cases m
 | cons e D ih=>
  intro ok m
  show Kb _ (Nb _ ((kD e.1.1 e.1.2,T.int e.2)::dM D))=_
  rw[Jn]
  by_cases z:kD e.1.1 e.1.2=kD d t
  ·rw[decide_eq_true z]
   have:=xX z
   have oe:=ok e p_
   have e1:e.1.1=d:=congrArg (·.1) this
   have e2:e.1.2=t:=congrArg (·.2) this
   show some (T.int e.2)=_
   rw[oe,e1,e2]
  rw[decide_eq_false z]
  refine ih (fun e m=>ok e (n_ _ m)) ?_
  rw[f_]at m
  rcases m_.mp m with q | q
  ·exact absurd (by rw[<-q]) z
  exact q
theorem FZ{D:List Ent}{d:Nat}{t:Option Int}{v:Int}(h:(d,t) ∉ D.map (·.1)):e7 (dM D) (kD d t) (.int v)=dM (D++[((d,t),v)]):=by
 unfold e7
 have:((dM D).any fun kv=>decide (kv.1=kD d t))=false:=by
  rw[JD]
  intro z
  obtain⟨kv,m,e⟩:=J3.mp z
  obtain⟨e',m',rfl⟩:=B'.mp m
  have:=xX (of_decide_eq_true e)
  exact h (B'.mpr ⟨e',m',this⟩)
 rw[this]
 show dM D++[(kD d t,T.int v)]=_
 unfold dM
 rw[z_]
 rfl
theorem sC{D:List Ent}:erT (dM D)=dM D:=by
 unfold dM
 induction D with
 | nil=>rfl
 | cons e D ih=>rw[f_,erT,ih];rfl
theorem mI{t:Option Int}:cR [tT t]=some [tK t]:=by cases t <;> rfl
theorem sA{t:Option Int}:er (tT t)=tT t:=by cases t <;> rfl
theorem eR{t:Option Int}:isAny (tT t)=false:=by cases t <;> rfl
theorem eA{t:Option Int}:aX (tT t)=true:=by cases t <;> rfl
theorem i8{t:Option Int}:bK (tT t)=true:=by cases t <;> rfl
theorem sF{t:Option Int}{u:Int}{k:T->Prop}:eqT (tT t) (.int u) k=k (.bl (decide (t=some u))):=by
 cases t with
 | none=>
  have e:eqD (dt (tT none)) (dt (.int u))=decide (none=some u):=by
   show eqD (dt .non) (dt (.int u))=decide (none=some u)
   rw[decide_eq_false (fun z=>nomatch z)]
   simp only[dt,eqD]
  unfold eqT
  rw[e]
  exact propext ⟨fun h=>h.2.2.2,fun h=>⟨rfl,rfl,show(0:Nat) < 190 by decide,h⟩⟩
 | some x=>
  refine xF.trans ?_
  rw[show decide (x=u)=decide (some x=some u)from decide_eq_decide.mpr ⟨congrArg some,D_⟩]
theorem eI{D:List Ent}:eC (dM D)=true:=by
 unfold dM
 induction D with
 | nil=>rfl
 | cons e D ih=>rw[f_,eC,ih];rfl
theorem gC{D:List Ent}:iG (dM D)=true:=by
 unfold dM
 induction D with
 | nil=>rfl
 | cons e D ih=>rw[f_,iG,ih];rfl
theorem gL:iG []=true:=rfl
theorem dA{α:Type}{g:α->T}{l:List α}{i:Nat}{x:α}(h:l[i]?=some x):atI (l.map g) (i:Int)=some (g x):=kx (by rw[A',h];rfl)
theorem zf{R:Rws}{i:Nat}(h:i < R.length):∃ m,R[i]?=some (tl R i,m):=by
 refine⟨R[i].2,?_⟩
 unfold tl
 rw[C',a_ h]
 rfl
theorem Dx{R:Rws}{ms:List Int}(h:∀ x,x∈ms↔∃ r∈R,x=r.1)(t:Option Int):t∈none::ms.map some↔TS R t:=by
 rw[m_,B']
 refine or_congr_right ⟨?_,?_⟩
 ·rintro⟨x,m,rfl⟩
  obtain⟨r,mr,rfl⟩:=(h x).mp m
  obtain⟨i,hi,e⟩:=Jp.mp mr
  refine⟨i,hi,?_⟩
  unfold tl
  rw[C',a_ hi,e]
  rfl
 rintro⟨i,hi,rfl⟩
 obtain⟨m,em⟩:=zf hi
 exact⟨tl R i,(h _).mpr ⟨_,y_ em,rfl⟩,rfl⟩
theorem Cj{R:Rws}{ms:List Int}(u:ms.Pairwise (· < ·))(h:∀ x,x∈ms↔∃ r∈R,x=r.1):(none::ms.map some).length<=R.length + 1:=by
 have:=cc (m:=R.map (·.1)) (u.imp fun h=>L8 h) fun z hz=>by
  obtain⟨r,m,rfl⟩:=(h z).mp hz
  exact B'.mpr ⟨r,m,rfl⟩
 rw[b_]at this
 rw[i_,b_]
 omega
theorem AZ{ms:List Int}:T.non::Kq (fun x=>T.int x) ms=(none::ms.map some).map tT:=by
 rw[f_,Jj];rfl
theorem Eh{ms:List Int}(u:ms.Pairwise (· < ·)):(none::ms.map some).Nodup:=by
 refine D'.mpr ⟨fun z=>?_,?_⟩
 ·obtain⟨x,_,e⟩:=B'.mp z
  cases e
 unfold Nc
 rw[JA]
 exact u.imp fun h e=>L8 h (D_ e)
noncomputable def Hld(R:Rws)(D:List Ent)(s:Nat)(l:List (Option Int)):Prop:=DOk R D/\∀ d t,(d,t)∈D.map (·.1)↔(2 ^ R.length - s<=d/\d < 2 ^ R.length/\TS R t)\/(d=2 ^ R.length - 1 - s/\t∈l)
theorem Hn(R:Rws):Hld R [] 0 []:=⟨fun e m=>(by cases m),fun d t=>⟨fun m=>(by cases m),fun h=>by
 rcases h with h | h
 ·omega
 cases h.2⟩⟩
theorem B3{R:Rws}{D:List Ent}{s:Nat}{l:List (Option Int)}{t:Option Int}(h:Hld R D s l):Hld R (D++[((2 ^ R.length - 1 - s,t),Lv R (2 ^ R.length - 1 - s) t)]) s (l++[t]):=by
 obtain⟨h1,h2⟩:=h
 refine⟨fun e m=>?_,fun d u=>?_⟩
 ·rcases F'.mp m with m | m
  ·exact h1 e m
  rw[w_.mp m]
 rw[z_,F',h2 d u,F',f_,Kx,w_,w_,Prod.mk.injEq,and_or_left,or_assoc]
theorem xE{R:Rws}{D:List Ent}{s:Nat}{l:List (Option Int)}(hs:s < 2 ^ R.length)(h:Hld R D s l)(hl:∀ t,t∈l↔TS R t):Hld R D (s + 1) []:=by
 refine⟨h.1,fun d t=>?_⟩
 rw[h.2 d t,hl t]
 constructor
 ·rintro(⟨a,b,c⟩ | ⟨a,b⟩)
  ·exact .inl ⟨by omega,b,c⟩
  exact .inl ⟨by omega,by omega,b⟩
 rintro(⟨a,b,c⟩ | ⟨_,b⟩)
 ·by_cases z:d=2 ^ R.length - 1 - s
  ·exact .inr ⟨z,c⟩
  exact .inl ⟨by omega,b,c⟩
 cases b
theorem Fc{R:Rws}{D:List Ent}{s i:Nat}{l:List (Option Int)}(hs:s < 2 ^ R.length)(h:Hld R D s l)(m:i∈rdy R (2 ^ R.length - 1 - s)):((2 ^ R.length - 1 - s) ||| 2 ^ i,some (tl R i))∈D.map (·.1):=by
 refine(h.2 _ _).mpr (.inl ?_)
 have h1:=uI (cx m)
 have h2:=fG (n:=R.length) (d:=2 ^ R.length - 1 - s) (by omega) (aR m)
 exact⟨by omega,h2,.inr ⟨i,aR m,rfl⟩⟩
theorem y9{l:List Nat}{g:Nat->Int}:intsOf (l.map fun i=>T.int (g i))=some (l.map g):=by
 rw[show(l.map fun i=>T.int (g i))=(l.map g).map T.int by rw[Jj];rfl]
 exact cG _
theorem xP{lo:Int}{n:Nat}:(dnT lo n).length=n:=by unfold dnT;rw[b_,u_]
theorem GQ{lo:Int}{n i:Nat}{t:T}(h:(dnT lo n)[i]?=some t):i < n/\t=.int (lo - i):=by
 have hi:=(c_.mp h).1
 rw[xP]at hi
 unfold dnT at h
 rw[A',Ke hi]at h
 cases h
 exact⟨hi,rfl⟩
theorem iN{α:Type}{l:List α}{j:Nat}{t:α}(nd:l.Nodup)(h:l[j]?=some t):t ∉ l.take j:=fun m=>by
 obtain⟨hj,e⟩:=c_.mp h
 have s:l=l.take j++t::l.drop (j + 1):=by
  rw[<-e,List.getElem_cons_drop,Ja]
 rw[s,JE]at nd
 exact nd.2.2 t m t p_ rfl
noncomputable def gd0(R:Rws)(d:Nat)(t:Option Int):List Nat:=(rdy R d).filter fun i=>decide (Lv R (d ||| 2 ^ i) (some (tl R i)) + cst t (tl R i)=Lv R d t)
theorem lJ{R:Rws}{d:Nat}{t:Option Int}(nr:b8 R)(hd:d < 2 ^ R.length)(ne:d≠2 ^ R.length - 1)(ht:TS R t):∃ i l,gd0 R d t=i::l/\i∈rdy R d/\Lv R (d ||| 2 ^ i) (some (tl R i)) + cst t (tl R i)=Lv R d t/\∀ j∈rdy R d,Lv R (d ||| 2 ^ j) (some (tl R j)) + cst t (tl R j)=Lv R d t->i<=j:=by
 have h0:=pI nr hd ne
 rcases fP R d t hd ht with⟨e,_⟩ | ⟨⟨i,m,e⟩,_⟩
 ·exact absurd e h0
 have hm:i∈gd0 R d t:=Jv.mpr ⟨m,decide_eq_true e.symm⟩
 have up:(gd0 R d t).Pairwise (· < ·):=(Fd R d).filter _
 cases h:gd0 R d t with
 | nil=>rw[h]at hm;cases hm
 | cons i0 l=>
  have m0:i0∈gd0 R d t:=by rw[h];exact p_
  obtain⟨m1,m2⟩:=Jv.mp m0
  refine⟨i0,l,rfl,m1,of_decide_eq_true m2,fun j mj ej=>?_⟩
  have hj:j∈gd0 R d t:=Jv.mpr ⟨mj,decide_eq_true ej⟩
  rw[h]at hj up
  rcases m_.mp hj with rfl | hj
  ·exact d_ _
  exact Jd ((Jw.mp up).1 j hj)
theorem Hv{J:List Jb}{i:Nat}(h:i < J.length):∃ b,J[i]?=some b/\b.tool=tl (ah J) i:=by
 refine⟨J[i],a_ h,?_⟩
 unfold tl ah
 rw[C',A',a_ h]
 rfl
theorem EI{a b:Option Int}:eqD (dt (tT a)) (dt (tT b))=decide (a=b):=by
 cases a with
 | none=>
  cases b with
  | none=>rw[decide_eq_true rfl];rfl
  | some y=>rw[decide_eq_false (fun z=>nomatch z)];show eqD (dt .non) (dt (.int y))=false;simp only[dt,eqD]
 | some x=>
  cases b with
  | none=>rw[decide_eq_false (fun z=>nomatch z)];show eqD (dt (.int x)) (dt .non)=false;simp only[dt,eqD]
  | some y=>
   show eqD (dt (.int x)) (dt (.int y))=_
   rw[dt,dt,eqD,J8]
   exact decide_eq_decide.mpr ⟨congrArg some,D_⟩
theorem o9{a b:Option Int}{k:T->Prop}:neT (tT a) (tT b) k=k (.bl (!decide (a=b))):=by
 unfold neT
 rw[EI]
 refine propext ⟨fun h=>h.2.2.2,fun h=>⟨by cases a <;> rfl,by cases b <;> rfl,?_,h⟩⟩
 cases a
 ·show(0:Nat) < 190;decide
 show(0:Nat) < 190;decide
theorem yD{l:List (Option Int)}{i:Nat}{a b:Option Int}(ha:l[i]?=some a)(hb:l[i + 1]?=some b):((o_ (i + 1)).filter fun k=>decide (l[k]?≠l[k + 1]?)).map (fun _=>T.int 1)=((o_ i).filter fun k=>decide (l[k]?≠l[k + 1]?)).map (fun _=>T.int 1)++if a=b then []else [T.int 1]:=by
 rw[Kh,Ki,z_]
 congr 1
 rw[KL,Mc,ha,hb]
 by_cases e:a=b
 ·rw[if_pos e,if_neg (by simp[e])];rfl
 rw[if_neg e,if_pos (by simpa using e)];rfl
theorem je{i:Nat}:∀(l:List Nat),mS (.int (i:Int)) (l.map nT)=decide (i∈l)
 | []=>rfl
 | a::l=>by
  have:=je (i:=i) l
  unfold mS at this ⊢
  rw[f_,J0,this,dt,dt,eqD,JT,KW,beq_iff_eq,decide_eq_true_iff,decide_eq_true_iff,m_,eq_comm]
  exact or_congr_left ⟨fun h=>by omega,fun h=>by omega⟩
theorem cP:∀(l:List Nat),cT (l.map nT)=true
 | []=>rfl
 | a::l=>by rw[f_,cT,cP l];rfl
theorem qe:∀(l:List Nat),bo (dtL (l.map nT))=0
 | []=>by simp only[Kx,dtL,bo]
 | a::l=>by rw[f_,dtL,bo,qe l,dt,dpt.eq_def];rfl
theorem lQ{l:List Nat}:(bo (dtL (l.map nT)) < 180)=True:=eq_true (by rw[qe];decide)
theorem iU{α:Type}{l:List α}{g:α->Bool}:boolsOf (l.map fun x=>T.bl (g x))=some (l.map g):=by
 induction l with
 | nil=>rfl
 | cons x l ih=>rw[f_,f_,boolsOf,ih]
theorem kO{J:List Jb}{os:List Nat}{i:Nat}{j:Jb}(h:J[i]?=some j):i∈rdy (ah J) (sM os)↔i ∉ os/\∀ n∈j.needs,n∈os:=by
 rw[fy]
 unfold ah
 rw[A',h]
 constructor
 ·rintro⟨r,e,h1,h2⟩
  cases e
  exact⟨p0.mp h1,zY.mp h2⟩
 rintro⟨h1,h2⟩
 exact⟨_,rfl,p0.mpr h1,zY.mpr h2⟩
theorem t7{α:Type}{l:List α}{g:α->Bool}:(l.map g).all id=l.all g:=by rw[K5];rfl
theorem zF{j:Jb}(h:j.a=false):jbT j=.tup [.int j.tool,ndT j.b j.needs]:=by unfold jbT;rw[h];rfl
def joT(j:Jb):T:=.tup [.int j.tool,if j.b then .lst true (j.needs.map nT)else .tup (j.needs.map nT)]
theorem FE{j:Jb}:er (joT j)=jbT ⟨j.tool,j.needs,false,j.b⟩:=by
 unfold joT
 cases j.b
 ·show er (.tup [.int j.tool,.tup (j.needs.map nT)])=.tup [.int j.tool,.tup (j.needs.map nT)]
  simp only[er,erL,fS]
 show er (.tup [.int j.tool,.lst true (j.needs.map nT)])=.tup [.int j.tool,.lst false (j.needs.map nT)]
 simp only[er,erL,fS]
theorem qA{j:Jb}:bK (joT j)=true:=by
 unfold joT
 cases j.b
 ·show bK (.tup [.int j.tool,.tup (j.needs.map nT)])=true
  simp only[bK,bC,md,Ms]
 show bK (.tup [.int j.tool,.lst true (j.needs.map nT)])=true
 simp only[bK,bC,md,Ms]
theorem yx(m:Nat):gu 0 m=(o_ m).map nT:=by
 unfold gu
 exact JF fun i _=>by rw[M7]
theorem sJ{l:List Nat}{i x:Nat}(h:l[i]?=some x):l.Perm (x::l.eraseIdx i):=by
 induction l generalizing i with
 | nil=>simp at h
 | cons a l ih=>
  cases i with
  | zero=>cases h;exact .refl _
  | succ i=>exact((ih (i:=i) h).cons a).trans (.swap _ _ _)
theorem yf{l:List Nat}{i:Nat}:(l.map nT).eraseIdx i=(l.eraseIdx i).map nT:=by
 induction l generalizing i with
 | nil=>rfl
 | cons a l ih=>
  cases i with
  | zero=>rfl
  | succ i=>rw[f_,L9,L9,ih,f_]
theorem yZ{r:Int}(h0:0<=r)(h1:r < 3):∃ ns:List Int,ns.length=5/\(∀ v∈ns,0<=v/\v<=40)/\atI [T.lst true [T.int 0,T.int 1,T.int 2,T.int 3,T.int 4],T.lst true [T.int 3,T.int 7,T.int 0,T.int 11,T.int 2],T.lst true [T.int 40,T.int 5,T.int 1,T.int 6,T.int 0]] r=some (.lst true (ns.map T.int)):=by
 rcases(by omega:r=0\/r=1\/r=2)with rfl | rfl | rfl
 ·exact⟨[0,1,2,3,4],rfl,by decide,rfl⟩
 ·exact⟨[3,7,0,11,2],rfl,by decide,rfl⟩
 exact⟨[40,5,1,6,0],rfl,by decide,rfl⟩
theorem AE{r:Int}(h0:0<=r)(h1:r < 4):∃ v:Nat,1<=v/\v<=8/\atI [T.int 1,T.int 2,T.int 3,T.int 8] r=some (.int (v:Int)):=by
 rcases(by omega:r=0\/r=1\/r=2\/r=3)with rfl | rfl | rfl | rfl
 ·exact⟨1,by decide,by decide,rfl⟩
 ·exact⟨2,by decide,by decide,rfl⟩
 ·exact⟨3,by decide,by decide,rfl⟩
 exact⟨8,by decide,by decide,rfl⟩
noncomputable def JP(os:List Nat)(m p:Nat)(J:List Jb):Prop:=J.length=m/\(∀ j∈J,(j.a=false/\j.b=true/\0<=j.tool/\j.tool<=40)/\j.needs.length<=8/\∀ i∈j.needs,i < m)/\∀ q i,q < p->os[q]?=some i->∃ j,J[i]?=some j/\∀ x∈j.needs,x∈os.take q
theorem IA{os:List Nat}{m:Nat}:JP os m 0 (t_ m ⟨0,[],false,true⟩):=by
 refine⟨Kw ..,fun j mj=>?_,fun q i h=>absurd h (Lm _)⟩
 rw[(List.mem_replicate.mp mj).2]
 exact⟨⟨rfl,rfl,by decide,by decide⟩,G_ _,fun i z=>(by cases z)⟩
theorem yt{os:List Nat}{m p i:Nat}{J:List Jb}{tv:Int}{nds:List Nat}(htv:0<=tv/\tv<=40)(nd:os.Nodup)(mem:∀ i,i∈os↔i < m)(h:JP os m p J)(e:os[p]?=some i)(hl:nds.length<=8)(hn:∀ x∈nds,x∈os.take p):JP os m (p + 1) (J.set i ⟨tv,nds,false,true⟩):=by
 obtain⟨h1,h2,h3⟩:=h
 have im:i < m:=(mem i).mp (y_ e)
 refine⟨by rw[Jg,h1],fun j mj=>?_,fun q a hq ea=>?_⟩
 ·rcases List.mem_or_eq_of_mem_set mj with mj | rfl
  ·exact h2 j mj
  exact⟨⟨rfl,rfl,htv.1,htv.2⟩,hl,fun x hx=>(mem x).mp (JJ (hn x hx))⟩
 by_cases z:q=p
 ·subst z
  rw[e]at ea
  cases ea
  exact⟨_,by rw[Kl (by omega)],hn⟩
 obtain⟨j,ej,hj⟩:=h3 q a (by omega) ea
 refine⟨j,?_,hj⟩
 rw[KC]
 ·exact ej
 rintro rfl
 exact iN nd e (Jt.mpr ⟨q,by rw[JU (by omega)];exact ea⟩)
theorem vv{os:List Nat}{m:Nat}{J:List Jb}(nd:os.Nodup)(mem:∀ i,i∈os↔i < m)(hl:os.length=m)(h:JP os m m J):b8 (ah J):=by
 obtain⟨h1,h2,h3⟩:=h
 have hR:(ah J).length=m:=by unfold ah;rw[b_,h1]
 have key:∀(k p:Nat),p + k=m->Ch (ah J) (sM (os.take p)) (os.drop p):=by
  intro k
  induction k with
  | zero=>
   intro p e
   rw[List.drop_eq_nil_of_le (by omega)]
   trivial
  | succ k ih=>
   intro p e
   have hp:p < os.length:=by omega
   have ep:os[p]?=some os[p]:=a_ hp
   rw[KY hp]
   obtain⟨j,ej,hj⟩:=h3 p os[p] (by omega) ep
   refine⟨(kO ej).mpr ⟨iN nd ep,hj⟩,?_⟩
   have:=ih (p + 1) (by omega)
   rw[JY,ep]at this
   rw[<-mC]
   exact this
 refine⟨os,?_,?_⟩
 ·have:=key m 0 (by omega)
  exact this
 rw[hR]
 exact(jH nd fun i mi=>(mem i).mp mi).mp hl
theorem Fp{m:Nat}:t_ m (T.tup [T.int 0,T.lst false []])=(t_ m (⟨0,[],false,true⟩:Jb)).map jbT:=by rw[LA];rfl
theorem CV{n i:Nat}(h:i < n):ixN n (i:Int)=some i:=by
 unfold ixN
 rw[if_pos (by omega)]
 simp only[C_]
 first | rfl | (rw[if_pos (by omega)])
theorem su{R:Rws}:∀(o:List Nat) (d:Nat),Ch R d o->o.Nodup/\∀ i∈o,i < R.length/\d.testBit i=false
 | [],d,_=>⟨Kd,fun i m=>(by cases m)⟩
 | i::o,d,h=>by
  obtain⟨h1,h2⟩:=su o _ h.2
  have f:∀ j∈o,d.testBit j=false/\i≠j:=fun j m=>by
   have:=(h2 j m).2
   rw[fV,Bool.or_eq_false_iff,decide_eq_false_iff_not]at this
   exact this
  refine⟨D'.mpr ⟨fun m=>(f i m).2 rfl,h1⟩,fun j m=>?_⟩
  rcases m_.mp m with rfl | m
  ·exact⟨aR h.1,cx h.1⟩
  exact⟨(h2 j m).1,(f j m).1⟩
theorem yQ{R:Rws}{o:List Nat}{d:Nat}(h:Ch R d o):o.length<=R.length:=by
 obtain⟨h1,h2⟩:=su o d h
 have:=cc h1 fun i m=>Jh.mpr (h2 i m).1
 rwa[u_]at this
theorem xy{a b:List Nat}(h:ci a=ci b):a=b:=(My (f:=fun(i:Nat)=>(i:Int)) fun x y z=>Int.ofNat.inj z).mp h
theorem mG{R:Rws}{L M:Int}{o p:List Nat}(h:j5 R L o)(g:j5 R M p):L=M/\o=p:=by
 have e1:=h.2.2 p g.1
 have e2:=g.2.2 o h.1
 rw[g.2.1]at e1
 rw[h.2.1]at e2
 have:=v7 e2 e1
 exact⟨(JC this).1,xy (JC this).2⟩
theorem yJ{L:Int}{o:Bool}{x:List Nat}(h:x.length<=100):Gd (.tup [.int L,.lst o (x.map nT)]) 2:=
 IP (l9 Es (l9 (Gv (vC fun _ _=>Es) (by rw[b_];omega)) vm)) (show 2<=100000 by decide)
theorem iV{ts:List T}{i:Int}{t:T}{k:T->Prop}:wY (.lst true ts) (.int i) t k=cj (ixN ts.length i) (k:=⟨fun j=>k (.lst true (ts.set j t))⟩):=rfl
theorem pO{R:Rws}{o:List Nat}(c:Cmp R 0 o)(i:Nat):i∈o↔i < R.length:=by
 constructor
 ·intro m
  exact((su o 0 c.1).2 i m).1
 intro h
 have:(sM o).testBit i=true:=by
  rw[show sM o=2 ^ R.length - 1 from c.2,bX,decide_eq_true h]
 exact bN.mp this
def mkR(R:Rws)(i:Nat):Nat:=(R.getD i (0,0)).2
theorem DI{R:Rws}{i:Nat}(h:i < R.length):R[i]?=some (tl R i,mkR R i):=by
 unfold tl mkR
 rw[C',a_ h]
 rfl
theorem uH{R:Rws}{d i:Nat}:i∈rdy R d↔i < R.length/\d.testBit i=false/\Sub (mkR R i) d:=by
 rw[fy]
 constructor
 ·rintro⟨r,e,h⟩
  have hi:=(c_.mp e).1
  rw[DI hi]at e
  cases e
  exact⟨hi,h⟩
 rintro⟨hi,h⟩
 exact⟨_,DI hi,h⟩
theorem tR{t:Option Int}{u:Int}:0<=cst t u/\cst t u<=1:=by unfold cst;split <;> decide
theorem Dc{u:Int}:cst (some u) u=0:=if_pos rfl
theorem rQ{t:Option Int}{u:Int}(h:t≠some u):cst t u=1:=if_neg h
theorem FK{α:Type}{l:List α}{i j:Nat}{a:α}(nd:l.Nodup)(e1:l[i]?=some a)(e2:l[j]?=some a):i=j:=by
 rcases Nat.lt_trichotomy i j with h | h | h
 ·exact absurd (Jt.mpr ⟨i,by rw[JU h];exact e1⟩) (iN nd e2)
 ·exact h
 exact absurd (Jt.mpr ⟨j,by rw[JU h];exact e2⟩) (iN nd e1)
theorem yn{R:Rws}:∀(o:List Nat) (d:Nat),Ch R d o↔∀ p i,o[p]?=some i->i∈rdy R (orM d (o.take p))
 | [],d=>⟨fun _ p i h=>(by cases h),fun _=>trivial⟩
 | a::o,d=>by
  show _/\_↔_
  rw[yn o]
  constructor
  ·rintro⟨h1,h2⟩ p i e
   cases p with
   | zero=>cases e;exact h1
   | succ p=>exact h2 p i e
  intro h
  exact⟨h 0 a rfl,fun p i e=>h (p + 1) i e⟩
def JOk(J:List Jb):Prop:=∀ j∈J,(j.a=false/\j.b=true/\0<=j.tool/\j.tool<=40)/\j.needs.length<=8/\∀ i∈j.needs,i < J.length
theorem Di{J:List Jb}(h:JOk J)(hl:J.length<=1000):∀ j∈J,∀ n∈j.needs,n<=1000:=fun j m n mn=>by
 have:=(h j m).2.2 n mn
 omega
theorem qy{J:List Jb}{i:Nat}{j:Jb}(h:J[i]?=some j):i < (ah J).length/\tl (ah J) i=j.tool/\mkR (ah J) i=sM j.needs:=by
 have hi:=(c_.mp h).1
 have e:(ah J)[i]?=some (j.tool,sM j.needs):=by unfold ah;rw[A',h];rfl
 have hl:i < (ah J).length:=(c_.mp e).1
 rw[DI hl]at e
 have:=D_ e
 exact⟨hl,congrArg (·.1) this,congrArg (·.2) this⟩
theorem cJ{J:List Jb}:(ah J).length=J.length:=b_ ..
def frJ(J:List Jb):List Jb:=J.map fun j=>⟨j.tool,j.needs,false,j.b⟩
theorem xv{o:Bool}{J:List Jb}:er (.lst o (J.map joT))=jsT false false (frJ J):=by
 show T.lst false (erL (J.map joT))=.lst false ((frJ J).map jbT)
 rw[fk]
 unfold frJ
 rw[Jj]
 exact congrArg _ (JF fun j _=>FE)
theorem EA{o:Bool}{J:List Jb}{k:T->List T->Prop}(hl:J.length<=10)(hn:∀ j∈J,∀ n∈j.needs,n<=1000)(nr:b8 (ah J))(q:∀(L:Int) (os:List Nat) z,j5 (ah J) L os->k (.tup [.int L,.lst true (os.map nT)]) [z]):∃(t:T) (c:Bool) (J':List Jb),[T.lst o (J.map fun x=>jbT x)]=[t]/\er t=jsT c false J'/\isAny t=false/\J'.length<=10/\(∀ j∈J',∀ n∈j.needs,n<=1000)/\b8 (ah J')/\∀(L:Int) (os:List Nat) z,j5 (ah J') L os->k (.tup [.int L,.lst true (os.map nT)]) [z]:=
 ⟨_,false,J,rfl,eK (c:=false) (o:=o),rfl,hl,hn,nr,q⟩
theorem Dv{a b:List Nat}(h:∀ x,x∈a↔x∈b):sM a=sM b:=by
 apply Kc
 intro j
 rw[JT,bN,bN,h]
theorem zK{p:Nat->Bool}{i:Nat}:((o_ (i + 1)).filter p).map nT=((o_ i).filter p).map nT++if p i then [nT i]else []:=by
 rw[Kh,Ki,z_,KL,Mc]
 congr 1
 split <;> rfl
theorem pT{R:Rws}(nr:b8 R):∀(k d:Nat) (t:Option Int),2 ^ R.length - d<=k->d < 2 ^ R.length->TS R t->∃ o,oS R (Lv R) d t o
 | 0,d,t,hk,hd,_=>by omega
 | k + 1,d,t,hk,hd,ht=>by
  by_cases z:d=2 ^ R.length - 1
  ·subst z
   exact⟨[],kY (fP R) ht⟩
  obtain⟨i,l,_,mi,vi,fi⟩:=lJ nr hd z ht
  have g1:=uI (cx mi)
  have g2:=fG hd (aR mi)
  obtain⟨o,B⟩:=pT nr k (d ||| 2 ^ i) (some (tl R i)) (by omega) g2 (.inr ⟨i,aR mi,rfl⟩)
  exact⟨i::o,jo (fP R) hd ht mi vi fi B⟩
def GO(R:Rws)(u:Int)(d c:Nat):Prop:=(∃ o,Ch R d o/\(∀ i∈o,tl R i=u)/\orM d o=c)/\∀ i∈rdy R c,tl R i≠u
theorem DC{R:Rws}{p o:List Nat}(s:p.Sublist o):∀(t t':Option Int),tkF R t' p<=tkF R t o + if t'=t then 0 else 1:=by
 induction s with
 | slnil=>intro t t';show(0:Int)<=0 + _;split <;> decide
 | cons a s ih=>
  intro t t'
  rw[tkF]
  have h:=ih (some (tl R a)) t'
  have c:=tR (t:=t) (u:=tl R a)
  by_cases q:t=some (tl R a)
  ·rw[<-q]at h
   have c0:cst t (tl R a)=0:=by rw[q,Dc]
   rw[<-q,c0]
   omega
  ·rw[rQ q]
   split at h <;> split <;> omega
 | cons_cons a s ih=>
  intro t t'
  rw[tkF,tkF]
  have h:=ih (some (tl R a)) (some (tl R a))
  rw[if_pos rfl]at h
  have c:=tR (t:=t') (u:=tl R a)
  have c2:=tR (t:=t) (u:=tl R a)
  by_cases z:t'=t
  ·rw[if_pos z,z]
   omega
  rw[if_neg z]
  omega
theorem yA{a d i:Nat}(h:Sub a d):Sub a (d ||| 2 ^ i):=fun j hj=>by rw[fV,h j hj];rfl
theorem AY(d i j:Nat):d ||| 2 ^ i ||| 2 ^ j=d ||| 2 ^ j ||| 2 ^ i:=by rw[M8,M8,Nat.or_comm (2 ^ i)]
theorem qS{R:Rws}{i:Nat}:∀(o:List Nat) (d:Nat),i∈o->i∈rdy R d->Ch R d o->Ch R (d ||| 2 ^ i) (o.erase i)/\orM (d ||| 2 ^ i) (o.erase i)=orM d o
 | [],_,m,_,_=>by cases m
 | j::o,d,m,hr,h=>by
  by_cases z:j=i
  ·subst z
   rw[List.erase_cons_head]
   exact⟨h.2,rfl⟩
  rw[List.erase_cons_tail (by simpa using z)]
  have mo:i∈o:=(m_.mp m).elim (fun e=>absurd e.symm z) id
  obtain⟨a,b,c⟩:=uH.mp hr
  obtain⟨a',b',c'⟩:=uH.mp h.1
  have ih:=qS o (d ||| 2 ^ j) mo (uH.mpr ⟨a,by rw[fV,b,decide_eq_false z];rfl,yA c⟩) h.2
  rw[AY]at ih
  exact⟨⟨uH.mpr ⟨a',by rw[fV,b',decide_eq_false (Oq z)];rfl,yA c'⟩,ih.1⟩,ih.2⟩
theorem CG{R:Rws}(nr:b8 R){d i:Nat}{u:Int}(hd:d < 2 ^ R.length)(mi:i∈rdy R d)(hu:tl R i=u):Lv R d (some u)=Lv R (d ||| 2 ^ i) (some u):=by
 have ht:TS R (some u):=.inr ⟨i,aR mi,by rw[hu]⟩
 have hd':=fG hd (aR mi)
 have le:Lv R d (some u)<=Lv R (d ||| 2 ^ i) (some u):=by
  rcases fP R d (some u) hd ht with⟨e,_⟩ | ⟨_,g⟩
  ·rw[e]at mi;cases mi
  have:=g i mi
  rw[hu,Dc]at this
  omega
 obtain⟨o,B⟩:=pT nr _ d (some u) (d_ _) hd ht
 have mo:i∈o:=by
  have h:=B.1.2
  have:(orM d o).testBit i=true:=by rw[h,bX,decide_eq_true (aR mi)]
  exact((kE o d i).mp this).elim (fun z=>by rw[cx mi]at z;cases z) id
 obtain⟨c1,c2⟩:=qS o d mo mi B.1.1
 have lb:=Ar (fP R) (o.erase i) (d ||| 2 ^ i) (some u) hd' ht ⟨c1,by rw[c2];exact B.1.2⟩
 have ts:=DC (R:=R) (List.erase_sublist (a:=i) (l:=o)) (some u) (some u)
 rw[if_pos rfl,B.2.1]at ts
 omega
theorem rJ{R:Rws}(nr:b8 R){u:Int}:∀(o:List Nat) (d:Nat),d < 2 ^ R.length->Ch R d o->(∀ i∈o,tl R i=u)->Lv R d (some u)=Lv R (orM d o) (some u)/\orM d o < 2 ^ R.length
 | [],d,hd,_,_=>⟨rfl,hd⟩
 | i::o,d,hd,h,hu=>by
  have hd':=fG hd (aR h.1)
  obtain⟨e,l⟩:=rJ nr o _ hd' h.2 fun j m=>hu j (n_ _ m)
  exact⟨(CG nr hd h.1 (hu i p_)).trans e,l⟩
theorem CP{R:Rws}(nr:b8 R){u:Int}{d c:Nat}(hd:d < 2 ^ R.length)(g:GO R u d c):Lv R d (some u)=Lv R c none/\c < 2 ^ R.length:=by
 obtain⟨⟨o,h1,h2,rfl⟩,h3⟩:=g
 obtain⟨e,l⟩:=rJ nr o d hd h1 h2
 refine⟨?_,l⟩
 rw[e,qC l,qC l]
 congr 1
 refine JF fun i m=>?_
 rw[rQ (t:=some u) (fun z=>h3 i m (D_ z).symm),rQ (t:=none) (fun z=>nomatch z)]
theorem CO{R:Rws}{u:Int}{d c i:Nat}(g:GO R u d c)(mi:i∈rdy R d)(hu:tl R i=u):c≠d:=fun z=>by
 rw[z]at g
 exact g.2 i mi hu
theorem yX{R:Rws}{u:Int}{d c:Nat}(g:GO R u d c)(ne:c≠d):∃ i∈rdy R d,tl R i=u:=by
 obtain⟨⟨o,h1,h2,h3⟩,_⟩:=g
 cases o with
 | nil=>exact absurd h3.symm ne
 | cons i o=>exact⟨i,h1.1,h2 i p_⟩
theorem wJ{R:Rws}(nr:b8 R){d:Nat}(hd:d < 2 ^ R.length)(nw:d≠2 ^ R.length - 1){ts:List Int}(hts:∀ x,x∈ts↔∃ i,i < R.length/\x=tl R i){c:Int->Nat}(hc:∀ t∈ts,GO R t d (c t)){m:Int}(h1:∃ t∈ts,c t≠d/\m=Lv R (c t) none)(h2:∀ t∈ts,c t≠d->m<=Lv R (c t) none):1 + m=Lv R d none:=by
 have ok:=fP R d none hd (.inl rfl)
 rcases ok with⟨e,_⟩ | ⟨⟨i,mi,ei⟩,g⟩
 ·exact absurd e (pI nr hd nw)
 have step:∀ j∈rdy R d,Lv R (d ||| 2 ^ j) (some (tl R j))=Lv R (c (tl R j)) none/\c (tl R j)≠d/\tl R j∈ts:=fun j mj=>by
  have tm:tl R j∈ts:=(hts _).mpr ⟨j,aR mj,rfl⟩
  exact⟨by rw[<-CG nr hd mj rfl];exact(CP nr hd (hc _ tm)).1,CO (hc _ tm) mj rfl,tm⟩
 rw[rQ (t:=none) (fun z=>nomatch z)]at ei
 obtain⟨s1,s2,s3⟩:=step i mi
 have a:=h2 _ s3 s2
 obtain⟨t,mt,nt,em⟩:=h1
 obtain⟨j,mj,ej⟩:=yX (hc t mt) nt
 have b:=g j mj
 rw[rQ (t:=none) (fun z=>nomatch z)]at b
 obtain⟨q1,_,_⟩:=step j mj
 rw[ej]at q1
 rw[ej,q1]at b
 omega
theorem lC:∀(a b:List Nat) (d:Nat),orM d (a++b)=orM (orM d a) b
 | [],_,_=>rfl
 | i::a,b,d=>lC a b (d ||| 2 ^ i)
theorem qa{R:Rws}{i:Nat}:∀(g:List Nat) (d:Nat),Ch R d g->i∈rdy R (orM d g)->Ch R d (g++[i])
 | [],d,_,m=>⟨m,trivial⟩
 | j::g,d,h,m=>⟨h.1,qa g _ h.2 m⟩
noncomputable def Gn(J:List Jb)(u:Int)(s f:List Nat):Prop:=f.Nodup/\(∀ i∈f,i < J.length)/\∃ g,f=s++g/\Ch (ah J) (sM s) g/\∀ i∈g,tl (ah J) i=u
theorem Ip{J:List Jb}{u:Int}{s:List Nat}(nd:s.Nodup)(lt:∀ i∈s,i < J.length):Gn J u s s:=⟨nd,lt,[],(H_ _).symm,trivial,fun i m=>(by cases m)⟩
theorem yj{J:List Jb}{u:Int}{s f:List Nat}(h:Gn J u s f):f.length<=J.length:=by
 have:=cc h.1 fun i m=>Jh.mpr (h.2.1 i m)
 rwa[u_]at this
theorem FF{J:List Jb}{u:Int}{s f:List Nat}{i:Nat}(h:Gn J u s f)(m:i∈rdy (ah J) (sM f))(hu:tl (ah J) i=u):Gn J u s (f++[i]):=by
 obtain⟨h1,h2,g,rfl,h3,h4⟩:=h
 have hi:=aR m
 rw[cJ]at hi
 refine⟨JE.mpr ⟨h1,J2 _ _,fun a ma b mb z=>?_⟩,fun a ma=>(F'.mp ma).elim (h2 a) fun z=>by rw[w_.mp z];exact hi,g++[i],(j_ ..),qa g _ h3 ?_,fun a ma=>(F'.mp ma).elim (h4 a) fun z=>by rw[w_.mp z];exact hu⟩
 ·rw[w_.mp mb]at z
  exact p0.mp (cx m) (z ▸ ma)
 have:sM (s++g)=orM (sM s) g:=lC s g 0
 rw[<-this]
 exact m
theorem GV{J:List Jb}{u:Int}{s f:List Nat}(h:Gn J u s f)(c:∀ i∈rdy (ah J) (sM f),tl (ah J) i≠u):GO (ah J) u (sM s) (sM f):=by
 obtain⟨h1,h2,g,rfl,h3,h4⟩:=h
 exact⟨⟨g,h3,h4,(lC s g 0).symm⟩,c⟩
theorem Cs{l m:List Int}(p:l.Perm m):∀ {xs:List Nat},m=ci xs->∃ ys:List Nat,ys.Perm xs/\l=ci ys:=by
 induction p with
 | nil=>exact fun{xs} e=>⟨xs,.refl _,e⟩
 | cons x p ih=>
  intro xs e
  cases xs with
  | nil=>cases e
  | cons y xs=>
   obtain⟨e1,e2⟩:=JC e
   obtain⟨ys,q,r⟩:=ih e2
   exact⟨y::ys,.cons y q,by rw[r,e1];rfl⟩
 | swap x y l=>
  intro xs e
  match xs,e with
  | a::b::xs,e=>
   obtain⟨e1,e2⟩:=JC e
   obtain⟨e2,e3⟩:=JC e2
   exact⟨b::a::xs,.swap _ _ _,by rw[e1,e2,e3];rfl⟩
 | trans p q ih jh=>
  intro xs e
  obtain⟨ys,y1,y2⟩:=jh e
  obtain⟨zs,z1,z2⟩:=ih y2
  exact⟨zs,z1.trans y1,z2⟩
theorem uZ(f:List Nat)(nd:f.Nodup):∃ r:List Nat,r.Perm f/\yo (ci f)=ci r/\r.Pairwise (· < ·):=by
 obtain⟨r,p,e⟩:=Cs (jm (lt:=ZS.ltI) (ci f)) (xs:=f) rfl
 refine⟨r,p,e,?_⟩
 have s:=dQ ZS.zN (ci f)
 rw[show tX ZS.ltI (ci f)=ci r from e]at s
 unfold ci at s
 rw[JA]at s
 have nr:r.Nodup:=p.nodup_iff.mpr nd
 refine(s.and nr).imp fun{a b} h=>?_
 have h1:¬((b:Int) < a):=of_decide_eq_false h.1
 have h2:=h.2
 omega
theorem zS{o:Bool}{f:List Nat}{k:T->Prop}:oI [.lst o (f.map fun x=>nT x)] k=k (.lst true ((yo (ci f)).map T.int)):=by
 show(match intsOf (f.map nT)with | some ns=>k (.lst true ((yo ns).map T.int)) | none=>_)=_
 rw[qx]
theorem CJ{r:List Nat}:(ci r).map T.int=r.map nT:=by unfold ci;rw[Jj];rfl
def kdT(R:Rws)(E:List (List Nat)):List (List Key × T):=E.map fun s=>(kI (ci s),.int (Lv R (sM s) none))
theorem xu{R:Rws}{t:Option Int}:Lv R (2 ^ R.length - 1) t=0:=by
 have:0 < 2 ^ R.length:=JH _
 rw[qC (by omega),d4]
 rfl
theorem xI{a b:List Nat}:kI (ci a)=kI (ci b)↔a=b:=⟨fun h=>xy (EM h),fun h=>by rw[h]⟩
theorem tV{R:Rws}{s:List Nat}:∀(E:List (List Nat)),jk (kdT R E) (kI (ci s))=if s∈E then some (.int (Lv R (sM s) none))else none
 | []=>rfl
 | a::E=>by
  show Kb _ (Nb _ ((kI (ci a),T.int (Lv R (sM a) none))::kdT R E))=_
  rw[Jn]
  by_cases z:a=s
  ·subst z
   rw[decide_eq_true rfl,if_pos p_]
   rfl
  rw[decide_eq_false (fun w=>z (xI.mp w))]
  refine(tV E).trans ?_
  by_cases w:s∈E
  ·rw[if_pos w,if_pos (n_ _ w)]
  rw[if_neg w,if_neg (fun q=>(m_.mp q).elim (fun e=>z e.symm) w)]
theorem Dk{R:Rws}{s:List Nat}{E:List (List Nat)}(h:s ∉ E):e7 (kdT R E) (kI (ci s)) (.int (Lv R (sM s) none))=kdT R (E++[s]):=by
 unfold e7
 have:((kdT R E).any fun kv=>decide (kv.1=kI (ci s)))=false:=by
  rw[JD]
  intro z
  obtain⟨kv,m,e⟩:=J3.mp z
  obtain⟨a,ma,rfl⟩:=B'.mp m
  exact h (xI.mp (of_decide_eq_true e) ▸ ma)
 rw[this]
 show kdT R E++[_]=_
 unfold kdT
 rw[z_]
 rfl
theorem Bk{R:Rws}{s:List Nat}{E:List (List Nat)}(h:s∈E):e7 (kdT R E) (kI (ci s)) (.int (Lv R (sM s) none))=kdT R E:=by
 unfold e7
 have:((kdT R E).any fun kv=>decide (kv.1=kI (ci s)))=true:=J3.mpr ⟨_,B'.mpr ⟨s,h,rfl⟩,decide_eq_true rfl⟩
 rw[if_pos this]
 refine(JF fun kv m=>?_).trans (Mg _)
 obtain⟨a,ma,rfl⟩:=B'.mp m
 by_cases z:kI (ci a)=kI (ci s)
 ·rw[if_pos z,xI.mp z];rfl
 rw[if_neg z];rfl
theorem qZ{R:Rws}{E:List (List Nat)}:erT (kdT R E)=kdT R E:=by
 unfold kdT
 induction E with
 | nil=>rfl
 | cons e D ih=>rw[f_,erT,ih];rfl
theorem eV{R:Rws}{E:List (List Nat)}:eC (kdT R E)=true:=by
 unfold kdT
 induction E with
 | nil=>rfl
 | cons e D ih=>rw[f_,eC,ih];rfl
theorem zL{J:List Jb}:intsOf (J.map fun j=>T.int j.tool)=some (J.map fun j=>j.tool):=by
 rw[show(J.map fun j=>T.int j.tool)=(J.map fun j=>j.tool).map T.int by rw[Jj];rfl]
 exact cG _
noncomputable def Gr(J:List Jb)(s:List Nat)(u:Int)(r:List Nat):Prop:=r.Pairwise (· < ·)/\(∀ i∈r,i < J.length)/\(∀ i∈s,i∈r)/\GO (ah J) u (sM s) (sM r)
theorem vK:∀(a b:List Nat),eqL (dtL (a.map nT)) (dtL (b.map nT))=decide (a=b)
 | [],[]=>rfl
 | [],_::_=>rfl
 | _::_,[]=>rfl
 | x::a,y::b=>by
  rw[f_,f_,dtL,dtL,eqL,vK a b,dt,dt,eqD,JT,E_,decide_eq_true_iff,decide_eq_true_iff,beq_iff_eq,JW]
  exact and_congr_left fun _=>⟨fun h=>by omega,fun h=>by omega⟩
theorem lP{a b:List Nat}{k:T->Prop}:neT (.tup (a.map fun x=>nT x)) (.tup (b.map fun x=>nT x)) k=k (.bl (!decide (a=b))):=by
 unfold neT
 rw[show dt (.tup (a.map fun x=>nT x))=.tup (dtL (a.map nT))from rfl,show dt (.tup (b.map fun x=>nT x))=.tup (dtL (b.map nT))from rfl,show ∀ x y,eqD (.tup x) (.tup y)=eqL x y from fun x y=>by rw[eqD],vK]
 refine propext ⟨fun h=>h.2.2.2,fun h=>⟨?_,?_,?_,h⟩⟩
 ·rw[isD];exact cP a
 ·rw[isD];exact cP b
 rw[dpt,qe];decide
theorem pD:∀ {a b:List Nat},a.Pairwise (· < ·)->b.Pairwise (· < ·)->(∀ x,x∈a↔x∈b)->a=b
 | [],[],_,_,_=>rfl
 | [],y::b,_,_,h=>by have:=(h y).mpr p_;cases this
 | x::a,[],_,_,h=>by have:=(h x).mp p_;cases this
 | x::a,y::b,ha,hb,h=>by
  obtain⟨a1,a2⟩:=Jw.mp ha
  obtain⟨b1,b2⟩:=Jw.mp hb
  have e:x=y:=by
   rcases m_.mp ((h x).mp p_)with e | m
   ·exact e
   rcases m_.mp ((h y).mpr p_)with e | m'
   ·exact e.symm
   have:=b1 x m
   have:=a1 y m'
   omega
  subst e
  rw[pD a2 b2 fun z=>?_]
  constructor
  ·intro m
   rcases m_.mp ((h z).mp (n_ _ m))with e | m'
   ·have:=a1 z m;omega
   exact m'
  intro m
  rcases m_.mp ((h z).mpr (n_ _ m))with e | m'
  ·have:=b1 z m;omega
  exact m'
theorem CB{a b:List Nat}(ha:a.Pairwise (· < ·))(hb:b.Pairwise (· < ·)):sM a=sM b↔a=b:=⟨fun h=>pD ha hb fun x=>by rw[<-bN,<-bN,h],fun h=>by rw[h]⟩
theorem BL{J:List Jb}{s:List Nat}{u:Int}{r:List Nat}(us:s.Pairwise (· < ·))(h:Gr J s u r)(ne:r≠s):s.length < r.length:=by
 obtain⟨h1,_,h3,_⟩:=h
 have:∃ x∈r,x ∉ s:=PZ fun z=>ne (pD h1 us fun x=>⟨fun m=>PZ fun w=>z ⟨x,m,w⟩,h3 x⟩)
 obtain⟨x,mx,nx⟩:=this
 have:=cc (l:=x::s) (m:=r) (D'.mpr ⟨nx,us.imp fun h=>r_ h⟩) fun y m=>(m_.mp m).elim (fun e=>e ▸ mx) (h3 y)
 rw[i_]at this
 omega
def EOk(N:Nat)(E:List (List Nat)):Prop:=E.Nodup/\∀ e∈E,e.Pairwise (· < ·)/\∀ i∈e,i < N
theorem AR{N:Nat}{E:List (List Nat)}(h:EOk N E):E.length<=2 ^ N:=by
 have nd:(E.map sM).Nodup:=by
  unfold Nc
  rw[JA]
  refine JI (fun{a b} ma mb hab e=>hab ((CB (h.2 a ma).1 (h.2 b mb).1).mp e)) h.1
 have:=cc nd (m:=o_ (2 ^ N)) fun z hz=>by
  obtain⟨e,me,rfl⟩:=B'.mp hz
  exact Jh.mpr (o8 (h.2 e me).2)
 rwa[b_,u_]at this
theorem BB{N:Nat}{E:List (List Nat)}{s:List Nat}(h:EOk N E)(us:s.Pairwise (· < ·))(lt:∀ i∈s,i < N)(ns:s ∉ E):EOk N (E++[s]):=
 ⟨JE.mpr ⟨h.1,J2 _ _,fun a ma b mb z=>ns (by rw[<-w_.mp mb,<-z];exact ma)⟩,fun e me=>(F'.mp me).elim (h.2 e) fun z=>by rw[w_.mp z];exact⟨us,lt⟩⟩
theorem yU{α:Type}{l:List α}{g:α->Int}:intsOf (l.map fun x=>T.int (g x))=some (l.map g):=by
 rw[show(l.map fun x=>T.int (g x))=(l.map g).map T.int by rw[Jj];rfl]
 exact cG _
theorem zg{J:List Jb}(nr:b8 (ah J)){s:List Nat}(us:s.Pairwise (· < ·))(lt:∀ i∈s,i < J.length)(nw:sM s≠2 ^ (ah J).length - 1){ts:List Int}(u1:ts.Pairwise (· < ·))(u2:∀ x,x∈ts↔x∈J.map fun j=>j.tool){rs:List (List Nat)}(hl:rs.length=ts.length)(hg:∀(p:Nat) (u:Int) (r:List Nat),ts[p]?=some u->rs[p]?=some r->Gr J s u r):rs.filter (fun r=>!decide (r=s))≠[]/\∀ m,m∈(rs.filter (fun r=>!decide (r=s))).map (fun r=>Lv (ah J) (sM r) none)->(∀ x∈(rs.filter (fun r=>!decide (r=s))).map (fun r=>Lv (ah J) (sM r) none),m<=x)->1 + m=Lv (ah J) (sM s) none:=by
 have hd:sM s < 2 ^ (ah J).length:=o8 (by rw[cJ];exact lt)
 have hts:∀ x,x∈ts↔∃ i,i < (ah J).length/\x=tl (ah J) i:=fun x=>by
  rw[u2,B']
  constructor
  ·rintro⟨j,m,rfl⟩
   obtain⟨i,hi,rfl⟩:=Jp.mp m
   exact⟨i,by rw[cJ];exact hi,(qy (a_ hi)).2.1.symm⟩
  rintro⟨i,hi,rfl⟩
  rw[cJ]at hi
  exact⟨J[i],JN hi,(qy (a_ hi)).2.1.symm⟩
 have at':∀ t∈ts,∃ p r,ts[p]?=some t/\rs[p]?=some r/\(rs[ts.idxOf t]?).getD []=r/\Gr J s t r:=fun t m=>by
  have hp:ts.idxOf t < ts.length:=LF m
  have e1:ts[ts.idxOf t]?=some t:=by rw[a_ hp,MD]
  have e2:rs[ts.idxOf t]?=some (rs[ts.idxOf t]'(by omega)):=a_ _
  exact⟨_,_,e1,e2,by rw[e2];rfl,hg _ _ _ e1 e2⟩
 have key:∀ m,(∃ t∈ts,sM ((rs[ts.idxOf t]?).getD [])≠sM s/\m=Lv (ah J) (sM ((rs[ts.idxOf t]?).getD [])) none)->(∀ t∈ts,sM ((rs[ts.idxOf t]?).getD [])≠sM s->m<=Lv (ah J) (sM ((rs[ts.idxOf t]?).getD [])) none)->1 + m=Lv (ah J) (sM s) none:=fun m h1 h2=>wJ nr hd nw hts (c:=fun t=>sM ((rs[ts.idxOf t]?).getD [])) (fun t mt=>by
  obtain⟨p,r,_,_,e,G⟩:=at' t mt
  show GO _ _ _ (sM ((rs[ts.idxOf t]?).getD []))
  rw[e]
  exact G.2.2.2) h1 h2
 have mf:∀ t∈ts,sM ((rs[ts.idxOf t]?).getD [])≠sM s->(rs[ts.idxOf t]?).getD []∈rs.filter (fun r=>!decide (r=s)):=fun t mt ne=>by
  obtain⟨p,r,_,e2,e,G⟩:=at' t mt
  rw[e]at ne ⊢
  exact Jv.mpr ⟨y_ e2,by simpa using fun z=>ne (by rw[z])⟩
 refine⟨?_,fun m mm hm=>key m ?_ fun t mt ne=>hm _ (B'.mpr ⟨_,mf t mt ne,rfl⟩)⟩
 ·obtain⟨i,mi⟩:=LU _ (pI nr hd nw)
  have mt:tl (ah J) i∈ts:=(hts _).mpr ⟨i,aR mi,rfl⟩
  refine LB (mf _ mt ?_)
  obtain⟨p,r,_,_,e,G⟩:=at' _ mt
  rw[e]
  exact CO G.2.2.2 mi rfl
 obtain⟨r,mr,rfl⟩:=B'.mp mm
 obtain⟨m1,m2⟩:=Jv.mp mr
 have ne:r≠s:=by simpa using m2
 obtain⟨p,hp,er⟩:=Jp.mp m1
 have e1:ts[p]?=some (ts[p]'(by omega)):=a_ _
 have e2:rs[p]?=some r:=by rw[a_ hp,er]
 have mt:=y_ e1
 generalize ts[p]=t at e1 mt
 have hq:ts.idxOf t < ts.length:=LF mt
 have e3:ts[ts.idxOf t]?=some t:=by rw[a_ hq,MD]
 have pe:ts.idxOf t=p:=FK (u1.imp fun h=>L8 h) e3 e1
 refine⟨t,mt,?_,?_⟩
 ·rw[pe,e2]
  exact fun z=>ne ((CB (hg p t r e1 e2).1 us).mp z)
 rw[pe,e2];rfl
theorem Bx{o o':Bool}{l:List Nat}{k:T->Prop}(h:l.length<=1000)(q:k (.bl false)):neT (.lst o (l.map nT)) (.lst o' (l.map nT)) k:=by
 have g:∀ o,Gd (.lst o (l.map nT)) 1:=fun o=>Gv (vC fun _ _=>Es) (by rw[b_];omega)
 refine⟨(g o).1,(g o').1,Jq (g o).2.2 (by decide),?_⟩
 have e:dt (.lst o (l.map nT))=dt (.lst o' (l.map nT)):=by rw[dt,dt]
 rw[e,eS]
 exact q
theorem sj{u:Int}{t:Option Int}{k:T->Prop}:neT (.int u) (tT t) k=k (.bl (!decide (t=some u))):=by
 have:=o9 (a:=some u) (b:=t) (k:=k)
 rw[show tT (some u)=.int u from rfl]at this
 rw[this]
 congr 3
 exact decide_eq_decide.mpr eq_comm
def eJ0(j:Jb):Jb:=⟨j.tool,[],false,true⟩
def eJ1(p:Nat × Jb):Jb:=⟨p.2.tool,if 0 < p.1 then [p.1 - 1]else [],false,true⟩
theorem vT{J:List Jb}(hj:JOk J)(h:∀(i:Nat) (j:Jb),J[i]?=some j->∀ x∈j.needs,x < i):b8 (ah J):=by
 refine vv (os:=o_ J.length) (m:=J.length) L7 (fun i=>Jh) (u_ ..) ⟨rfl,hj,fun q i hq e=>?_⟩
 obtain⟨h1,h2⟩:=c_.mp e
 rw[LD]at h2
 subst h2
 refine⟨J[q],a_ hq,fun x hx=>?_⟩
 rw[List.take_range]
 exact Jh.mpr (by have:=h q _ (a_ hq) x hx;omega)
theorem Gf{J:List Jb}:frJ (J.map eJ0)=J.map eJ0:=by unfold frJ;rw[Jj];rfl
theorem CU{J:List Jb}(h:JOk J):JOk (J.map eJ0):=fun j m=>by
 obtain⟨i,mi,rfl⟩:=B'.mp m
 exact⟨⟨rfl,rfl,(h i mi).1.2.2⟩,G_ _,fun x z=>(by cases z)⟩
theorem Cc{J:List Jb}(h:JOk J):b8 (ah (J.map eJ0)):=vT (CU h) fun i j e x hx=>by
 rw[A']at e
 cases q:J[i]? with
 | none=>rw[q]at e;cases e
 | some k=>rw[q]at e;cases e;cases hx
def gy(J:List Jb):List Jb:=((o_ J.length).zip J).map eJ1
theorem oF{J:List Jb}{i:Nat}{j:Jb}(h:(gy J)[i]?=some j):∃ k,J[i]?=some k/\j=eJ1 (i,k):=by
 unfold gy at h
 rw[A']at h
 cases q:((o_ J.length).zip J)[i]? with
 | none=>rw[q]at h;cases h
 | some p=>
  rw[q]at h
  cases h
  rw[List.getElem?_zip_eq_some]at q
  obtain⟨h1,h2⟩:=c_.mp q.1
  rw[LD]at h2
  exact⟨p.2,q.2,by rw[h2]⟩
theorem dU{J:List Jb}:(gy J).length=J.length:=by unfold gy;rw[b_,List.length_zip,u_];omega
theorem DU{J:List Jb}:frJ (gy J)=gy J:=by unfold frJ gy;rw[Jj];rfl
theorem yy{J:List Jb}(h:JOk J):JOk (gy J):=fun j m=>by
 obtain⟨i,e⟩:=Jt.mp m
 obtain⟨k,ek,rfl⟩:=oF e
 have hi:=(c_.mp ek).1
 refine⟨⟨rfl,rfl,(h k (y_ ek)).1.2.2⟩,?_,fun x hx=>?_⟩
 ·show(if 0 < i then [i - 1]else []).length<=8
  split <;> simp
 have hx:x∈(if 0 < i then [i - 1]else []):=hx
 rw[dU]
 split at hx
 ·rw[w_.mp hx];omega
 cases hx
theorem ya{J:List Jb}(h:JOk J):b8 (ah (gy J)):=vT (yy h) fun i j e x hx=>by
 obtain⟨k,ek,rfl⟩:=oF e
 have hx:x∈(if 0 < i then [i - 1]else []):=hx
 split at hx
 ·rw[w_.mp hx];omega
 cases hx
noncomputable def pF(R:Rws)(d:Nat)(t:Option Int)(k:Nat):Bool:=rdB R d k && decide (Lv R (d ||| 2 ^ k) (some (tl R k)) + cst t (tl R k)<=Lv R d t)
theorem oG{R:Rws}{d k:Nat}:rdB R d k=true↔k∈rdy R d:=by
 unfold rdy
 rw[Jv,Jh]
 refine⟨fun h=>⟨?_,h⟩,fun h=>h.2⟩
 unfold rdB at h
 cases e:R[k]? with
 | none=>rw[e]at h;cases h
 | some r=>exact(c_.mp e).1
theorem F6{R:Rws}(nr:b8 R){d:Nat}{t:Option Int}(hd:d < 2 ^ R.length)(nw:d≠2 ^ R.length - 1)(ht:TS R t):(o_ R.length).filter (pF R d t)≠[]/\∀ i,i∈(o_ R.length).filter (pF R d t)->(∀ k∈(o_ R.length).filter (pF R d t),i<=k)->i∈rdy R d/\Lv R (d ||| 2 ^ i) (some (tl R i)) + cst t (tl R i)=Lv R d t/\∀ j∈rdy R d,Lv R (d ||| 2 ^ j) (some (tl R j)) + cst t (tl R j)=Lv R d t->i<=j:=by
 have mem:∀ k,k∈(o_ R.length).filter (pF R d t)↔k∈rdy R d/\Lv R (d ||| 2 ^ k) (some (tl R k)) + cst t (tl R k)<=Lv R d t:=fun k=>by
  rw[Jv,Jh]
  unfold pF
  rw[E_,oG,decide_eq_true_iff]
  exact⟨fun h=>h.2,fun h=>⟨aR h.1,h⟩⟩
 have lo:∀ k∈rdy R d,Lv R d t<=Lv R (d ||| 2 ^ k) (some (tl R k)) + cst t (tl R k):=fun k mk=>by
  rcases fP R d t hd ht with⟨e,_⟩ | ⟨_,g⟩
  ·rw[e]at mk;cases mk
  exact g k mk
 obtain⟨i,l,_,mi,vi,_⟩:=lJ nr hd nw ht
 refine⟨LB ((mem i).mpr ⟨mi,by omega⟩),fun i hi hm=>?_⟩
 obtain⟨h1,h2⟩:=(mem i).mp hi
 have:=lo i h1
 exact⟨h1,by omega,fun j mj ej=>hm j ((mem j).mpr ⟨mj,by omega⟩)⟩
theorem yC{t:Option Int}{u:Int}:(if(!decide (t=some u))=true then(1:Int)else 0)=cst t u:=by
 unfold cst
 by_cases h:t=some u
 ·rw[if_pos h,decide_eq_true h];rfl
 rw[if_neg h,decide_eq_false h];rfl
theorem oT{s:List Nat}:cR (s.map fun x=>nT x)=some (kI (ci s)):=by
 induction s with
 | nil=>rfl
 | cons a s ih=>rw[f_,rA,ih];rfl
end Mp
local macro_rules | `(tactic| walk_at "go")=>do
 let l<-("!Mp.zE !PL.rL !PL.lZ !PL.rO !PL.gX !PL.iy !PL.hX !PL.eB !PL.iL !PL.hV !PL.mF !PL.iO !PL.iu !PL.iI !PL.eO !PL.iw !PL.gR !PL.iS !PL.ql !PL.dO !PL.hZ PL.kW PL.df PL.dh PL.d9 PL.dg PL.er PL.erL PL.aX PL.bq PL.bK PL.bC PL.lend PL.back PL.outs PL.frA PL.xk i_ Lj La Kf Mz Lz t_ Jy KU List.zipWith_cons_cons List.zipWith_nil_left PL.Th.v if_true if_false Nat.reduceAdd Nat.reduceSub Nat.reduceLeDiff Mp.yi Mp.dq Mp.nI Mp.m5 Mp.lF Mp.iz Mp.lE Mp.dP Mp.dv Mp.du !Mp.iB !Mp.j4 Mp.bOr Mp.zC Mp.zr !PL.ip !PL.cZ !PL.eD !PL.mM PL.eG !PL.hC Mp.cA Mp.fW Mp.cY Mp.d3 !Mp.iY !Mp.iP Mp.eK Mp.cC Mp.de Mp.dc Mp.eI Mp.gC Mp.gL Mp.sC Mp.mI Mp.sA Mp.eR Mp.eA Mp.i8 !Mp.sF !Mp.o9 Mp.cP Mp.lQ Mp.je Mp.iU !PL.h8 !PL.lT !Mp.iV Mp.qZ Mp.eV !Mp.lP !Mp.sj".splitOn " ").toArray.mapM fun s=>let i:Lean.Ident:=Lean.mkIdent (s.replace "!" "").toName;if s.front=='!' then `(Lean.Parser.Tactic.simpLemma|↓$i:ident) else `(Lean.Parser.Tactic.simpLemma|$i:ident)
 `(tactic| simp only[$l,*])
local macro_rules | `(tactic| walk_at "take")=>`(tactic| refine⟨_,_,_,rfl,by lia,by first | decide | lia,by first | decide | lia,?_⟩)
namespace Mp
open PySem L2 PL
noncomputable def l5:FP:=fun ts k=>∃(t:T) (ns:List Nat),ts=[t]/\er t=t/\isAny t=false/\items t=some (ns.map nT)/\(∀ n∈ns,n<=1000)/\k (.int (sM ns:Int)) [t]
section
variable{P:Nv}{w:NA}{K:Ng}{mg:Str->Option Nf}{base:NB}
theorem nW:FnScope ["numbers","found","number"] ["numbers"] (aj lU):=⟨rfl,rfl,rfl,by decide +kernel,rfl,by decide +kernel,by decide +kernel⟩
set_option maxHeartbeats 4000000 in
theorem xm{f:Nh}{fd:NK}(F:Fun K "set_of" "set_of" lU f fd)(TX:Txt mg)  :FnOk P w K mg base CX0 1 f fd ["numbers"] (aG K 1 l5):=by
 refine bT F nW [true] rfl (fun cdv A outer s H E hr=>?_)
 have sc:=@nW
 refine⟨_,(af (az (i:=1) sc.nd (by rfl) (k_ rfl) (by rfl) ge_int) (af (eF Od (by rfl) (bL (b9 0)) (av (i:=2) sc.nd (by rfl) (k_ rfl) (by rfl)) (ak (tf (i:=1) sc.nd (by rfl) (k_ rfl) (by rfl) (aN (aT h9 ge_int (ab 2))) tZ))) (ak (b6 (nF 1))))),fun ts kk hl hp=>?_⟩
 clear hl
 obtain⟨t,ns,rfl,e1,e2,e3,hn,q⟩:=hp
 walk_at "go"
 rw[e1]
 refine⟨e2,aD e3 ?_⟩
 walk_at "go"
 refine cv (fun i env=>∃ z,env=[t,.int (sM (ns.take i):Int),z]) ⟨_,rfl⟩ ?_ ?_
 ·rintro i u _ ⟨z,rfl⟩ ei
  obtain⟨n,en,rfl⟩:=bO ei
  walk_at "go"
  exact⟨qk (by have:=hn n (y_ en);omega),_,by rw[B9 en]⟩
 rintro _ ⟨z,rfl⟩
 rw[b_,Jm]
 walk_at "go"
 exact q
end
noncomputable def nZ:FP:=fun ts k=>∃(c o:Bool) (J:List Jb),ts=[jsT c o J]/\J.length<=50/\(∀ j∈J,∀ n∈j.needs,n<=1000)/\∀ z,k (.lst true ((ah J).map rwT)) [z]
section
variable{P:Nv}{w:NA}{K:Ng}{mg:Str->Option Nf}{base:NB}
theorem m7:FnScope ["jobs"] ["jobs"] (aj js):=⟨rfl,rfl,rfl,by decide +kernel,rfl,by decide +kernel,by decide +kernel⟩
set_option maxHeartbeats 4000000 in
theorem tG{f:Nh}{fd:NK}(F:Fun K "rows_of" "rows_of" js f fd)(TX:Txt mg)  (G_set_of:Cal P w K mg base 1 "set_of" ["numbers"] (aG K 1 l5)):FnOk P w K mg base CX0 2 f fd ["jobs"] (aG K 1 nZ):=by
 refine bT F m7 [true] rfl (fun cdv A outer s H E hr=>?_)
 have sc:=@m7
 have nd1:(["job"]:List Str).Nodup:=by decide +kernel
 refine⟨_,(ak (b6 (aN (bH sc ["job"] [none] nd1 (by decide +kernel) (bL (ab 0)) (fun _ _ _=>(av (i:=0) nd1 (by rfl) (k_ rfl) (by rfl) (hf:=(l_ rfl)))) (fun _ _ _=>bG) (fun _ _ _=>(cn (ae (aK hr (ab 0) ge_int) (ae (aA G_set_of hr (by rfl) (ai (aK hr (ab 0) ge_int) aB)) ag)))))))),fun ts kk hl hp=>?_⟩
 clear hl
 obtain⟨c,o,J,rfl,hl,hn,q⟩:=hp
 walk_at "go"
 refine aU (by rw[b_,NQ];omega) (fun i acc ie=>∃ z1,acc=(J.take i).map (fun j=>rwT (j.tool,sM j.needs))/\ie=[z1]) ⟨_,rfl,rfl⟩ ?_ ?_
 ·rintro i t _ _ ⟨z1,rfl,rfl⟩ ei
  obtain⟨j,ej,rfl⟩:=bO ei
  walk_at "go"
  refine⟨_,_,rfl,tU,xb,cA,hn j (y_ ej),?_⟩
  walk_at "go"
  exact⟨_,by rw[map_take ej];rfl,rfl⟩
 rintro _ _ ⟨z1,rfl,rfl⟩
 rw[b_,Jm]
 walk_at "go"
 have:=q (jsT c o J)
 unfold ah at this
 rw[Jj]at this
 exact this
end
noncomputable def dE:FP:=fun ts k=>∃(o:Bool) (R:Rws),ts=[.lst o (R.map rwT)]/\R.length<=50/\∀ z,k (.int ((2 ^ R.length - 1:Nat):Int)) [z]
section
variable{P:Nv}{w:NA}{K:Ng}{mg:Str->Option Nf}{base:NB}
theorem jK:FnScope ["rows"] ["rows"] (aj gv):=⟨rfl,rfl,rfl,by decide +kernel,rfl,by decide +kernel,by decide +kernel⟩
set_option maxHeartbeats 4000000 in
theorem rX{f:Nh}{fd:NK}(F:Fun K "whole_of" "whole_of" gv f fd)(TX:Txt mg)  :FnOk P w K mg base CX0 1 f fd ["rows"] (aG K 1 dE):=by
 refine bT F jK [true] rfl (fun cdv A outer s H E hr=>?_)
 have sc:=@jK
 refine⟨_,(ak (b6 (aN (aT pg (aT h9 ge_int (aL bc (by rfl) TX.len (by decide +kernel) (ae (ab 0) ag))) ge_int)))),fun ts kk hl hp=>?_⟩
 clear hl
 obtain⟨o,R,rfl,hl,q⟩:=hp
 walk_at "go"
 rw[sP]
 exact⟨qk (by omega),q _⟩
end
def nX:FP:=fun ts k=>∃(a b:Nat),ts=[.int (a:Int),.int (b:Int)]/\k (.bl (a &&& b == a)) [.int (a:Int),.int (b:Int)]
section
variable{P:Nv}{w:NA}{K:Ng}{mg:Str->Option Nf}{base:NB}
theorem lV:FnScope ["some","other"] ["some","other"] (aj ji):=⟨rfl,rfl,rfl,by decide +kernel,rfl,by decide +kernel,by decide +kernel⟩
set_option maxHeartbeats 4000000 in
theorem tN{f:Nh}{fd:NK}(F:Fun K "is_part" "is_part" ji f fd)(TX:Txt mg)  :FnOk P w K mg base CX0 1 f fd ["some","other"] (aG K 2 nX):=by
 refine bT F lV [true,true] rfl (fun cdv A outer s H E hr=>?_)
 have sc:=@lV
 refine⟨_,(ak (b6 (aN (dC (eZ hr) (aT uQ (ab 0) (ab 1)) (ab 0) (aO _))))),fun ts kk hl hp=>?_⟩
 clear hl
 obtain⟨a,b,rfl,q⟩:=hp
 walk_at "go"
 rw[Ej]
 exact q
end
noncomputable def kB:FP:=fun ts k=>∃(o:Bool) (R:Rws) (d:Nat),ts=[.lst o (R.map rwT),.int (d:Int)]/\R.length<=50/\∀ z,k (.lst true ((rdy R d).map nT)) [z,.int (d:Int)]
section
variable{P:Nv}{w:NA}{K:Ng}{mg:Str->Option Nf}{base:NB}
theorem sH:FnScope ["rows","done"] ["rows","done"] (aj pV):=⟨rfl,rfl,rfl,by decide +kernel,rfl,by decide +kernel,by decide +kernel⟩
set_option maxHeartbeats 4000000 in
theorem yN{f:Nh}{fd:NK}(F:Fun K "ready" "ready" pV f fd)(TX:Txt mg)  (G_is_part:Cal P w K mg base 1 "is_part" ["some","other"] (aG K 2 nX)):FnOk P w K mg base CX0 2 f fd ["rows","done"] (aG K 2 kB):=by
 refine bT F sH [true,true] rfl (fun cdv A outer s H E hr=>?_)
 have sc:=@sH
 have nd1:(["number","row","done"]:List Str).Nodup:=by decide +kernel
 refine⟨_,(ak (b6 (aN (bH sc ["number","row","done"] [none,none,some 1] nd1 (by decide +kernel) (fx (by rfl) TX.enumerate (ae (ab 0) ag)) (fun _ _ _=>(eQ (n:=2) (by rfl) (aW (av (i:=0) nd1 (by rfl) (k_ rfl) (by rfl) (hf:=(l_ rfl))) (aW (av (i:=1) nd1 (by rfl) (k_ rfl) (by rfl) (hf:=(l_ rfl))) cN)))) (fun _ _ _=>(kP (FO (oJ (sQ (gq (aT uQ (ab 2) (aT h9 ge_int (ab 0))))) (oP (gq (aA G_is_part hr (by rfl) (ai (aK hr (ab 1) ge_int) (ai (ab 2) aB))))))))) (fun _ _ _=>(ab 0)))))),fun ts kk hl hp=>?_⟩
 clear hl
 obtain⟨o,R,d,rfl,hl,q⟩:=hp
 walk_at "go"
 refine aU (by rw[cE,NQ];omega) (fun i acc ie=>∃ z1 z2,acc=((o_ i).filter (rdB R d)).map nT/\ie=[z1,z2,.int (d:Int)]) ⟨_,_,rfl,rfl⟩ ?_ ?_
 ·rintro i t _ _ ⟨z1,z2,rfl,rfl⟩ ei
  obtain⟨r,er,rfl⟩:=fA ei
  have hi:i < R.length:=(c_.mp er).1
  walk_at "go"
  refine⟨qk (by omega),?_⟩
  rw[IK,C3 er]
  refine mJ (fun h=>?_) (fun h=>?_)
  ·walk_at "go"
   exact⟨_,_,by rw[h];exact(H_ _).symm,rfl⟩
  walk_at "go"
  refine⟨_,_,rfl,?_⟩
  walk_at "go"
  rw[h]
  refine mJ (fun h2=>?_) (fun h2=>?_)
  ·walk_at "go"
   exact⟨_,_,by rw[h2];rfl,rfl⟩
  walk_at "go"
  exact⟨_,_,by rw[h2];exact(H_ _).symm,rfl⟩
 rintro _ _ ⟨z1,z2,rfl,rfl⟩
 rw[cE]
 walk_at "go"
 exact q _
end
noncomputable def lg:FP:=fun ts k=>∃(o:Bool) (R:Rws),ts=[.lst o (R.map rwT)]/\R.length<=50/\∀(ms:List Int) z,ms.Pairwise (· < ·)->(∀ x,x∈ms↔∃ r∈R,x=r.1)->k (.lst true (ms.map T.int)) [z]
section
variable{P:Nv}{w:NA}{K:Ng}{mg:Str->Option Nf}{base:NB}
theorem jT:FnScope ["rows"] ["rows"] (aj gp):=⟨rfl,rfl,rfl,by decide +kernel,rfl,by decide +kernel,by decide +kernel⟩
set_option maxHeartbeats 4000000 in
theorem qo{f:Nh}{fd:NK}(F:Fun K "tools_in" "tools_in" gp f fd)(TX:Txt mg)  :FnOk P w K mg base CX0 1 f fd ["rows"] (aG K 1 lg):=by
 refine bT F jT [true] rfl (fun cdv A outer s H E hr=>?_)
 have sc:=@jT
 have nd1:(["row"]:List Str).Nodup:=by decide +kernel
 refine⟨_,(ak (b6 (aN (gF (by rfl) (by rfl) TX.sorted (by rfl) TX.set (bH sc ["row"] [none] nd1 (by decide +kernel) (bL (ab 0)) (fun _ _ _=>(av (i:=0) nd1 (by rfl) (k_ rfl) (by rfl) (hf:=(l_ rfl)))) (fun _ _ _=>bG) (fun _ _ _=>(aK hr (ab 0) ge_int))))))),fun ts kk hl hp=>?_⟩
 clear hl
 obtain⟨o,R,rfl,hl,q⟩:=hp
 walk_at "go"
 refine aU (by rw[b_,NQ];omega) (fun i acc ie=>∃ z1,acc=(R.take i).map (fun r=>T.int r.1)/\ie=[z1]) ⟨_,rfl,rfl⟩ ?_ ?_
 ·rintro i t _ _ ⟨z1,rfl,rfl⟩ ei
  obtain⟨r,er,rfl⟩:=bO ei
  walk_at "go"
  exact⟨_,by rw[map_take er],rfl⟩
 rintro _ _ ⟨z1,rfl,rfl⟩
 rw[b_,Jm]
 walk_at "go"
 refine aD zl ?_
 walk_at "go"
 refine⟨by omega,fun ms h1 h2=>?_⟩
 refine q ms _ h1 fun x=>?_
 rw[h2 x,B']
 exact⟨fun⟨r,m,e⟩=>⟨r,m,e.symm⟩,fun⟨r,m,e⟩=>⟨r,m,e.symm⟩⟩
end
def dS:FP:=fun ts k=>∃(o:Bool) (R:Rws),ts=[.lst o (R.map rwT)]/\R.length<=50/\b8 R/\∀ z,k .non [z]
section
variable{P:Nv}{w:NA}{K:Ng}{mg:Str->Option Nf}{base:NB}
theorem dH:FnScope ["rows","done","more"] ["rows"] (aj cD):=⟨rfl,rfl,rfl,by decide +kernel,rfl,by decide +kernel,by decide +kernel⟩
set_option maxHeartbeats 4000000 in
theorem jZ{f:Nh}{fd:NK}(F:Fun K "refuse_rings" "refuse_rings" cD f fd)(TX:Txt mg)  (G_set_of:Cal P w K mg base 1 "set_of" ["numbers"] (aG K 1 l5))(G_whole_of:Cal P w K mg base 1 "whole_of" ["rows"] (aG K 1 dE))(G_ready:Cal P w K mg base 2 "ready" ["rows","done"] (aG K 2 kB)):FnOk P w K mg base CX0 3 f fd ["rows"] (aG K 1 dS):=by
 refine bT F dH [true] rfl (fun cdv A outer s H E hr=>?_)
 have sc:=@dH
 refine⟨_,(af (az (i:=1) sc.nd (by rfl) (k_ rfl) (by rfl) ge_int) (af (az (i:=2) sc.nd (by rfl) (k_ rfl) (by rfl) (aN (aA G_ready hr (by rfl) (ai (ab 0) (ai (ab 1) aB))))) (af (gK Od (gB (gq (ab 2))) (af (tf (i:=1) sc.nd (by rfl) (k_ rfl) (by rfl) (aN (aA G_set_of hr (by rfl) (ai (ab 2) aB))) tZ) (ak (az (i:=2) sc.nd (by rfl) (k_ rfl) (by rfl) (aN (aA G_ready hr (by rfl) (ai (ab 0) (ai (ab 1) aB)))))))) (ak (fH (gB (bA (fZ hr) (ab 1) (aA G_whole_of hr (by rfl) (ai (ab 0) aB)) (aO _))) (ak Bq) cf))))),fun ts kk hl hp=>?_⟩
 clear hl
 obtain⟨o,R,rfl,hl,nr,q⟩:=hp
 walk_at "go"
 refine⟨false,R,0,rfl,hl,fun z=>?_⟩
 walk_at "go"
 refine f9 (fun m env=>∃ d:Nat,d < 2 ^ R.length/\m=2 ^ R.length - d/\env=[.lst o (R.map rwT),.int (d:Int),.lst true ((rdy R d).map nT)]) _ ⟨0,JH _,rfl,rfl⟩ ?_
 rintro m _ ⟨d,hd,rfl,rfl⟩
 walk_at "go"
 refine mJ (fun h=>?_) (fun h=>?_)
 ·have e:rdy R d=[]:=Lu.mp (List.isEmpty_iff.mp h)
  have ew:d=2 ^ R.length - 1:=PZ fun z=>pI nr hd z e
  walk_at "go"
  refine⟨false,R,rfl,hl,fun z=>?_⟩
  walk_at "go"
  refine oB (decide_eq_true (by rw[ew])) ?_
  walk_at "go"
  exact q _
 have ne:rdy R d≠[]:=fun z=>by rw[z]at h;cases h
 obtain⟨g1,g2⟩:=C9 hd ne
 walk_at "go"
 refine⟨_,rdy R d,rfl,by rw[er,fS],rfl,rfl,fun n m=>by have:=aR m;omega,?_⟩
 walk_at "go"
 refine⟨false,R,d ||| sM (rdy R d),rfl,hl,fun z=>?_⟩
 walk_at "go"
 exact⟨_,by omega,_,g2,rfl,rfl⟩
end
noncomputable def fX:FP:=fun ts k=>∃(o o2:Bool) (R:Rws) (D:List Ent) (d i:Nat) (t:Option Int),ts=[.lst o (R.map rwT),.dT o2 (dM D),.int (d:Int),tT t,.int (i:Int)]/\i < R.length/\R.length<=50/\DOk R D/\(d ||| 2 ^ i,some (tl R i))∈D.map (·.1)/\∀ z1 z2,k (.int (Lv R (d ||| 2 ^ i) (some (tl R i)) + cst t (tl R i))) [z1,z2,.int (d:Int),tT t,.int (i:Int)]
section
variable{P:Nv}{w:NA}{K:Ng}{mg:Str->Option Nf}{base:NB}
theorem jL:FnScope ["rows","least","done","tool","number","taken"] ["rows","least","done","tool","number"] (aj gh):=⟨rfl,rfl,rfl,by decide +kernel,rfl,by decide +kernel,by decide +kernel⟩
set_option maxHeartbeats 4000000 in
theorem rZ{f:Nh}{fd:NK}(F:Fun K "takes_by" "takes_by" gh f fd)(TX:Txt mg)  :FnOk P w K mg base CX0 1 f fd ["rows","least","done","tool","number"] (aG K 5 fX):=by
 refine bT F jL [true,true,true,true,true] rfl (fun cdv A outer s H E hr=>?_)
 have sc:=@jL
 refine⟨_,(af (az (i:=5) sc.nd (by rfl) (k_ rfl) (by rfl) (aN (aK hr (aK hr (ab 0) (ab 4)) ge_int))) (ak (b6 (aN (aT bM (aK hr (ab 1) (cn (ae (aT E9 (ab 2) (aT h9 ge_int (ab 4))) (ae (ab 5) ag)))) (ge_if (bA (eZ hr) (ab 3) (ab 5) (aO _)) ge_int ge_int)))))),fun ts kk hl hp=>?_⟩
 clear hl
 obtain⟨o,o2,R,D,d,i,t,rfl,hi,hl,ok,mem,q⟩:=hp
 obtain⟨m,em⟩:=zf hi
 walk_at "go"
 refine aD (dA em) ?_
 walk_at "go"
 refine⟨qk (by omega),aD (sS ok mem) ?_⟩
 walk_at "go"
 refine bj (fun h=>?_) (fun h=>?_)
 ·walk_at "go"
  have:=q (.lst o (R.map rwT)) (.dT o2 (dM D))
  unfold cst at this
  rw[if_pos h]at this
  exact this
 walk_at "go"
 have:=q (.lst o (R.map rwT)) (.dT o2 (dM D))
 unfold cst at this
 rw[if_neg h]at this
 exact this
end
noncomputable def dr:FP:=fun ts k=>∃(o:Bool) (R:Rws),ts=[.lst o (R.map rwT)]/\R.length<=10/\∀(D:List Ent) z,DOk R D->(∀ d t,d < 2 ^ R.length->TS R t->(d,t)∈D.map (·.1))->k (.dT true (dM D)) [z]
section
variable{P:Nv}{w:NA}{K:Ng}{mg:Str->Option Nf}{base:NB}
theorem cM:FnScope ["rows","least","done","numbers","tool","takes"] ["rows"] (aj bY):=⟨rfl,rfl,rfl,by decide +kernel,rfl,by decide +kernel,by decide +kernel⟩
set_option maxHeartbeats 4000000 in
theorem iE{f:Nh}{fd:NK}(F:Fun K "takes_from_all" "takes_from_all" bY f fd)(TX:Txt mg)  (G_whole_of:Cal P w K mg base 1 "whole_of" ["rows"] (aG K 1 dE))(G_ready:Cal P w K mg base 2 "ready" ["rows","done"] (aG K 2 kB))(G_tools_in:Cal P w K mg base 1 "tools_in" ["rows"] (aG K 1 lg))(G_takes_by:Cal P w K mg base 1 "takes_by" ["rows","least","done","tool","number"] (aG K 5 fX)):FnOk P w K mg base CX0 3 f fd ["rows"] (aG K 1 dr):=by
 refine bT F cM [true] rfl (fun cdv A outer s H E hr=>?_)
 have sc:=@cM
 have nd1:(["number","tool","done","least","rows"]:List Str).Nodup:=by decide +kernel
 refine⟨_,(af (az (i:=1) sc.nd (by rfl) (l_ rfl) (by rfl) (aN zt)) (af (eF Od (by rfl) (wF (by rfl) TX.range (ae (aN (aA G_whole_of hr (by rfl) (ai (ab 0) aB))) (ae (aN (uu ge_int)) (ae (aN (uu ge_int)) ag)))) (av (i:=2) sc.nd (by rfl) (l_ rfl) (by rfl)) (af (az (i:=3) sc.nd (by rfl) (k_ rfl) (by rfl) (aN (aA G_ready hr (by rfl) (ai (ab 0) (ai (ab 2) aB))))) (ak (eF Od (by rfl) (bL (aN (aT bM (bp (ae l7 ag)) (aA G_tools_in hr (by rfl) (ai (ab 0) aB))))) (av (i:=4) sc.nd (by rfl) (l_ rfl) (by rfl)) (af (m9 sc (i:=5) ["number","tool","done","least","rows"] [none,some 4,some 2,some 1,some 0] nd1 (by decide +kernel) (by rfl) (k_ rfl) (by rfl) (bL (ab 3)) (fun _ _ _=>(av (i:=0) nd1 (by rfl) (k_ rfl) (by rfl) (hf:=(l_ rfl)))) (fun _ _ _=>bG) (fun _ _ _=>(aA G_takes_by hr (by rfl) (ai (ab 4) (ai (ab 3) (ai (ab 2) (ai (ab 1) (ai (ab 0) aB))))))) (by rfl)) (ak (sN (aN (AB (by rfl) (by rfl) TX.min (ab 5))) (tL (i:=1) hr (aN (cn (ae (ab 2) (ae (ab 4) ag)))))))))))) (ak (b6 (nF 1))))),fun ts kk hl hp=>?_⟩
 clear hl
 obtain⟨o,R,rfl,hl,q⟩:=hp
 have hW:2 ^ R.length<=1024:=KN (n:=2) (by decide) hl
 have hp:0 < 2 ^ R.length:=JH _
 walk_at "go"
 refine⟨_,R,rfl,by omega,fun z=>?_⟩
 walk_at "go"
 refine⟨⟨by omega,by omega,by decide,by decide⟩,?_⟩
 refine cv (fun s env=>∃(D:List Ent) (z2 z3 z4 z5:T),Hld R D s []/\D.length<=s * 11/\env=[.lst o (R.map rwT),.dT true (dM D),z2,z3,z4,z5]) ⟨[],_,_,_,_,Hn R,G_ _,rfl⟩ ?_ ?_
 ·rintro s u _ ⟨D,z2,z3,z4,z5,H,hD,rfl⟩ ei
  obtain⟨hs,rfl⟩:=GQ ei
  have hs:s < 2 ^ R.length:=by omega
  have e0:((2 ^ R.length - 1:Nat):Int) - (s:Int)=((2 ^ R.length - 1 - s:Nat):Int):=by omega
  rw[e0]
  have hd:2 ^ R.length - 1 - s < 2 ^ R.length:=by omega
  walk_at "go"
  refine⟨_,R,_,rfl,by omega,fun z=>?_⟩
  walk_at "go"
  refine⟨_,R,rfl,by omega,fun ms z u1 u2=>?_⟩
  walk_at "go"
  have tl1:=Cj u1 u2
  have tl2:ms.length + 1<=R.length + 1:=by rw[i_,b_]at tl1;exact tl1
  have nd:=Eh u1
  have mem:=Dx u2
  rw[AZ]
  generalize none::ms.map some=l at tl1 nd mem
  refine⟨by omega,cv (fun j env=>∃(D:List Ent) (z4 z5:T),Hld R D s (l.take j)/\D.length<=s * 11 + j/\env=[.lst o (R.map rwT),.dT true (dM D),.int ((2 ^ R.length - 1 - s:Nat):Int),.lst true ((rdy R (2 ^ R.length - 1 - s)).map nT),z4,z5]) ⟨D,_,_,H,hD,rfl⟩ ?_ ?_⟩
  ·clear H hD D
   rintro j u _ ⟨D,z4,z5,H,hD,rfl⟩ ej
   obtain⟨t,et,rfl⟩:=bO ej
   have hj:j < l.length:=(c_.mp et).1
   walk_at "go"
   have rl:(rdy R (2 ^ R.length - 1 - s)).length<=50:=by
    have:=Ky (rdB R (2 ^ R.length - 1 - s)) (o_ R.length)
    rw[u_]at this
    unfold rdy
    omega
   refine aU (by rw[b_,NQ];omega) (fun a acc ie=>∃ z1,acc=((rdy R (2 ^ R.length - 1 - s)).take a).map (fun i=>T.int (Lv R ((2 ^ R.length - 1 - s) ||| 2 ^ i) (some (tl R i)) + cst t (tl R i)))/\ie=[z1,tT t,.int ((2 ^ R.length - 1 - s:Nat):Int),.dT false (dM D),.lst false (R.map rwT)]) ⟨_,rfl,rfl⟩ ?_ ?_
   ·rintro a u _ _ ⟨z1,rfl,rfl⟩ ea
    obtain⟨i,ei',rfl⟩:=bO ea
    have mi:=y_ ei'
    walk_at "go"
    refine⟨_,_,R,D,_,i,t,rfl,aR mi,by omega,H.1,Fc hs H mi,fun z1 z2=>?_⟩
    walk_at "go"
    exact⟨_,by rw[map_take ei'],rfl⟩
   rintro _ _ ⟨z1,rfl,rfl⟩
   rw[b_,Jm]
   walk_at "go"
   refine aD y9 (fun m hm=>?_)
   have em:=FQ hm
   rw[<-qC hd]at em
   subst em
   walk_at "go"
   have nm:(2 ^ R.length - 1 - s,t) ∉ D.map (·.1):=fun m=>by
    rcases(H.2 _ _).mp m with m | m
    ·omega
    exact iN nd et m.2
   refine⟨by unfold dM;rw[b_];omega,_,_,_,?_,?_,by rw[show([Qy ((2 ^ R.length - 1 - s:Nat):Int),tK t]:List Key)=kD (2 ^ R.length - 1 - s) t from rfl,FZ nm]⟩
   ·rw[JY,et]
    exact B3 H
   rw[j',JO]
   omega
  rintro _ ⟨D,z4,z5,H,hD,rfl⟩
  rw[b_]at H hD
  rw[Jm]at H
  exact⟨D,_,_,_,_,xE hs H mem,by omega,rfl⟩
 rintro _ ⟨D,z2,z3,z4,z5,H,hD,rfl⟩
 rw[xP]at H
 walk_at "go"
 refine q D _ H.1 fun d t hd ht=>(H.2 d t).mpr (.inl ⟨by omega,hd,ht⟩)
end
noncomputable def fL:FP:=fun ts k=>∃(t:T) (c:Bool) (J:List Jb),ts=[t]/\er t=jsT c false J/\isAny t=false/\J.length<=10/\(∀ j∈J,∀ n∈j.needs,n<=1000)/\b8 (ah J)/\∀(L:Int) (os:List Nat) z,j5 (ah J) L os->k (.tup [.int L,.lst true (os.map nT)]) [z]
section
variable{P:Nv}{w:NA}{K:Ng}{mg:Str->Option Nf}{base:NB}
theorem e6:FnScope ["jobs","rows","least","order","done","tool","takes","good"] ["jobs"] (aj cW):=⟨rfl,rfl,rfl,by decide +kernel,rfl,by decide +kernel,by decide +kernel⟩
set_option maxHeartbeats 4000000 in
theorem lh{f:Nh}{fd:NK}(F:Fun K "least_takes" "least_takes" cW f fd)(TX:Txt mg)  (G_rows_of:Cal P w K mg base 2 "rows_of" ["jobs"] (aG K 1 nZ))(G_whole_of:Cal P w K mg base 1 "whole_of" ["rows"] (aG K 1 dE))(G_ready:Cal P w K mg base 2 "ready" ["rows","done"] (aG K 2 kB))(G_refuse_rings:Cal P w K mg base 3 "refuse_rings" ["rows"] (aG K 1 dS))(G_takes_from_all:Cal P w K mg base 3 "takes_from_all" ["rows"] (aG K 1 dr))(G_takes_by:Cal P w K mg base 1 "takes_by" ["rows","least","done","tool","number"] (aG K 5 fX)):FnOk P w K mg base CX0 4 f fd ["jobs"] (aG K 1 fL):=by
 refine bT F e6 [true] rfl (fun cdv A outer s H E hr=>?_)
 have sc:=@e6
 have nd1:(["number","tool","done","least","rows","takes"]:List Str).Nodup:=by decide +kernel
 refine⟨_,(af (az (i:=1) sc.nd (by rfl) (l_ rfl) (by rfl) (aN (aA G_rows_of hr (by rfl) (ai (ab 0) aB)))) (af (i9 (aA G_refuse_rings hr (by rfl) (ai (b9 1) aB))) (af (az (i:=2) sc.nd (by rfl) (l_ rfl) (by rfl) (aN (aA G_takes_from_all hr (by rfl) (ai (ab 1) aB)))) (af (az (i:=3) sc.nd (by rfl) (k_ rfl) (by rfl) (aN (bp ag))) (af (az (i:=4) sc.nd (by rfl) (l_ rfl) (by rfl) ge_int) (af (az (i:=5) sc.nd (by rfl) (l_ rfl) (by rfl) l7) (af (gK Od (gB (bA (fZ hr) (ab 4) (aA G_whole_of hr (by rfl) (ai (ab 1) aB)) (aO _))) (af (az (i:=6) sc.nd (by rfl) (l_ rfl) (by rfl) (aN (aK hr (ab 2) (cn (ae (ab 4) (ae (ab 5) ag)))))) (af (m9 sc (i:=7) ["number","tool","done","least","rows","takes"] [none,some 5,some 4,some 2,some 1,some 6] nd1 (by decide +kernel) (by rfl) (k_ rfl) (by rfl) (bL (aA G_ready hr (by rfl) (ai (ab 1) (ai (ab 4) aB)))) (fun _ _ _=>(av (i:=0) nd1 (by rfl) (k_ rfl) (by rfl) (hf:=(l_ rfl)))) (fun _ _ _=>(kP (bA (eZ hr) (aA G_takes_by hr (by rfl) (ai (ab 4) (ai (ab 3) (ai (ab 2) (ai (ab 1) (ai (ab 0) aB)))))) (ab 5) (aO _)))) (fun _ _ _=>(ab 0)) (by rfl)) (af (i9 (iK 3 O' Pa dD (ae (aN (aK hr (ab 7) ge_int)) ag))) (af (tf (i:=4) sc.nd (by rfl) (l_ rfl) (by rfl) (aN (aT h9 ge_int (aK hr (ab 7) ge_int))) tZ) (ak (az (i:=5) sc.nd (by rfl) (l_ rfl) (by rfl) (aN (aK hr (aK hr (ab 1) (aK hr (ab 7) ge_int)) ge_int))))))))) (ak (b6 (cn (ae (aN (aK hr (ab 2) (cn (ae ge_int (ae l7 ag))))) (ae (nF 3) ag)))))))))))),fun ts kk hl hp=>?_⟩
 clear hl
 obtain⟨t0,c,J,rfl,et,ia,hl,hn,nr,q⟩:=hp
 have hL:(ah J).length=J.length:=b_ ..
 walk_at "go"
 rw[et]
 refine⟨cC,c,false,J,rfl,by omega,hn,fun z=>?_⟩
 walk_at "go"
 generalize ah J=R at *
 refine⟨_,R,rfl,by omega,nr,fun z=>?_⟩
 walk_at "go"
 refine⟨_,R,rfl,by omega,fun D z dk dm=>?_⟩
 walk_at "go"
 have V:=fP R
 have hW:2 ^ R.length<=1024:=KN (n:=2) (by decide) (by omega:R.length<=10)
 refine f9 (fun m env=>∃(d:Nat) (t:Option Int) (os:List Nat) (z6 z7:T),d < 2 ^ R.length/\TS R t/\m=2 ^ R.length - d/\os.length<=d/\(∀ o2,oS R (Lv R) d t o2->oS R (Lv R) 0 none (os++o2))/\env=[t0,.lst false (R.map rwT),.dT true (dM D),.lst true (os.map nT),.int (d:Int),tT t,z6,z7]) _ ⟨0,none,[],_,_,JH _,.inl rfl,rfl,G_ _,fun o2 h=>h,rfl⟩ ?_
 rintro m _ ⟨d,t,os,z6,z7,hd,ht,rfl,hos,hb,rfl⟩
 walk_at "go"
 refine⟨_,R,rfl,by omega,fun z=>?_⟩
 walk_at "go"
 refine bj (fun h=>?_) (fun h=>?_)
 ·have ew:d=2 ^ R.length - 1:=by omega
  have B:=hb [] (by rw[ew];exact kY V ht)
  rw[H_]at B
  walk_at "go"
  refine aD (sS dk (dm 0 none (JH _) (.inl rfl))) ?_
  walk_at "go"
  exact q _ _ _ (mK V B)
 obtain⟨i,l,eg,mi,vi,fi⟩:=lJ nr hd (fun z=>h (by rw[z])) ht
 have il:=aR mi
 have ig:=uI (cx mi)
 have it:=fG hd il
 walk_at "go"
 refine aD (sS dk (dm d t hd ht)) ?_
 walk_at "go"
 refine⟨_,R,d,rfl,by omega,fun z=>?_⟩
 walk_at "go"
 have rl:(rdy R d).length<=50:=by
  have:=Ky (rdB R d) (o_ R.length)
  rw[u_]at this
  unfold rdy
  omega
 refine aU (by rw[b_,NQ];omega) (fun a acc ie=>∃ z1,acc=(((rdy R d).take a).filter fun i=>decide (Lv R (d ||| 2 ^ i) (some (tl R i)) + cst t (tl R i)=Lv R d t)).map nT/\ie=[z1,tT t,.int (d:Int),.dT false (dM D),.lst false (R.map rwT),.int (Lv R d t)]) ⟨_,rfl,rfl⟩ ?_ ?_
 ·rintro a u _ _ ⟨z1,rfl,rfl⟩ ea
  obtain⟨j,ej,rfl⟩:=bO ea
  have mj:=y_ ej
  walk_at "go"
  refine⟨_,_,R,D,_,j,t,rfl,aR mj,by omega,dk,dm _ _ (fG hd (aR mj)) (.inr ⟨j,aR mj,rfl⟩),fun z1 z2=>?_⟩
  walk_at "go"
  rw[nu ej]
  refine bj (fun g=>?_) (fun g=>?_)
  ·walk_at "go"
   exact⟨_,by rw[if_pos g],rfl⟩
  walk_at "go"
  exact⟨_,by rw[if_neg g];exact(H_ _).symm,rfl⟩
 rintro _ _ ⟨z1,rfl,rfl⟩
 rw[b_,Jm]
 have eg':((rdy R d).filter fun i=>decide (Lv R (d ||| 2 ^ i) (some (tl R i)) + cst t (tl R i)=Lv R d t))=i::l:=eg
 rw[eg']
 walk_at "go"
 obtain⟨mk,em⟩:=zf il
 refine⟨by omega,qk (by omega),aD (dA em) ?_⟩
 walk_at "go"
 refine⟨_,?_,d ||| 2 ^ i,some (tl R i),os++[i],_,_,it,.inr ⟨i,il,rfl⟩,rfl,?_,fun o2 B=>?_,by rw[z_];rfl⟩
 ·omega
 ·rw[j',JO];omega
 rw[j_]
 exact hb _ (jo V hd ht mi vi fi B)
end
noncomputable def zk:FP:=fun ts k=>∃(c:Cells) (n:Nat) (m u:Nat),ts=[stT c n,.int (m:Int),.int (u:Int)]/\n < 2 ^ 30/\m<=10/\1<=u/\u<=5/\∀(c':Cells) (n':Nat) (J:List Jb) z1 z2,n'<=n + 1000->J.length=m->JOk J->b8 (ah J)->k (.lst true (J.map jbT)) [stT c' n',z1,z2]
section
variable{P:Nv}{w:NA}{K:Ng}{mg:Str->Option Nf}{base:NB}
theorem v3:FnScope ["_law_state","_law_many","_law_tools","_law_left","_law_turn","_law_order","_law_names","_law_jobs_here","_law_most","_law_place","_law_number","_law_needs"] ["_law_state","_law_many","_law_tools"] (aj t6):=⟨rfl,rfl,rfl,by decide +kernel,rfl,by decide +kernel,by decide +kernel⟩
set_option maxHeartbeats 4000000 in
theorem AV{f:Nh}{fd:NK}(F:Fun K "_law_jobs" "_law_jobs" t6 f fd)(TX:Txt mg)  (G_take:Cal P w K mg base 1 "_law_take" ["_law_state","_law_many"] (aG K 2 oV)):FnOk P w K mg base CX0 2 f fd ["_law_state","_law_many","_law_tools"] (aG K 3 zk):=by
 refine bT F v3 [true,true,true] rfl (fun cdv A outer s H E hr=>?_)
 have sc:=@v3
 have nd1:(["_law_turn","_law_left","_law_state"]:List Str).Nodup:=by decide +kernel
 refine⟨_,(@af _ _ _ _ _ _ (@az _ _ _ _ _ 3 _ _ sc.nd (by rfl) (l_ rfl) (by rfl) (@aN _ _ _ (@fM _ _ _ _ _ _ _ (by rfl) (by rfl) TX.list (by rfl) TX.range (@ae _ _ _ _ _ (@ab _ _ 1 _ (by rfl) (by first | exact k_ rfl | exact l_ (k_ rfl) | exact l_ (l_ rfl)) (by decide) (by decide)) (@ag _) (by rfl)) (by rfl) (by rfl))) (by rfl) (by first | exact .inl rfl | exact .inr rfl)) (@af _ _ _ _ _ _ (@BF _ _ _ _ _ sc 5 _ _ _ ["_law_turn","_law_left","_law_state"] [none,some 3,some 0] nd1 _ _ _ _ _ _ _ _ _ _ (by decide +kernel) (by rfl) (k_ rfl) (by rfl) (@j8 _ _ _ _ _ _ (by rfl) TX.range (@ae _ _ _ _ _ (@b9 _ _ 1 _ (by rfl) (by first | exact k_ rfl | exact l_ (k_ rfl) | exact l_ (l_ rfl)) (by decide) (by decide)) (@ag _) (by rfl)) (by rfl)) (fun _ _ _=>(@av _ _ _ 0 _ nd1 (by rfl) (k_ rfl) (by rfl) (l_ rfl))) (fun _ _ _=>(@bG _)) (fun _ _ _=>(@iK _ _ _ _ _ _ _ _ _ 1 _ _ PySem.F.slot_list_pop PySem.F.type_list_pop wD (@ae _ _ _ _ _ (@aA _ _ _ _ _ _ _ _ _ _ _ _ G_take hr (by rfl) (@bI _ _ _ 2 _ _ (@ai _ _ _ _ _ (@aN _ _ _ (@aL _ _ _ _ _ _ _ _ _ bc (by rfl) TX.len (by decide +kernel) (@ae _ _ _ _ _ (@ab _ _ 1 _ (by rfl) (by first | exact k_ rfl | exact l_ (k_ rfl) | exact l_ (l_ rfl)) (by decide) (by decide)) (@ag _) (by rfl)) (by decide) (by decide) (by rfl) (by rfl))) (@aB _) (by rfl)) (by rfl) (by first | exact k_ rfl | exact l_ (k_ rfl) | exact l_ (l_ rfl)) (by decide) (by decide) (by rfl)) (by omega) (by decide) (by rfl) (by rfl)) (@ag _) (by rfl)) (by rfl) (by first | exact k_ rfl | exact l_ (k_ rfl) | exact l_ (l_ rfl)) (by decide) (by decide) (by rfl) (by rfl) (by rfl) (by rfl) (by rfl))) (by rfl) (by rfl) (by rfl) (by rfl) (by rfl) (by intro _;rfl)) (@af _ _ _ _ _ _ (@az _ _ _ _ _ 6 _ _ sc.nd (by rfl) (k_ rfl) (by rfl) (@aK _ _ _ _ _ _ _ hr (@aN _ _ _ (@bp _ _ _ _ (@ae _ _ _ _ _ (@bp _ _ _ _ (@ae _ _ _ _ _ (@ge_int _ _ _ _) (@ae _ _ _ _ _ (@ge_int _ _ _ _) (@ae _ _ _ _ _ (@ge_int _ _ _ _) (@ae _ _ _ _ _ (@ge_int _ _ _ _) (@ae _ _ _ _ _ (@ge_int _ _ _ _) (@ag _) (by rfl)) (by rfl)) (by rfl)) (by rfl)) (by rfl))) (@ae _ _ _ _ _ (@bp _ _ _ _ (@ae _ _ _ _ _ (@ge_int _ _ _ _) (@ae _ _ _ _ _ (@ge_int _ _ _ _) (@ae _ _ _ _ _ (@ge_int _ _ _ _) (@ae _ _ _ _ _ (@ge_int _ _ _ _) (@ae _ _ _ _ _ (@ge_int _ _ _ _) (@ag _) (by rfl)) (by rfl)) (by rfl)) (by rfl)) (by rfl))) (@ae _ _ _ _ _ (@bp _ _ _ _ (@ae _ _ _ _ _ (@ge_int _ _ _ _) (@ae _ _ _ _ _ (@ge_int _ _ _ _) (@ae _ _ _ _ _ (@ge_int _ _ _ _) (@ae _ _ _ _ _ (@ge_int _ _ _ _) (@ae _ _ _ _ _ (@ge_int _ _ _ _) (@ag _) (by rfl)) (by rfl)) (by rfl)) (by rfl)) (by rfl))) (@ag _) (by rfl)) (by rfl)) (by rfl)))) (@aA _ _ _ _ _ _ _ _ _ _ _ _ G_take hr (by rfl) (@bI _ _ _ 0 _ _ (@ai _ _ _ _ _ (@ge_int _ _ _ _) (@aB _) (by rfl)) (by rfl) (by first | exact k_ rfl | exact l_ (k_ rfl) | exact l_ (l_ rfl)) (by decide) (by decide) (by rfl)) (by omega) (by decide) (by rfl) (by rfl)) (by intro _ _;rfl)) (by rfl) (by first | exact .inl rfl | exact .inr rfl)) (@af _ _ _ _ _ _ (@az _ _ _ _ _ 7 _ _ sc.nd (by rfl) (k_ rfl) (by rfl) (@aT _ _ _ _ _ _ _ _ kZ (@aN _ _ _ (@bp _ _ _ _ (@ae _ _ _ _ _ (@cn _ _ _ _ _ (@ae _ _ _ _ _ (@ge_int _ _ _ _) (@ae _ _ _ _ _ (@bp _ _ _ _ (@ag _)) (@ag _) (by rfl)) (by rfl))) (@ag _) (by rfl)))) (@b9 _ _ 1 _ (by rfl) (by first | exact k_ rfl | exact l_ (k_ rfl) | exact l_ (l_ rfl)) (by decide) (by decide))) (by rfl) (by first | exact .inl rfl | exact .inr rfl)) (@af _ _ _ _ _ _ (@az _ _ _ _ _ 8 _ _ sc.nd (by rfl) (k_ rfl) (by rfl) (@aK _ _ _ _ _ _ _ hr (@aN _ _ _ (@bp _ _ _ _ (@ae _ _ _ _ _ (@ge_int _ _ _ _) (@ae _ _ _ _ _ (@ge_int _ _ _ _) (@ae _ _ _ _ _ (@ge_int _ _ _ _) (@ae _ _ _ _ _ (@ge_int _ _ _ _) (@ag _) (by rfl)) (by rfl)) (by rfl)) (by rfl)))) (@aA _ _ _ _ _ _ _ _ _ _ _ _ G_take hr (by rfl) (@bI _ _ _ 0 _ _ (@ai _ _ _ _ _ (@ge_int _ _ _ _) (@aB _) (by rfl)) (by rfl) (by first | exact k_ rfl | exact l_ (k_ rfl) | exact l_ (l_ rfl)) (by decide) (by decide) (by rfl)) (by omega) (by decide) (by rfl) (by rfl)) (by intro _ _;rfl)) (by rfl) (by first | exact .inl rfl | exact .inr rfl)) (@af _ _ _ _ _ _ (@eF _ _ _ _ _ _ _ _ _ Od (by rfl) (@fx _ _ _ _ _ _ _ _ (by rfl) TX.enumerate (@ae _ _ _ _ _ (@b9 _ _ 5 _ (by rfl) (by first | exact k_ rfl | exact l_ (k_ rfl) | exact l_ (l_ rfl)) (by decide) (by decide)) (@ag _) (by rfl)) (by rfl)) (@eQ _ _ _ _ _ _ 2 (by rfl) (@aW _ _ _ _ _ _ (@av _ _ _ 9 _ sc.nd (by rfl) (k_ rfl) (by rfl) (by first | exact .inl rfl | exact .inr rfl)) (@aW _ _ _ _ _ _ (@av _ _ _ 10 _ sc.nd (by rfl) (k_ rfl) (by rfl) (by first | exact .inl rfl | exact .inr rfl)) (@cN _ _) (by rfl)) (by rfl)) (by rfl) (by rfl)) (@af _ _ _ _ _ _ (@az _ _ _ _ _ 11 _ _ sc.nd (by rfl) (k_ rfl) (by rfl) (@aN _ _ _ (@bp _ _ _ _ (@ag _))) (by rfl) (by first | exact .inl rfl | exact .inr rfl)) (@af _ _ _ _ _ _ (@eF _ _ _ _ _ _ _ _ _ Od (by rfl) (@j8 _ _ _ _ _ _ (by rfl) TX.range (@ae _ _ _ _ _ (@ge_if _ _ _ _ _ _ _ _ (@gB _ _ _ (@bA _ _ _ _ _ _ _ _ zP (@ab _ _ 9 _ (by rfl) (by first | exact k_ rfl | exact l_ (k_ rfl) | exact l_ (l_ rfl)) (by decide) (by decide)) (@ge_int _ _ _ _) (aO _))) (@aA _ _ _ _ _ _ _ _ _ _ _ _ G_take hr (by rfl) (@bI _ _ _ 0 _ _ (@ai _ _ _ _ _ (@aN _ _ _ (@aT _ _ _ _ _ _ _ _ bM (@ab _ _ 8 _ (by rfl) (by first | exact k_ rfl | exact l_ (k_ rfl) | exact l_ (l_ rfl)) (by decide) (by decide)) (@ge_int _ _ _ _))) (@aB _) (by rfl)) (by rfl) (by first | exact k_ rfl | exact l_ (k_ rfl) | exact l_ (l_ rfl)) (by decide) (by decide) (by rfl)) (by omega) (by decide) (by rfl) (by rfl)) (@ge_int _ _ _ _)) (@ag _) (by rfl)) (by rfl)) (@av _ _ _ 4 _ sc.nd (by rfl) (k_ rfl) (by rfl) (by first | exact .inl rfl | exact .inr rfl)) (@ak _ _ _ _ (@i9 _ _ _ _ _ (@iK _ _ _ _ _ _ _ _ _ 11 _ _ O' Pa dD (@ae _ _ _ _ _ (@aK _ _ _ _ _ _ _ hr (@b9 _ _ 5 _ (by rfl) (by first | exact k_ rfl | exact l_ (k_ rfl) | exact l_ (l_ rfl)) (by decide) (by decide)) (@aA _ _ _ _ _ _ _ _ _ _ _ _ G_take hr (by rfl) (@bI _ _ _ 0 _ _ (@ai _ _ _ _ _ (@b9 _ _ 9 _ (by rfl) (by first | exact k_ rfl | exact l_ (k_ rfl) | exact l_ (l_ rfl)) (by decide) (by decide)) (@aB _) (by rfl)) (by rfl) (by first | exact k_ rfl | exact l_ (k_ rfl) | exact l_ (l_ rfl)) (by decide) (by decide) (by rfl)) (by omega) (by decide) (by rfl) (by rfl)) (by intro _ _;rfl)) (@ag _) (by rfl)) (by rfl) (by first | exact k_ rfl | exact l_ (k_ rfl) | exact l_ (l_ rfl)) (by decide) (by decide) (by rfl) (by rfl) (by rfl) (by rfl) (by rfl)) (by rfl))) (by intro _;rfl)) (@ak _ _ _ _ (@sN _ _ _ _ _ _ _ (@cn _ _ _ _ _ (@ae _ _ _ _ _ (@aK _ _ _ _ _ _ _ hr (@b9 _ _ 6 _ (by rfl) (by first | exact k_ rfl | exact l_ (k_ rfl) | exact l_ (l_ rfl)) (by decide) (by decide)) (@aA _ _ _ _ _ _ _ _ _ _ _ _ G_take hr (by rfl) (@bI _ _ _ 0 _ _ (@ai _ _ _ _ _ (@b9 _ _ 2 _ (by rfl) (by first | exact k_ rfl | exact l_ (k_ rfl) | exact l_ (l_ rfl)) (by decide) (by decide)) (@aB _) (by rfl)) (by rfl) (by first | exact k_ rfl | exact l_ (k_ rfl) | exact l_ (l_ rfl)) (by decide) (by decide) (by rfl)) (by omega) (by decide) (by rfl) (by rfl)) (by intro _ _;rfl)) (@ae _ _ _ _ _ (@b9 _ _ 11 _ (by rfl) (by first | exact k_ rfl | exact l_ (k_ rfl) | exact l_ (l_ rfl)) (by decide) (by decide)) (@ag _) (by rfl)) (by rfl))) (@tL _ _ _ _ 7 _ _ _ _ hr (@b9 _ _ 10 _ (by rfl) (by first | exact k_ rfl | exact l_ (k_ rfl) | exact l_ (l_ rfl)) (by decide) (by decide)) (by rfl) (by first | exact k_ rfl | exact l_ (k_ rfl) | exact l_ (l_ rfl)) (by decide) (by decide) (by intro _;rfl)) (by rfl) (by rfl) (by rfl))))) (by intro _;rfl)) (@ak _ _ _ _ (@b6 _ _ _ _ _ (@nF _ _ 7 _ (by rfl) (by first | exact k_ rfl | exact l_ (k_ rfl) | exact l_ (l_ rfl)) (by decide) (by decide)))))))))),fun ts kk hl hp=>?_⟩
 clear hl
 obtain⟨c,n,m,u,rfl,hn,hm,u0,u1,q⟩:=hp
 walk_at "go"
 rw[C_,yx]
 refine⟨⟨by omega,by omega⟩,md,⟨by omega,by omega⟩,?_⟩
 refine aU (by rw[b_,u_,NQ];omega) (fun i acc ie=>∃(c':Cells) (l os:List Nat) (z1:T),(os++l).Perm (o_ m)/\os.length=i/\acc=os.map nT/\ie=[z1,.lst true (l.map nT),stT c' (n + i)]) ⟨c,o_ m,[],_,.refl _,rfl,rfl,rfl⟩ ?_ ?_
 ·rintro i t _ _ ⟨c',l,os,z1,pm,hos,rfl,rfl⟩ ei
  have hi:i < m:=by
   have:=(c_.mp ei).1
   rwa[b_,u_]at this
  have hl:os.length + l.length=m:=by
   have:=pm.length_eq
   rwa[j',u_]at this
  walk_at "go"
  refine⟨_,_,_,rfl,by omega,by omega,by omega,?_⟩
  intro r c1 a1 b1
  have hr:r.toNat < l.length:=by omega
  have ex:l[r.toNat]?=some l[r.toNat]:=a_ hr
  walk_at "go"
  refine⟨⟨a1,by omega⟩,aD (by rw[A',ex];rfl) ?_⟩
  walk_at "go"
  rw[yf]
  refine⟨c1,l.eraseIdx r.toNat,os++[l[r.toNat]],_,?_,by rw[j',hos];rfl,by rw[z_];rfl,rfl⟩
  rw[j_]
  exact((sJ ex).symm.append_left os).trans pm
 rintro _ _ ⟨c',l,os,z1,pm,hos,rfl,rfl⟩
 rw[b_,u_]at hos ⊢
 have hl:l=[]:=by
  have:=pm.length_eq
  rw[j',u_]at this
  exact Je (by omega)
 subst hl
 rw[H_]at pm
 have nd:os.Nodup:=pm.nodup_iff.mpr L7
 have mem:∀ i,i∈os↔i < m:=fun i=>pm.mem_iff.trans Jh
 walk_at "go"
 walk_at "take"
 intro r c1 a1 b1
 walk_at "go"
 obtain⟨ns,hns,nsb,en⟩:=yZ a1 b1
 refine aD en ?_
 walk_at "go"
 refine⟨⟨by omega,by omega⟩,?_⟩
 walk_at "take"
 intro r2 c2 a2 b2
 walk_at "go"
 obtain⟨v,v0,v1,ev⟩:=AE a2 b2
 refine aD ev ?_
 walk_at "go"
 rw[C_,Fp]
 refine cv (fun p env=>∃(c':Cells) (n':Nat) (J:List Jb) (o6:Bool) (z4 z9 z10 z11:T),n'<=n + m + 2 + p * 10/\JP os m p J/\env=[stT c' n',.int (m:Int),.int (u:Int),.lst true [],z4,.lst false (os.map nT),.lst o6 (ns.map T.int),.lst true (J.map jbT),.int (v:Int),z9,z10,z11]) ⟨c2,_,_,true,_,_,_,_,by omega,IA,rfl⟩ ?_ ?_
 ·rintro p t _ ⟨c',n',J,o6,z4,z9,z10,z11,hn',hJ,rfl⟩ ei
  obtain⟨i,ej,rfl⟩:=fA ei
  have hp:p < os.length:=(c_.mp ej).1
  have im:i < m:=(mem i).mp (y_ ej)
  walk_at "go"
  refine bj (fun g=>?_) (fun g=>?_)
  ·walk_at "go"
   refine⟨_,_,_,rfl,by omega,by omega,by omega,?_⟩
   intro r3 c3 a3 b3
   walk_at "go"
   refine⟨⟨by omega,by omega⟩,cv (fun a env=>∃(c3:Cells) (n3:Nat) (nds:List Nat) (z4:T),n3<=n' + 1 + a/\nds.length=a/\(∀ x∈nds,x∈os.take p)/\env=[stT c3 n3,.int (m:Int),.int (u:Int),.lst true [],z4,.lst false (os.map nT),.lst o6 (ns.map T.int),.lst true (J.map jbT),.int (v:Int),.int (p:Int),.int (i:Int),.lst true (nds.map nT)]) ⟨c3,n' + 1,[],_,by omega,rfl,(fun x z=>by cases z),rfl⟩ ?_ ?_⟩
   ·rintro a t _ ⟨c5,n5,nds,z4,hn5,hnd,hx,rfl⟩ ea
    have ha:=oY ea
    walk_at "go"
    refine⟨_,_,_,rfl,by omega,by omega,by omega,?_⟩
    intro r5 c6 a5 b5
    have h5:r5.toNat < os.length:=by omega
    have e5:os[r5.toNat]?=some os[r5.toNat]:=a_ h5
    walk_at "go"
    refine aD (u:=nT os[r5.toNat]) (by have:=dA (g:=nT) e5;rwa[KS a5]at this) ?_
    walk_at "go"
    refine⟨by omega,c6,n5 + 1,nds++[os[r5.toNat]],_,by omega,by rw[j',hnd];rfl,fun x hx'=>?_,by rw[z_];rfl⟩
    rcases F'.mp hx' with hx' | hx'
    ·exact hx x hx'
    rw[w_.mp hx']
    exact Jt.mpr ⟨r5.toNat,by rw[JU (by omega)];exact e5⟩
   rintro _ ⟨c5,n5,nds,z4,hn5,hnd,hx,rfl⟩
   rw[eU]at hn5 hnd
   walk_at "go"
   refine⟨_,_,_,rfl,by omega,by omega,by omega,?_⟩
   intro r4 c4 a4 b4
   walk_at "go"
   obtain⟨tv,etv,htv⟩:=n6 (fun v=>0<=v/\v<=40) (ns:=ns) (i:=r4) a4 (by omega) nsb
   refine aD etv ?_
   walk_at "go"
   refine aD (CV (by rw[hJ.1];exact im)) ?_
   walk_at "go"
   exact⟨c4,n5 + 1,J.set i ⟨tv,nds,false,true⟩,false,_,_,_,_,by omega,yt htv nd mem hJ ej (by omega) hx,by rw[MC];rfl⟩
  walk_at "go"
  refine⟨⟨by decide,by decide⟩,cv (fun a env=>∃(c3:Cells) (n3:Nat) (nds:List Nat) (z4:T),n3<=n' + 1 + a/\nds.length=a/\(∀ x∈nds,x∈os.take p)/\env=[stT c3 n3,.int (m:Int),.int (u:Int),.lst true [],z4,.lst false (os.map nT),.lst o6 (ns.map T.int),.lst true (J.map jbT),.int (v:Int),.int (p:Int),.int (i:Int),.lst true (nds.map nT)]) ⟨c',n',[],_,by omega,rfl,(fun x z=>by cases z),rfl⟩ (fun a t _ _ ea=>absurd (oY ea) (Lm _)) ?_⟩
  rintro _ ⟨c5,n5,nds,z4,hn5,hnd,hx,rfl⟩
  rw[eU]at hn5 hnd
  walk_at "go"
  refine⟨_,_,_,rfl,by omega,by omega,by omega,?_⟩
  intro r4 c4 a4 b4
  walk_at "go"
  obtain⟨tv,etv,htv⟩:=n6 (fun v=>0<=v/\v<=40) (ns:=ns) (i:=r4) a4 (by omega) nsb
  refine aD etv ?_
  walk_at "go"
  refine aD (CV (by rw[hJ.1];exact im)) ?_
  walk_at "go"
  exact⟨c4,n5 + 1,J.set i ⟨tv,nds,false,true⟩,false,_,_,_,_,by omega,yt htv nd mem hJ ej (by omega) hx,by rw[MC];rfl⟩
 rintro _ ⟨c',n',J,o6,z4,z9,z10,z11,hn',hJ,rfl⟩
 rw[cE,hos]at hn' hJ
 walk_at "go"
 exact q c' n' J _ _ (by omega) hJ.1 (by unfold JOk;rw[hJ.1];exact hJ.2.1) (vv nd mem hos hJ)
end
noncomputable def kX:FP:=fun ts k=>∃(o o2:Bool) (J:List Jb) (os:List Nat),ts=[.lst o (J.map jbT),.lst o2 (os.map nT)]/\(∀ i∈os,i < J.length)/\os.length<=50/\∀ z1 z2,k (.int (tkF (ah J) none os)) [z1,z2]
section
variable{P:Nv}{w:NA}{K:Ng}{mg:Str->Option Nf}{base:NB}
theorem jP:FnScope ["_law_jobs_here","_law_order","_law_tools"] ["_law_jobs_here","_law_order"] (aj fT):=⟨rfl,rfl,rfl,by decide +kernel,rfl,by decide +kernel,by decide +kernel⟩
set_option maxHeartbeats 4000000 in
theorem sE{f:Nh}{fd:NK}(F:Fun K "_law_takes_in" "_law_takes_in" fT f fd)(TX:Txt mg)  :FnOk P w K mg base CX0 1 f fd ["_law_jobs_here","_law_order"] (aG K 2 kX):=by
 refine bT F jP [true,true] rfl (fun cdv A outer s H E hr=>?_)
 have sc:=@jP
 have nd1:(["_law_number","_law_jobs_here"]:List Str).Nodup:=by decide +kernel
 have nd2:(["_law_k","_law_tools"]:List Str).Nodup:=by decide +kernel
 refine⟨_,(af (az (i:=2) sc.nd (by rfl) (l_ rfl) (by rfl) (aN (aT bM (bp (ae l7 ag)) (bH sc ["_law_number","_law_jobs_here"] [none,some 0] nd1 (by decide +kernel) (bL (ab 1)) (fun _ _ _=>(av (i:=0) nd1 (by rfl) (k_ rfl) (by rfl) (hf:=(l_ rfl)))) (fun _ _ _=>bG) (fun _ _ _=>(aK hr (aK hr (ab 1) (ab 0)) ge_int)))))) (ak (b6 (aN (aL bc (by rfl) TX.len (by decide +kernel) (ae (bH sc ["_law_k","_law_tools"] [none,some 2] nd2 (by decide +kernel) (j8 (by rfl) TX.range (ae (aL bc (by rfl) TX.len (by decide +kernel) (ae (ab 1) ag)) ag)) (fun _ _ _=>(av (i:=0) nd2 (by rfl) (k_ rfl) (by rfl) (hf:=(l_ rfl)))) (fun _ _ _=>(kP (bA (fZ hr) (aK hr (ab 1) (ab 0)) (aK hr (ab 1) (aT bM (ab 0) ge_int)) (aO _)))) (fun _ _ _=>ge_int)) ag)))))),fun ts kk hl hp=>?_⟩
 clear hl
 obtain⟨o,o2,J,os,rfl,hm,hl,q⟩:=hp
 walk_at "go"
 refine aU (by rw[b_,NQ];omega) (fun i acc ie=>∃ z1,acc=(os.take i).map (fun i=>tT (some (tl (ah J) i)))/\ie=[z1,.lst false (J.map jbT)]) ⟨_,rfl,rfl⟩ ?_ ?_
 ·rintro i u _ _ ⟨z1,rfl,rfl⟩ ei
  obtain⟨j,ej,rfl⟩:=bO ei
  obtain⟨b,eb,et⟩:=Hv (hm j (y_ ej))
  walk_at "go"
  refine aD (dA eb) ?_
  walk_at "go"
  exact⟨_,by rw[map_take ej,et];rfl,rfl⟩
 rintro _ _ ⟨z1,rfl,rfl⟩
 rw[b_,Jm]
 walk_at "go"
 have e1:T.non::Kq (fun i=>tT (some (tl (ah J) i))) os=(none::os.map fun i=>some (tl (ah J) i)).map tT:=by rw[f_,Jj];rfl
 rw[e1]
 have hll:(none::os.map fun i=>some (tl (ah J) i)).length=os.length + 1:=by rw[i_,b_]
 have hc:=vy (os.map fun i=>some (tl (ah J) i)) none
 rw[b_]at hc
 have hk:=zi (ah J) os none
 rw[<-hc]at hk
 generalize (none::os.map fun i=>some (tl (ah J) i))=l at *
 refine⟨by omega,⟨by omega,by omega⟩,aU (by rw[eU,NQ];omega) (fun i acc ie=>∃ z1,acc=((o_ i).filter fun k=>decide (l[k]?≠l[k + 1]?)).map (fun _=>T.int 1)/\ie=[z1,.lst false (l.map tT)]) ⟨_,rfl,rfl⟩ ?_ ?_⟩
 ·rintro i u _ _ ⟨z1,rfl,rfl⟩ ei
  have hi:=oY ei
  have et:=FJ ei
  subst et
  rw[M7]
  have ha:l[i]?=some (l[i]'(by omega)):=a_ _
  have hb:l[i + 1]?=some (l[i + 1]'(by omega)):=a_ _
  walk_at "go"
  refine aD (dA ha) ?_
  walk_at "go"
  rw[show(i:Int) + 1=((i + 1:Nat):Int) by omega]
  refine aD (dA hb) ?_
  walk_at "go"
  rw[yD ha hb]
  refine bj (fun g=>?_) (fun g=>?_)
  ·walk_at "go"
   exact⟨_,by rw[if_pos g,H_],rfl⟩
  walk_at "go"
  exact⟨_,by rw[if_neg g],rfl⟩
 rintro _ _ ⟨z1,rfl,rfl⟩
 rw[eU,C_]
 walk_at "go"
 rw[hk]
 exact q _ _
end
noncomputable def jd:FP:=fun ts k=>∃(o:Bool) (J:List Jb) (u:Int) (s:List Nat) (t:T),ts=[.lst o (J.map jbT),.int u,t]/\(∀ k,A2 [er t] k=k (.lst true (s.map nT)))/\isAny (er t)=false/\J.length<=10/\JOk J/\s.Nodup/\(∀ i∈s,i < J.length)/\∀(r:List Nat) z1,r.Pairwise (· < ·)->(∀ i∈r,i < J.length)->(∀ i∈s,i∈r)->GO (ah J) u (sM s) (sM r)->k (.tup (r.map nT)) [z1,.int u,t]
section
variable{P:Nv}{w:NA}{K:Ng}{mg:Str->Option Nf}{base:NB}
theorem mN:FnScope ["_law_jobs_here","_law_tool","_law_done","_law_found","_law_size","_law_number","_law_job"] ["_law_jobs_here","_law_tool","_law_done"] (aj j9):=⟨rfl,rfl,rfl,by decide +kernel,rfl,by decide +kernel,by decide +kernel⟩
set_option maxHeartbeats 4000000 in
theorem uo{f:Nh}{fd:NK}(F:Fun K "_law_gone_on" "_law_gone_on" j9 f fd)(TX:Txt mg)  :FnOk P w K mg base CX0 1 f fd ["_law_jobs_here","_law_tool","_law_done"] (aG K 3 jd):=by
 refine bT F mN [true,true,true] rfl (fun cdv A outer s H E hr=>?_)
 have sc:=@mN
 have nd1:(["_law_need","_law_found"]:List Str).Nodup:=by decide +kernel
 refine⟨_,(af (az (i:=3) sc.nd (by rfl) (l_ rfl) (by rfl) (aN (cB uk (by rfl) TX.list (by decide +kernel) (ae (ab 2) ag)))) (af (az (i:=4) sc.nd (by rfl) (k_ rfl) (by rfl) (aN (uu ge_int))) (af (gK Od (gB (bA xW (ab 4) (aL bc (by rfl) TX.len (by decide +kernel) (ae (ab 3) ag)) (aO _))) (af (az (i:=4) sc.nd (by rfl) (k_ rfl) (by rfl) (aN (aL bc (by rfl) TX.len (by decide +kernel) (ae (ab 3) ag)))) (ak (eF Od (by rfl) (fx (by rfl) TX.enumerate (ae (b9 0) ag)) (eQ (n:=2) (by rfl) (aW (av (i:=5) sc.nd (by rfl) (k_ rfl) (by rfl)) (aW (av (i:=6) sc.nd (by rfl) (k_ rfl) (by rfl)) cN))) (ak (fH (gB (FO (oJ (bA (eZ hr) (aK hr (ab 6) ge_int) (ab 1) (aO _)) (oJ (bA (qg hr) (ab 5) (ab 3) (by with_unfolding_all rfl)) (oP (gq (aL (jq rfl) (by rfl) TX.all (by decide +kernel) (ae (bH sc ["_law_need","_law_found"] [none,some 3] nd1 (by decide +kernel) (bL (aK hr (ab 6) ge_int)) (fun _ _ _=>(av (i:=0) nd1 (by rfl) (k_ rfl) (by rfl) (hf:=(l_ rfl)))) (fun _ _ _=>bG) (fun _ _ _=>(dC (tP hr) (ab 0) (ab 1) (by with_unfolding_all rfl)))) ag)))))))) (ak (i9 (iK 3 O' Pa dD (ae (b9 5) ag)))) cf)))))) (ak (b6 (aN (cB qQ (by rfl) TX.tuple (by decide +kernel) (ae (aL (gE rfl) (by rfl) TX.sorted (by decide +kernel) (ae (ab 3) ag)) ag)))))))),fun ts kk hl hp=>?_⟩
 clear hl
 obtain⟨o,J,u,s,t,rfl,ht,ia,hl,hj,nd,lt,q⟩:=hp
 have hR:(ah J).length=J.length:=cJ
 walk_at "go"
 rw[ht]
 refine⟨ia,?_⟩
 walk_at "go"
 refine f9 (fun m env=>∃(f:List Nat) (sz:Int) (o':Bool) (z5 z6:T),Gn J u s f/\-1<=sz/\sz<=f.length/\(sz=f.length->∀ i∈rdy (ah J) (sM f),tl (ah J) i≠u)/\m=((J.length:Int) + 1 - sz).toNat/\env=[.lst o' (J.map jbT),.int u,t,.lst true (f.map nT),.int sz,z5,z6]) _ ⟨s,-1,o,_,_,Ip nd lt,by decide,by omega,fun z=>by omega,rfl,rfl⟩ ?_
 rintro m _ ⟨f,sz,o',z5,z6,G,h0,h1,h2,rfl,rfl⟩
 have fl:=yj G
 walk_at "go"
 refine bj (fun h=>?_) (fun h=>?_)
 ·walk_at "go"
  refine cv (fun i env=>∃(ex:List Nat) (z5 z6:T),Gn J u s (f++ex)/\(ex=[]->∀ k,k < i->k∈rdy (ah J) (sM f)->tl (ah J) k≠u)/\env=[.lst false (J.map jbT),.int u,t,.lst true ((f++ex).map nT),.int (f.length:Int),z5,z6]) ⟨[],_,_,by rw[H_];exact G,fun _ k z=>absurd z (Lm _),by rw[H_]⟩ ?_ ?_
  ·rintro i t' _ ⟨ex,z5,z6,G',he,rfl⟩ ei
   obtain⟨j,ej,rfl⟩:=fA ei
   have hi:i < J.length:=(c_.mp ej).1
   have rd:=kO (os:=f++ex) ej
   have tj:j.tool=tl (ah J) i:=(qy ej).2.1.symm
   obtain⟨⟨ja,jb,_⟩,jn,jl⟩:=hj j (y_ ej)
   have dI:(i∈rdy (ah J) (sM (f++ex))->tl (ah J) i≠u)->∃(ex':List Nat) (z5 z6:T),Gn J u s (f++ex')/\(ex'=[]->∀ k,k < i + 1->k∈rdy (ah J) (sM f)->tl (ah J) k≠u)/\[T.lst false (J.map jbT),.int u,t,.lst true ((f++ex).map nT),.int (f.length:Int),.int (i:Int),jbT j]=[.lst false (J.map jbT),.int u,t,.lst true ((f++ex').map nT),.int (f.length:Int),z5,z6]:=fun g=>by
    refine⟨ex,_,_,G',fun z k hk mk=>?_,rfl⟩
    by_cases w:k=i
    ·subst w
     rw[z,H_]at g
     exact g mk
    exact he z k (by omega) mk
   walk_at "go"
   refine bj (fun g1=>?_) (fun g1=>?_)
   ·walk_at "go"
    refine bj (fun g2=>?_) (fun g2=>?_)
    ·walk_at "go"
     exact dI fun z=>absurd g2 (rd.mp z).1
    walk_at "go"
    refine aU (by rw[b_,NQ];omega) (fun a acc ie=>∃ z1,acc=(j.needs.take a).map (fun n=>T.bl (decide (n∈f++ex)))/\ie=[z1,.lst false ((f++ex).map nT)]) ⟨_,rfl,rfl⟩ ?_ ?_
    ·rintro a u' _ _ ⟨z1,rfl,rfl⟩ ea
     obtain⟨b,eb,rfl⟩:=bO ea
     walk_at "go"
     exact⟨_,by rw[map_take eb],rfl⟩
    rintro _ _ ⟨z1,rfl,rfl⟩
    rw[b_,Jm]
    walk_at "go"
    rw[t7]
    refine mJ (fun g3=>?_) (fun g3=>?_)
    ·have hr:i∈rdy (ah J) (sM (f++ex)):=rd.mpr ⟨g2,fun n m=>of_decide_eq_true (JB.mp g3 n m)⟩
     have G2:=FF G' hr (by rw[<-tj];exact g1)
     have l2:=yj G2
     walk_at "go"
     refine⟨by rw[j']at l2;omega,ex++[i],_,_,by rw[<-j_];exact G2,fun z=>by simp at z,by rw[show(f++(ex++[i])).map nT=(f++ex).map nT++[T.int (i:Int)] by rw[<-j_,z_];rfl]⟩
    walk_at "go"
    refine dI fun z=>?_
    have:j.needs.all (fun x=>decide (x∈f++ex))=true:=JB.mpr fun n m=>decide_eq_true ((rd.mp z).2 n m)
    rw[this]at g3
    cases g3
   walk_at "go"
   exact dI fun _ z=>g1 (by rw[tj];exact z)
  rintro _ ⟨ex,z5,z6,G',he,rfl⟩
  rw[cE]at he
  refine⟨_,?_,f++ex,_,false,_,_,G',by omega,by rw[j'];omega,fun z=>?_,rfl,rfl⟩
  ·omega
  have:ex=[]:=Je (by rw[j']at z;omega)
  subst this
  rw[H_]
  exact fun k mk=>he rfl k (by have:=aR mk;omega) mk
 walk_at "go"
 rw[zS]
 obtain⟨r,pr,er',ur⟩:=uZ f G.1
 rw[er',CJ]
 walk_at "go"
 have e1:sM r=sM f:=Dv fun x=>pr.mem_iff
 refine q r _ ur (fun i m=>G.2.1 i (pr.mem_iff.mp m)) (fun i m=>pr.mem_iff.mpr ?_) ?_
 ·obtain⟨g,eg,_⟩:=G.2.2
  rw[eg]
  exact Jf _ m
 rw[e1]
 exact GV G (h2 (by omega))
end
noncomputable def bB:Nat->FP
 | 0=>fun _ _=>False
 | n + 1=>fun ts k=>∃(o:Bool) (J:List Jb) (E:List (List Nat)) (s:List Nat),ts=[.lst o (J.map jbT),.dT true (kdT (ah J) E),.tup (s.map nT)]/\n<=11/\J.length<=10/\0 < J.length/\JOk J/\b8 (ah J)/\J.length<=s.length + n/\s.Pairwise (· < ·)/\(∀ i∈s,i < J.length)/\EOk J.length E/\∀(E':List (List Nat)) z1,EOk J.length E'->k (.int (Lv (ah J) (sM s) none)) [z1,.dT true (kdT (ah J) E'),.tup (s.map nT)]
section
variable{P:Nv}{w:NA}{K:Ng}{mg:Str->Option Nf}{base:NB}
theorem fI:FnScope ["_law_jobs_here","_law_known","_law_done","_law_some"] ["_law_jobs_here","_law_known","_law_done"] (aj cq):=⟨rfl,rfl,rfl,by decide +kernel,rfl,by decide +kernel,by decide +kernel⟩
set_option maxHeartbeats 4000000 in
theorem mV(n:Nat){f:Nh}{fd:NK}(F:Fun K "_law_takes_left" "_law_takes_left" cq f fd)(TX:Txt mg)(G_gone_on:Cal P w K mg base 1 "_law_gone_on" ["_law_jobs_here","_law_tool","_law_done"] (aG K 3 jd))(G_takes_left:Cal P w K mg base (2 + n) "_law_takes_left" ["_law_jobs_here","_law_known","_law_done"] (aG K 3 (bB n))):FnOk P w K mg base CX0 (2 + (n + 1)) f fd ["_law_jobs_here","_law_known","_law_done"] (aG K 3 (bB (n + 1))):=by
 refine bT (k:=2 + n) F fI [true,true,true] rfl (fun cdv A outer s H E hr=>?_)
 have sc:=@fI
 have nd1:(["_law_job"]:List Str).Nodup:=by decide +kernel
 have nd2:(["_law_tool","_law_done","_law_jobs_here"]:List Str).Nodup:=by decide +kernel
 have nd3:(["_law_more","_law_done","_law_known","_law_jobs_here"]:List Str).Nodup:=by decide +kernel
 refine⟨_,(af (fH (gB (bA (eZ hr) (aL bc (by rfl) TX.len (by decide +kernel) (ae (ab 2) ag)) (aL bc (by rfl) TX.len (by decide +kernel) (ae (ab 0) ag)) (aO _))) (ak (b6 ge_int)) cf) (fu (fH (gB (bA (qg hr) (ab 2) (ab 1) (by with_unfolding_all rfl))) (af (m9 sc (i:=3) ["_law_tool","_law_done","_law_jobs_here"] [none,some 2,some 0] nd2 (by decide +kernel) (by rfl) (k_ rfl) (by rfl) (bL (gF (by rfl) (by rfl) TX.sorted (by rfl) TX.set (bH sc ["_law_job"] [none] nd1 (by decide +kernel) (bL (ab 0)) (fun _ _ _=>(av (i:=0) nd1 (by rfl) (k_ rfl) (by rfl) (hf:=(l_ rfl)))) (fun _ _ _=>bG) (fun _ _ _=>(aK hr (ab 0) ge_int))))) (fun _ _ _=>(av (i:=0) nd2 (by rfl) (k_ rfl) (by rfl) (hf:=(l_ rfl)))) (fun _ _ _=>bG) (fun _ _ _=>(aA G_gone_on hr (by rfl) (ai (ab 2) (ai (ab 0) (ai (ab 1) aB))))) (by rfl)) (ak (sN (aT bM ge_int (aL (nM rfl) (by rfl) TX.min (by decide +kernel) (ae (bH sc ["_law_more","_law_done","_law_known","_law_jobs_here"] [none,some 2,some 1,some 0] nd3 (by decide +kernel) (bL (b9 3)) (fun _ _ _=>(av (i:=0) nd3 (by rfl) (k_ rfl) (by rfl) (hf:=(l_ rfl)))) (fun _ _ _=>(kP (gB (bA (fZ hr) (ab 0) (ab 1) (aO _))))) (fun _ _ _=>(aA G_takes_left hr (by rfl) (ai (b9 3) (bI 2 (ai (b9 0) aB)))))) ag))) (tL (i:=1) hr (b9 2))))) cf) (ak (b6 (aN (aK hr (ab 1) (ab 2))))))),fun ts kk hl hp=>?_⟩
 clear hl
 obtain⟨o,J,E,s,rfl,hn,hl,h0,hj,nr,hs,us,lt,eE,q⟩:=hp
 have nd:s.Nodup:=us.imp fun h=>r_ h
 have hR:(ah J).length=J.length:=cJ
 have sl:=cc nd fun i m=>Jh.mpr (lt i m)
 rw[u_]at sl
 have hd:sM s < 2 ^ (ah J).length:=o8 (by rw[hR];exact lt)
 walk_at "go"
 refine bj (fun h=>?_) (fun h=>?_)
 ·have ew:=(jH nd lt).mp (by omega)
  walk_at "go"
  have:=q E (.lst o (J.map jbT)) eE
  rw[ew,<-hR,xu]at this
  exact this
 have nw:sM s≠2 ^ (ah J).length - 1:=fun z=>h (by rw[hR]at z;rw[(jH nd lt).mpr z])
 walk_at "go"
 refine jc (fun env=>∃(o':Bool) (E':List (List Nat)) (z3:T),s∈E'/\EOk J.length E'/\env=[.lst o' (J.map jbT),.dT true (kdT (ah J) E'),.tup (s.map nT),z3]) ?_ ?_
 ·walk_at "go"
  refine aD oT ?_
  walk_at "go"
  rw[tV]
  by_cases ms:s∈E
  ·rw[if_pos ms]
   refine oB rfl ?_
   walk_at "go"
   exact⟨_,E,_,ms,eE,rfl⟩
  rw[if_neg ms]
  refine Aw rfl ?_
  walk_at "go"
  refine aU (by rw[b_,NQ];omega) (fun i acc ie=>∃ z1,acc=(J.take i).map (fun j=>T.int j.tool)/\ie=[z1]) ⟨_,rfl,rfl⟩ ?_ ?_
  ·rintro i u _ _ ⟨z1,rfl,rfl⟩ ei
   obtain⟨j,ej,rfl⟩:=bO ei
   walk_at "go"
   exact⟨_,by rw[map_take ej],rfl⟩
  rintro _ _ ⟨z1,rfl,rfl⟩
  rw[b_,Jm]
  walk_at "go"
  refine aD zL ⟨by rw[b_];omega,fun ts u1 u2=>?_⟩
  have tsl:ts.length<=J.length:=by
   have:=cc (m:=J.map fun j=>j.tool) (u1.imp fun h=>L8 h) fun z hz=>(u2 z).mp hz
   rwa[b_]at this
  walk_at "go"
  refine aU (by rw[b_,NQ];omega) (fun i acc ie=>∃(rs:List (List Nat)) (z1:T),rs.length=i/\(∀(p:Nat) (u:Int) (r:List Nat),ts[p]?=some u->rs[p]?=some r->Gr J s u r)/\acc=rs.map (fun r=>T.tup (r.map nT))/\ie=[z1,.tup (s.map nT),.lst false (J.map jbT)]) ⟨[],_,rfl,fun p u r _ z=>(by cases z),rfl,rfl⟩ ?_ ?_
  ·rintro i u _ _ ⟨rs,z1,hl2,hg,rfl,rfl⟩ ei
   obtain⟨v,ev,rfl⟩:=bO ei
   walk_at "go"
   refine⟨_,J,v,s,_,rfl,fun k=>by rw[show er (T.tup (s.map fun x=>nT x))=.tup (s.map nT) by simp only[er,fS]];rfl,rfl,hl,hj,nd,lt,fun r z1 g1 g2 g3 g4=>?_⟩
   walk_at "go"
   refine⟨rs++[r],_,by rw[j',hl2];rfl,fun p u r' eu er'=>?_,by rw[z_];rfl,rfl⟩
   by_cases z:p < rs.length
   ·rw[JG z]at er'
    exact hg p u r' eu er'
   have pe:p=rs.length:=by
    have:=(c_.mp er').1
    rw[j',JO]at this
    omega
   subst pe
   rw[hl2,ev]at eu
   rw[Ju (d_ _),K6]at er'
   cases eu
   cases er'
   exact⟨g1,g2,g3,g4⟩
  rintro _ _ ⟨rs,z1,hl2,hg,rfl,rfl⟩
  rw[b_]at hl2
  walk_at "go"
  cases n with
  | zero=>omega
  | succ n=>
  refine aU (by rw[b_,NQ];omega) (fun i acc ie=>∃(E':List (List Nat)) (o':Bool) (z1:T),EOk J.length E'/\acc=((rs.take i).filter (fun r=>!decide (r=s))).map (fun r=>T.int (Lv (ah J) (sM r) none))/\ie=[z1,.tup (s.map nT),.dT true (kdT (ah J) E'),.lst o' (J.map jbT)]) ⟨E,o,_,eE,rfl,rfl⟩ ?_ ?_
  ·rintro i u' _ _ ⟨E',o',z1,eE',rfl,rfl⟩ ei
   obtain⟨r,er,rfl⟩:=bO ei
   have il:i < ts.length:=by have:=(c_.mp er).1;omega
   have G:=hg i _ r (a_ il) er
   walk_at "go"
   rw[nu er]
   refine bj (fun g=>?_) (fun g=>?_)
   ·walk_at "go"
    exact⟨E',_,_,eE',by rw[if_neg (by simp[g]),H_],rfl⟩
   have gm:=BL us G g
   walk_at "go"
   refine⟨_,J,E',r,rfl,by omega,hl,h0,hj,nr,by omega,G.1,G.2.1,eE',fun E2 z1 eE2=>?_⟩
   walk_at "go"
   exact⟨E2,false,_,eE2,by rw[if_pos (by simp[g])],rfl⟩
  rintro _ _ ⟨E',o',z1,eE',rfl,rfl⟩
  rw[b_,Jm]
  obtain⟨l1,l2⟩:=zg nr us lt nw u1 u2 hl2 hg
  walk_at "go"
  refine aD yU ?_
  walk_at "go"
  refine⟨fun z=>l1 (Lu.mp z),fun m hm=>?_⟩
  have e:=l2 m hm.1 hm.2
  refine aD oT ?_
  walk_at "go"
  rw[e]
  have el:=AR eE'
  have e10:2 ^ J.length<=2 ^ 10:=KN (by decide) hl
  refine⟨by unfold kdT;rw[b_];omega,?_⟩
  by_cases w:s∈E'
  ·rw[Bk w]
   exact⟨_,E',_,w,eE',rfl⟩
  rw[Dk w]
  exact⟨_,E'++[s],_,s_ _ p_,BB eE' us lt w,rfl⟩
 rintro _ ⟨o',E',z3,ms,eE',rfl⟩
 walk_at "go"
 refine aD oT ?_
 walk_at "go"
 rw[tV,if_pos ms]
 refine aD rfl ?_
 walk_at "go"
 exact q E' _ eE'
end
noncomputable def mq:FP:=fun ts k=>∃(o o2:Bool) (J:List Jb) (L:Int) (os:List Nat),ts=[.lst o (J.map jbT),.lst o2 (os.map nT)]/\J.length<=10/\JOk J/\j5 (ah J) L os/\∀ z1 z2,k (.bl true) [z1,z2]
section
variable{P:Nv}{w:NA}{K:Ng}{mg:Str->Option Nf}{base:NB}
theorem jY:FnScope ["_law_jobs_here","_law_order","_law_place","_law_number"] ["_law_jobs_here","_law_order"] (aj fU):=⟨rfl,rfl,rfl,by decide +kernel,rfl,by decide +kernel,by decide +kernel⟩
set_option maxHeartbeats 4000000 in
theorem qw{f:Nh}{fd:NK}(F:Fun K "_law_is_order" "_law_is_order" fU f fd)(TX:Txt mg)  :FnOk P w K mg base CX0 1 f fd ["_law_jobs_here","_law_order"] (aG K 2 mq):=by
 refine bT F jY [true,true] rfl (fun cdv A outer s H E hr=>?_)
 have sc:=@jY
 have nd1:(["_law_need","_law_order","_law_place"]:List Str).Nodup:=by decide +kernel
 refine⟨_,(af (fH (gB (bA (fZ hr) (aL (gE rfl) (by rfl) TX.sorted (by decide +kernel) (ae (ab 1) ag)) (fM (by rfl) (by rfl) TX.list (by rfl) TX.range (ae (aL bc (by rfl) TX.len (by decide +kernel) (ae (ab 0) ag)) ag)) (aO _))) (ak (b6 vo)) cf) (af (eF Od (by rfl) (fx (by rfl) TX.enumerate (ae (b9 1) ag)) (eQ (n:=2) (by rfl) (aW (av (i:=2) sc.nd (by rfl) (l_ rfl) (by rfl)) (aW (av (i:=3) sc.nd (by rfl) (k_ rfl) (by rfl)) cN))) (ak (fH (gB (sQ (gq (aL (jq rfl) (by rfl) TX.all (by decide +kernel) (ae (bH sc ["_law_need","_law_order","_law_place"] [none,some 1,some 2] nd1 (by decide +kernel) (bL (aK hr (aK hr (ab 0) (ab 3)) ge_int)) (fun _ _ _=>(av (i:=0) nd1 (by rfl) (k_ rfl) (by rfl) (hf:=(l_ rfl)))) (fun _ _ _=>bG) (fun _ _ _=>(dC (tP hr) (ab 0) (xt (ab 1) BZ (BW (ab 2))) (by with_unfolding_all rfl)))) ag))))) (ak (b6 vo)) cf))) (ak (b6 vo)))),fun ts kk hl hp=>?_⟩
 clear hl
 obtain⟨o,o2,J,L,os,rfl,hl,hj,hf,q⟩:=hp
 have nd:=(su os 0 hf.1.1).1
 have mo:∀ i,i∈os↔i < J.length:=fun i=>by rw[pO hf.1 i,cJ]
 have ol:os.length=J.length:=by
  have h:=(jH nd fun i m=>(pO hf.1 i).mp m).mpr hf.1.2
  rw[h,cJ]
 obtain⟨r,pr,er',ur⟩:=uZ os nd
 have rr:r=o_ J.length:=pD ur Kr fun x=>by rw[pr.mem_iff,mo,Jh]
 walk_at "go"
 rw[zS,er',CJ,rr,C_,yx]
 refine⟨⟨by omega,by omega⟩,Bx (by rw[u_];omega) ?_⟩
 walk_at "go"
 refine cv (fun i env=>∃(o' o2':Bool) (z2 z3:T),env=[.lst o' (J.map jbT),.lst o2' (os.map nT),z2,z3]) ⟨_,_,_,_,rfl⟩ ?_ ?_
 ·rintro p u _ ⟨o',o2',z2,z3,rfl⟩ ei
  obtain⟨i,ej,rfl⟩:=fA ei
  have hi:i < J.length:=(mo i).mp (y_ ej)
  have eJ:J[i]?=some J[i]:=a_ hi
  obtain⟨⟨ja,jb,_⟩,jn,jl⟩:=hj _ (y_ eJ)
  have rd:=(kO (os:=os.take p) eJ).mp ((yn os 0).mp hf.1.1 p i ej)
  generalize J[i]=j at eJ ja jb jn jl rd
  walk_at "go"
  refine aD (dA eJ) ?_
  walk_at "go"
  refine aU (by rw[b_,NQ];omega) (fun a acc ie=>∃ z1,acc=(j.needs.take a).map (fun _=>T.bl true)/\ie=[z1,.lst false (os.map nT),.int (p:Int)]) ⟨_,rfl,rfl⟩ ?_ ?_
  ·rintro a u' _ _ ⟨z1,rfl,rfl⟩ ea
   obtain⟨b,eb,rfl⟩:=bO ea
   have ec:mW (os.map nT) none (some (p:Int))=(os.take p).map nT:=(xn (os.map nT) p).trans (MX ..).symm
   have mb:=rd.2 b (y_ eb)
   walk_at "go"
   rw[ec]
   walk_at "go"
   rw[decide_eq_true mb]
   exact⟨_,by rw[map_take eb],rfl⟩
  rintro _ _ ⟨z1,rfl,rfl⟩
  rw[b_,Jm]
  walk_at "go"
  rw[t7]
  refine oB (JB.mpr fun _ _=>rfl) ?_
  walk_at "go"
  exact⟨_,_,_,_,rfl⟩
 rintro _ ⟨o',o2',z2,z3,rfl⟩
 walk_at "go"
 exact q _ _
end
noncomputable def fN:FP:=fun ts k=>∃(o:Bool) (J:List Jb) (E:List (List Nat)),ts=[.lst o (J.map jbT),.dT true (kdT (ah J) E),.int (Lv (ah J) 0 none)]/\J.length<=10/\0 < J.length/\JOk J/\b8 (ah J)/\EOk J.length E/\∀(os:List Nat) (E':List (List Nat)) z1 z3,EOk J.length E'->j5 (ah J) (Lv (ah J) 0 none) os->k (.lst true (os.map nT)) [z1,.dT true (kdT (ah J) E'),z3]
section
variable{P:Nv}{w:NA}{K:Ng}{mg:Str->Option Nf}{base:NB}
theorem dX:FnScope ["_law_jobs_here","_law_known","_law_least","_law_order","_law_tool","_law_left","_law_some","_law_number","_law_job","_law_behind"] ["_law_jobs_here","_law_known","_law_least"] (aj cX):=⟨rfl,rfl,rfl,by decide +kernel,rfl,by decide +kernel,by decide +kernel⟩
set_option maxHeartbeats 4000000 in
theorem lB{f:Nh}{fd:NK}(F:Fun K "_law_first_order" "_law_first_order" cX f fd)(TX:Txt mg)  (G_gone_on:Cal P w K mg base 1 "_law_gone_on" ["_law_jobs_here","_law_tool","_law_done"] (aG K 3 jd))(G_takes_left:Cal P w K mg base 14 "_law_takes_left" ["_law_jobs_here","_law_known","_law_done"] (aG K 3 (bB 12))):FnOk P w K mg base CX0 15 f fd ["_law_jobs_here","_law_known","_law_least"] (aG K 3 fN):=by
 refine bT F dX [true,true,true] rfl (fun cdv A outer s H E hr=>?_)
 have sc:=@dX
 have nd1:(["_law_need","_law_order"]:List Str).Nodup:=by decide +kernel
 refine⟨_,(af (az (i:=3) sc.nd (by rfl) (l_ rfl) (by rfl) (aN (bp ag))) (af (DN (i:=4) (j:=5) (by rfl) sc.nd (by rfl) (by rfl) (by decide) (by rfl) (by rfl) (by rfl) (by rfl) (ae l7 (ae (b9 2) ag)) (by rfl)) (af (gK Od (gB (bA xW (aL bc (by rfl) TX.len (by decide +kernel) (ae (ab 3) ag)) (aL bc (by rfl) TX.len (by decide +kernel) (ae (ab 0) ag)) (aO _))) (af (az (i:=6) sc.nd (by rfl) (k_ rfl) (by rfl) (aN (bp ag))) (af (eF Od (by rfl) (fx (by rfl) TX.enumerate (ae (b9 0) ag)) (eQ (n:=2) (by rfl) (aW (av (i:=7) sc.nd (by rfl) (k_ rfl) (by rfl)) (aW (av (i:=8) sc.nd (by rfl) (k_ rfl) (by rfl)) cN))) (ak (fH (gB (FO (oJ (bA (qg hr) (ab 7) (ab 3) (by with_unfolding_all rfl)) (oP (gq (aL (jq rfl) (by rfl) TX.all (by decide +kernel) (ae (bH sc ["_law_need","_law_order"] [none,some 3] nd1 (by decide +kernel) (bL (aK hr (ab 8) ge_int)) (fun _ _ _=>(av (i:=0) nd1 (by rfl) (k_ rfl) (by rfl) (hf:=(l_ rfl)))) (fun _ _ _=>bG) (fun _ _ _=>(dC (tP hr) (ab 0) (ab 1) (by with_unfolding_all rfl)))) ag))))))) (af (az (i:=9) sc.nd (by rfl) (k_ rfl) (by rfl) (aA G_takes_left hr (by rfl) (ai (b9 0) (bI 1 (ai (aN (aA G_gone_on hr (by rfl) (ai (ab 0) (ai (aK hr (ab 8) ge_int) (ai (aT bM (ab 3) (bp (ae (ab 7) ag))) aB))))) aB))))) (ak (az (i:=6) sc.nd (by rfl) (k_ rfl) (by rfl) (aN (aT bM (ab 6) (aT kZ (bp (ae (ab 7) ag)) (cB fq (by rfl) TX.int (by decide +kernel) (ae (dC Dn (aT bM (ab 9) (cB fq (by rfl) TX.int (by decide +kernel) (ae (dC (fZ hr) (aK hr (ab 8) ge_int) (ab 4) (aO _)) ag))) (ab 5) (aO _)) ag)))))))) cf))) (af (az (i:=7) sc.nd (by rfl) (k_ rfl) (by rfl) (aN (aL (nM rfl) (by rfl) TX.min (by decide +kernel) (ae (ab 6) ag)))) (af (az (i:=5) sc.nd (by rfl) (k_ rfl) (by rfl) (aN (aT pg (ab 5) (cB fq (by rfl) TX.int (by decide +kernel) (ae (dC (fZ hr) (aK hr (aK hr (ab 0) (ab 7)) ge_int) (ab 4) (aO _)) ag))))) (af (az (i:=4) sc.nd (by rfl) (k_ rfl) (by rfl) (aN (aK hr (aK hr (ab 0) (ab 7)) ge_int))) (ak (i9 (iK 3 O' Pa dD (ae (b9 7) ag)))))))))) (ak (b6 (nF 3)))))),fun ts kk hl hp=>?_⟩
 clear hl
 obtain⟨o,J,E,rfl,hl,h0,hj,nr,eE,q⟩:=hp
 have hR:(ah J).length=J.length:=cJ
 have V:=fP (ah J)
 walk_at "go"
 refine f9 (fun m env=>∃(os:List Nat) (t:Option Int) (E':List (List Nat)) (o':Bool) (z6 z7 z8 z9:T),m=J.length - os.length/\Ch (ah J) 0 os/\TS (ah J) t/\EOk J.length E'/\(∀ o2,oS (ah J) (Lv (ah J)) (sM os) t o2->oS (ah J) (Lv (ah J)) 0 none (os++o2))/\env=[.lst o' (J.map jbT),.dT true (kdT (ah J) E'),.int (Lv (ah J) 0 none),.lst true (os.map nT),tT t,.int (Lv (ah J) (sM os) t),z6,z7,z8,z9]) _ ⟨[],none,E,o,_,_,_,_,rfl,trivial,.inl rfl,eE,fun o2 h=>h,rfl⟩ ?_
 rintro m _ ⟨os,t,E',o',z6,z7,z8,z9,rfl,ch,ht,eE',hb,rfl⟩
 obtain⟨nd,lt'⟩:=su os 0 ch
 have lt:∀ i∈os,i < J.length:=fun i m=>by have:=(lt' i m).1;omega
 have ol:=yQ ch
 have hd:sM os < 2 ^ (ah J).length:=o8 fun i m=>(lt' i m).1
 walk_at "go"
 refine bj (fun h=>?_) (fun h=>?_)
 ·have nw:sM os≠2 ^ (ah J).length - 1:=fun z=>by
   have:=(jH nd lt).mpr (by rw[<-hR];exact z)
   omega
  walk_at "go"
  refine cv (fun i env=>∃(E':List (List Nat)) (z7 z8 z9:T),EOk J.length E'/\env=[.lst false (J.map jbT),.dT true (kdT (ah J) E'),.int (Lv (ah J) 0 none),.lst true (os.map nT),tT t,.int (Lv (ah J) (sM os) t),.lst true (((o_ i).filter (pF (ah J) (sM os) t)).map nT),z7,z8,z9]) ⟨E',_,_,_,eE',rfl⟩ ?_ ?_
  ·clear eE' E'
   rintro i u _ ⟨E',z7,z8,z9,eE',rfl⟩ ei
   obtain⟨j,ej,rfl⟩:=fA ei
   have hi:i < J.length:=(c_.mp ej).1
   have rd:=kO (os:=os) ej
   have tj:tl (ah J) i=j.tool:=(qy ej).2.1
   obtain⟨⟨ja,jb,_⟩,jn,jl⟩:=hj j (y_ ej)
   have no:(¬ i∈rdy (ah J) (sM os))->pF (ah J) (sM os) t i=false:=fun g=>by
    unfold pF
    rw[show rdB (ah J) (sM os) i=false from JD.mpr fun z=>g (oG.mp z)]
    rfl
   rw[zK]
   walk_at "go"
   refine bj (fun g=>?_) (fun g=>?_)
   ·walk_at "go"
    exact⟨E',_,_,_,eE',by rw[no fun z=>(rd.mp z).1 g];rw[if_neg (by decide),H_]⟩
   walk_at "go"
   refine aU (by rw[b_,NQ];omega) (fun a acc ie=>∃ z1,acc=(j.needs.take a).map (fun n=>T.bl (decide (n∈os)))/\ie=[z1,.lst false (os.map nT)]) ⟨_,rfl,rfl⟩ ?_ ?_
   ·rintro a u _ _ ⟨z1,rfl,rfl⟩ ea
    obtain⟨b,eb,rfl⟩:=bO ea
    walk_at "go"
    exact⟨_,by rw[map_take eb],rfl⟩
   rintro _ _ ⟨z1,rfl,rfl⟩
   rw[b_,Jm]
   walk_at "go"
   rw[t7]
   refine mJ (fun g2=>?_) (fun g2=>?_)
   ·have hr:i∈rdy (ah J) (sM os):=rd.mpr ⟨g,fun n m=>of_decide_eq_true (JB.mp g2 n m)⟩
    have nd2:(os++[i]).Nodup:=JE.mpr ⟨nd,J2 _ _,fun a ma b mb z=>g (by rw[<-w_.mp mb,<-z];exact ma)⟩
    have lt2:∀ a∈os++[i],a < J.length:=fun a ma=>(F'.mp ma).elim (lt a) fun z=>by rw[w_.mp z];exact hi
    walk_at "go"
    refine⟨by omega,_,J,j.tool,os++[i],_,rfl,fun k=>by rw[show(os.map fun x=>nT x)++[T.int (i:Int)]=(os++[i]).map nT by rw[z_];rfl,show er (T.lst true ((os++[i]).map nT))=.lst false ((os++[i]).map nT) by simp only[er,fS]];rfl,rfl,hl,hj,nd2,lt2,fun r z1 g1 g3 g4 g5=>?_⟩
    walk_at "go"
    refine⟨_,J,E',r,rfl,by decide,hl,h0,hj,nr,by show J.length<=r.length + 11;omega,g1,g3,eE',fun E2 z1 eE2=>?_⟩
    have d2:sM (os++[i]) < 2 ^ (ah J).length:=o8 fun a ma=>by rw[hR];exact lt2 a ma
    have lv:=(CP nr d2 g5).1
    rw[<-lv,mC]
    walk_at "go"
    rw[yC]
    have pe:pF (ah J) (sM os) t i=decide (Lv (ah J) (sM os ||| 2 ^ i) (some j.tool) + cst t j.tool<=Lv (ah J) (sM os) t):=by
     unfold pF
     rw[oG.mpr hr,tj];rfl
    have fl:=Ky (pF (ah J) (sM os) t) (o_ i)
    rw[u_]at fl
    rw[pe]
    by_cases w:Lv (ah J) (sM os ||| 2 ^ i) (some j.tool) + cst t j.tool<=Lv (ah J) (sM os) t
    ·rw[if_pos w,decide_eq_true w,if_pos rfl]
     exact⟨⟨by decide,by decide⟩,by show _ + 1<=_;omega,rfl,E2,_,_,_,eE2,rfl⟩
    rw[if_neg w,decide_eq_false w,if_neg (by decide)]
    exact⟨⟨by decide,by decide⟩,by show _ + 0<=_;omega,rfl,E2,_,_,_,eE2,rfl⟩
   walk_at "go"
   rw[no fun z=>?_,if_neg (by decide),H_]
   ·exact⟨E',_,_,_,eE',rfl⟩
   have:j.needs.all (fun x=>decide (x∈os))=true:=JB.mpr fun n m=>decide_eq_true ((rd.mp z).2 n m)
   rw[this]at g2
   cases g2
  clear eE' E'
  rintro _ ⟨E',z7,z8,z9,eE',rfl⟩
  rw[cE,<-hR]
  obtain⟨p1,p2⟩:=F6 nr hd nw ht
  walk_at "go"
  refine aD qx ?_
  walk_at "go"
  refine⟨fun z=>p1 (Lu.mp z),fun mm hm=>?_⟩
  obtain⟨k,mk,rfl⟩:=B'.mp hm.1
  obtain⟨k1,k2,k3⟩:=p2 k mk fun x mx=>by have:=hm.2 _ (B'.mpr ⟨x,mx,rfl⟩);omega
  have kl:=aR k1
  rw[hR]at kl
  have ek:J[k]?=some J[k]:=a_ kl
  have tk:=(qy ek).2.1
  refine aD (dA ek) ?_
  walk_at "go"
  refine aD (dA ek) ?_
  walk_at "go"
  rw[yC]
  have lv2:Lv (ah J) (sM os) t - cst t J[k].tool=Lv (ah J) (sM (os++[k])) (some J[k].tool):=by
   rw[mC,<-tk]
   omega
  rw[lv2]
  refine⟨by omega,_,?_,os++[k],some J[k].tool,E',false,_,_,_,_,rfl,qa os 0 ch k1,.inr ⟨k,by rw[hR];exact kl,by rw[tk]⟩,by rw[hR];exact eE',fun o2 B=>?_,by rw[z_];rfl⟩
  ·rw[j',JO];omega
  rw[j_]
  rw[mC,<-tk]at B
  exact hb _ (jo V hd ht k1 k2 k3 B)
 have ew:=(jH nd lt).mp (by omega)
 walk_at "go"
 have B:=hb [] (by rw[ew,<-hR];exact kY V ht)
 rw[H_]at B
 exact q os E' _ _ eE' (mK V B)
end
noncomputable def vV:FP:=fun ts k=>∃(c:Cells) (n:Nat),ts=[stT c n]/\n < 2 ^ 29/\∀(c':Cells) (n':Nat) (t:T) (J:List Jb),er t=.lst false (J.map jbT)->isAny t=false->J.length<=10->0 < J.length->JOk J->b8 (ah J)->k t [stT c' n']
section
variable{P:Nv}{w:NA}{K:Ng}{mg:Str->Option Nf}{base:NB}
theorem qL:FnScope ["_law_state","_law_many","_law_jobs_here","_law_way"] ["_law_state"] (aj pS):=⟨rfl,rfl,rfl,by decide +kernel,rfl,by decide +kernel,by decide +kernel⟩
set_option maxHeartbeats 4000000 in
theorem Ah{f:Nh}{fd:NK}(F:Fun K "_law_drawn" "_law_drawn" pS f fd)(TX:Txt mg)  (G_take:Cal P w K mg base 1 "_law_take" ["_law_state","_law_many"] (aG K 2 oV))(G_jobs:Cal P w K mg base 2 "_law_jobs" ["_law_state","_law_many","_law_tools"] (aG K 3 zk)):FnOk P w K mg base CX0 3 f fd ["_law_state"] (aG K 1 vV):=by
 refine bT F qL [true] rfl (fun cdv A outer s H E hr=>?_)
 have sc:=@qL
 have nd1:(["_law_tool","_law_needs"]:List Str).Nodup:=by decide +kernel
 have nd2:(["_law_k","_law_tool","_law_needs"]:List Str).Nodup:=by decide +kernel
 refine⟨_,(af (az (i:=1) sc.nd (by rfl) (k_ rfl) (by rfl) (aT bM ge_int (aA G_take hr (by rfl) (bI 0 (ai ge_int aB))))) (af (az (i:=2) sc.nd (by rfl) (k_ rfl) (by rfl) (aA G_jobs hr (by rfl) (bI 0 (ai (b9 1) (ai (aT bM ge_int (aA G_take hr (by rfl) (bI 0 (ai ge_int aB)))) aB))))) (af (az (i:=3) sc.nd (by rfl) (k_ rfl) (by rfl) (aA G_take hr (by rfl) (bI 0 (ai ge_int aB)))) (af (fH (gB (bA (eZ hr) (ab 3) ge_int (aO _))) (ak (b6 (aN (bH sc ["_law_tool","_law_needs"] [none,none] nd1 (by decide +kernel) (bL (ab 2)) (fun _ _ _=>(eQ (n:=2) (by rfl) (aW (av (i:=0) nd1 (by rfl) (k_ rfl) (by rfl) (hf:=(l_ rfl))) (aW (av (i:=1) nd1 (by rfl) (k_ rfl) (by rfl) (hf:=(l_ rfl))) cN)))) (fun _ _ _=>bG) (fun _ _ _=>(cn (ae (ab 0) (ae (bp ag) ag)))))))) cf) (af (fH (gB (bA (eZ hr) (ab 3) ge_int (aO _))) (ak (b6 (aN (bH sc ["_law_k","_law_tool","_law_needs"] [none,none,none] nd2 (by decide +kernel) (fx (by rfl) TX.enumerate (ae (ab 2) ag)) (fun _ _ _=>(eQ (n:=2) (by rfl) (aW (av (i:=0) nd2 (by rfl) (k_ rfl) (by rfl) (hf:=(l_ rfl))) (aW (eQ (n:=2) (by rfl) (aW (av (i:=1) nd2 (by rfl) (k_ rfl) (by rfl) (hf:=(l_ rfl))) (aW (av (i:=2) nd2 (by rfl) (k_ rfl) (by rfl) (hf:=(l_ rfl))) cN))) cN)))) (fun _ _ _=>bG) (fun _ _ _=>(cn (ae (ab 1) (ae (aT kZ (bp (ae (aT pg (ab 0) ge_int) ag)) (cB fq (by rfl) TX.int (by decide +kernel) (ae (dC zP (ab 0) ge_int (aO _)) ag))) ag)))))))) cf) (ak (b6 (nF 2)))))))),fun ts kk hl hp=>?_⟩
 clear hl
 obtain⟨c,n,rfl,hn,q⟩:=hp
 walk_at "go"
 walk_at "take"
 intro r c1 a1 b1
 walk_at "go"
 walk_at "take"
 intro r2 c2 a2 b2
 walk_at "go"
 refine⟨c2,_,(7 + r).toNat,(2 + r2).toNat,by rw[KS (by omega),KS (by omega)],by omega,by omega,by omega,by omega,fun c3 n3 J z1 z2 h1 h2 h3 h4=>?_⟩
 walk_at "go"
 walk_at "take"
 intro r3 c4 a3 b3
 walk_at "go"
 refine bj (fun g=>?_) (fun g=>?_)
 ·walk_at "go"
  refine aU (by rw[b_,NQ];omega) (fun i acc ie=>∃ z1 z2,acc=((J.take i).map eJ0).map joT/\ie=[z1,z2]) ⟨_,_,rfl,rfl⟩ ?_ ?_
  ·rintro i u _ _ ⟨z1,z2,rfl,rfl⟩ ei
   obtain⟨j,ej,rfl⟩:=bO ei
   obtain⟨⟨ja,jb,_⟩,jn,jl⟩:=h3 j (y_ ej)
   rw[zF ja]
   walk_at "go"
   exact⟨_,_,by rw[map_take ej,z_];rfl,rfl⟩
  rintro _ _ ⟨z1,z2,rfl,rfl⟩
  rw[b_,Jm]
  walk_at "go"
  refine⟨JB.mpr fun _ _=>qA,q _ _ _ (J.map eJ0) (by have:=xv (o:=true) (J:=J.map eJ0);rw[Gf]at this;exact this) rfl (by rw[b_];omega) (by rw[b_];omega) (CU h3) (Cc h3)⟩
 walk_at "go"
 refine bj (fun g2=>?_) (fun g2=>?_)
 ·walk_at "go"
  refine aU (by rw[cE,NQ];omega) (fun i acc ie=>∃ z1 z2 z3,acc=((gy J).take i).map joT/\ie=[z1,z2,z3]) ⟨_,_,_,rfl,rfl⟩ ?_ ?_
  ·rintro i u _ _ ⟨z1,z2,z3,rfl,rfl⟩ ei
   obtain⟨j,ej,rfl⟩:=fA ei
   have hi:i < J.length:=(c_.mp ej).1
   have er:(gy J)[i]?=some (eJ1 (i,j)):=by
    have h5:(gy J)[i]?=some ((gy J)[i]'(by rw[dU];exact hi)):=a_ _
    obtain⟨k,ek,e⟩:=oF h5
    rw[ej]at ek
    cases ek
    rw[h5,e]
   obtain⟨⟨ja,jb,_⟩,jn,jl⟩:=h3 j (y_ ej)
   rw[zF ja]
   walk_at "go"
   rw[map_take er]
   by_cases z:0 < i
   ·rw[if_pos (by omega:(0:Int) < (i:Int))]
    refine⟨⟨by decide,by decide⟩,_,_,_,?_,rfl⟩
    congr 2
    show T.tup [T.int j.tool,T.lst true [T.int ((i:Int) - 1)]]=T.tup [T.int j.tool,T.lst true ((if 0 < i then [i - 1]else []).map nT)]
    rw[if_pos z]
    show _=T.tup [T.int j.tool,T.lst true [T.int ((i - 1:Nat):Int)]]
    rw[show((i - 1:Nat):Int)=(i:Int) - 1 by omega]
   rw[if_neg (by omega:¬(0:Int) < (i:Int))]
   refine⟨⟨by decide,by decide⟩,_,_,_,?_,rfl⟩
   congr 2
   show T.tup [T.int j.tool,T.lst true []]=T.tup [T.int j.tool,T.lst true ((if 0 < i then [i - 1]else []).map nT)]
   rw[if_neg z]
   rfl
  rintro _ _ ⟨z1,z2,z3,rfl,rfl⟩
  rw[cE,<-dU,Jm]
  walk_at "go"
  refine⟨JB.mpr fun _ _=>qA,q _ _ _ (gy J) (by have:=xv (o:=true) (J:=gy J);rw[DU]at this;exact this) rfl (by rw[dU];omega) (by rw[dU];omega) (yy h3) (ya h3)⟩
 walk_at "go"
 exact q _ _ _ J (by show er (T.lst true (J.map jbT))=_;exact eK (c:=false) (o:=true)) rfl (by omega) (by omega) h3 h4
end
section
variable{P:Nv}{w:NA}{K:Ng}{mg:Str->Option Nf}{base:NB}
theorem yw:FnScope ["_law_script","_law_state","_law_jobs_here","_law_known","_law_least","_law_found"] ["_law_script"] (aj eX):=⟨rfl,rfl,rfl,by decide +kernel,rfl,by decide +kernel,by decide +kernel⟩
set_option maxHeartbeats 4000000 in
theorem EK{f:Nh}{fd:NK}(F:Fun K "law" "law" eX f fd)(TX:Txt mg)  (G_least_takes:Cal P w K mg base 4 "least_takes" ["jobs"] (aG K 1 fL))(G_begin:Cal P w K mg base 1 "_law_begin" ["_law_script"] (aG K 1 (pW K)))(G_same:Cal P w K mg base 4 "_law_same" ["_law_found","_law_due"] (aG K 2 (pL 4)))(G_takes_left:Cal P w K mg base 14 "_law_takes_left" ["_law_jobs_here","_law_known","_law_done"] (aG K 3 (bB 12)))(G_takes_in:Cal P w K mg base 1 "_law_takes_in" ["_law_jobs_here","_law_order"] (aG K 2 kX))(G_is_order:Cal P w K mg base 1 "_law_is_order" ["_law_jobs_here","_law_order"] (aG K 2 mq))(G_first_order:Cal P w K mg base 15 "_law_first_order" ["_law_jobs_here","_law_known","_law_least"] (aG K 3 fN))(G_drawn:Cal P w K mg base 3 "_law_drawn" ["_law_state"] (aG K 1 vV)):FnOk P w K mg base CX0 16 f fd ["_law_script"] (aG K 1 (xN K)):=by
 refine bT F yw [true] rfl (fun cdv A outer s H E hr=>?_)
 have sc:=@yw
 refine⟨_,(fu (az (i:=1) sc.nd (by rfl) (k_ rfl) (by rfl) (aN (aA G_begin hr (by rfl) (ai (ab 0) aB)))) (fu (az (i:=2) sc.nd (by rfl) (k_ rfl) (by rfl) (aA G_drawn hr (by rfl) (bI 1 aB))) (fu (az (i:=3) sc.nd (by rfl) (k_ rfl) (by rfl) (aN zt)) (fu (az (i:=4) sc.nd (by rfl) (k_ rfl) (by rfl) (aA G_takes_left hr (by rfl) (ai (b9 2) (bI 3 (ai (aN (cn ag)) aB))))) (fu (az (i:=5) sc.nd (by rfl) (k_ rfl) (by rfl) (aN (aA G_least_takes hr (by rfl) (ai (ab 2) aB)))) (af (fH (sQ (gq (aA G_same hr (by rfl) (ai (b9 5) (ai (cn (ae (b9 4) (ae (aA G_first_order hr (by rfl) (ai (b9 2) (bI 3 (ai (b9 4) aB)))) ag))) aB))))) (ak (b6 vo)) cf) (ak (b6 (aN (Fv (aA G_is_order hr (by rfl) (ai (ab 2) (ai (aK hr (ab 5) ge_int) aB))) (Dz (dC (eZ hr) (aA G_takes_in hr (by rfl) (ai (ab 2) (ai (aK hr (ab 5) ge_int) aB))) (ab 4) (aO _))))))))))))),fun ts kk hl hp=>?_⟩
 clear hl
 obtain⟨t,ns,rfl,hs,hn,q⟩:=hp
 refine jc (fun env=>∃ z c,env=[z,stT c 0,.any,.any,.any,.any]) ?_ ?_
 ·walk_at "go"
  obtain⟨e,i⟩:=Dm hs
  rw[e]
  exact⟨i,t,ns,rfl,hs,hn,fun c=>⟨dq,_,c,rfl⟩⟩
 rintro _ ⟨z,c,rfl⟩
 refine jc (fun env=>∃(c:Cells) (n:Nat) (t:T) (J:List Jb),er t=.lst false (J.map jbT)/\isAny t=false/\J.length<=10/\0 < J.length/\JOk J/\b8 (ah J)/\env=[z,stT c n,t,.any,.any,.any]) ?_ ?_
 ·walk_at "go"
  refine⟨c,0,rfl,by decide,fun c1 n1 t J h1 h2 h3 h4 h5 h6=>?_⟩
  walk_at "go"
  exact⟨c1,n1,t,J,h1,h2,h3,h4,h5,h6,rfl⟩
 clear c
 rintro _ ⟨c,n,t2,J,et,ia,hl,h0,hj,nr,rfl⟩
 refine jc (fun env=>env=[z,stT c n,t2,.dT true (kdT (ah J) []),.any,.any]) ?_ ?_
 ·walk_at "go"
  rfl
 rintro _ rfl
 refine jc (fun env=>∃ E,EOk J.length E/\env=[z,stT c n,.lst false (J.map jbT),.dT true (kdT (ah J) E),.int (Lv (ah J) 0 none),.any]) ?_ ?_
 ·walk_at "go"
  rw[et]
  refine⟨ia,false,J,[],[],rfl,by decide,hl,h0,hj,nr,by show J.length<=0 + 11;omega,.nil,(fun i m=>by cases m),⟨Kd,(fun e m=>by cases m)⟩,fun E' z1 eE=>?_⟩
  walk_at "go"
  exact⟨E',eE,rfl⟩
 rintro _ ⟨E,eE,rfl⟩
 refine jc (fun env=>∃ os,j5 (ah J) (Lv (ah J) 0 none) os/\env=[z,stT c n,.lst false (J.map jbT),.dT true (kdT (ah J) E),.int (Lv (ah J) 0 none),.tup [.int (Lv (ah J) 0 none),.lst true (os.map nT)]]) ?_ ?_
 ·walk_at "go"
  refine EA hl (Di hj (by omega)) nr (fun L os z h=>?_)
  obtain⟨o1,B⟩:=pT nr _ 0 none (d_ _) (JH _) (.inl rfl)
  obtain⟨rfl,rfl⟩:=mG h (mK (fP (ah J)) B)
  walk_at "go"
  exact⟨_,h,rfl⟩
 rintro _ ⟨os,hf,rfl⟩
 have ol:=yQ hf.1.1
 rw[cJ]at ol
 walk_at "go"
 refine⟨false,J,E,rfl,hl,h0,hj,nr,eE,fun os2 E2 z1 z3 eE2 h2=>?_⟩
 obtain⟨_,rfl⟩:=mG h2 hf
 walk_at "go"
 refine C1 (n:=2) (yJ (by omega)) (by decide) (yJ (by omega)).1 ?_ ?_
 ·simp only[dt,dtL]
 walk_at "go"
 refine⟨_,_,J,_,os2,rfl,hl,hj,hf,fun z1 z2=>?_⟩
 walk_at "go"
 refine⟨_,_,J,os2,rfl,fun i m=>by have:=(pO hf.1 i).mp m;rwa[cJ]at this,by omega,fun z1 z2=>?_⟩
 walk_at "go"
 rw[hf.2.1,decide_eq_true rfl]
 exact q _
end
theorem ar0{α:Type}{P:List α->Prop}(h:P []):∀ us:List α,us.length=0->P us:=fun us e=>by
 cases us with
 | nil=>exact h
 | cons a r=>cases e
theorem ar1{α:Type}{P:List α->Prop}(h:∀ a0,P [a0]):∀ us:List α,us.length=1->P us:=fun us e=>by
 cases us with
 | nil=>cases e
 | cons a0 r=>exact ar0 (P:=fun r=>P (a0::r)) (h a0) r (J6 e)
theorem ar2{α:Type}{P:List α->Prop}(h:∀ a0 a1,P [a0,a1]):∀ us:List α,us.length=2->P us:=fun us e=>by
 cases us with
 | nil=>cases e
 | cons a0 r=>exact ar1 (P:=fun r=>P (a0::r)) (h a0) r (J6 e)
theorem ar3{α:Type}{P:List α->Prop}(h:∀ a0 a1 a2,P [a0,a1,a2]):∀ us:List α,us.length=3->P us:=fun us e=>by
 cases us with
 | nil=>cases e
 | cons a0 r=>exact ar2 (P:=fun r=>P (a0::r)) (h a0) r (J6 e)
theorem ar4{α:Type}{P:List α->Prop}(h:∀ a0 a1 a2 a3,P [a0,a1,a2,a3]):∀ us:List α,us.length=4->P us:=fun us e=>by
 cases us with
 | nil=>cases e
 | cons a0 r=>exact ar3 (P:=fun r=>P (a0::r)) (h a0) r (J6 e)
theorem ar5{α:Type}{P:List α->Prop}(h:∀ a0 a1 a2 a3 a4,P [a0,a1,a2,a3,a4]):∀ us:List α,us.length=5->P us:=fun us e=>by
 cases us with
 | nil=>cases e
 | cons a0 r=>exact ar4 (P:=fun r=>P (a0::r)) (h a0) r (J6 e)
theorem walk{l:Rm}{q:Nv}{loose:List Str}{XP:(Str->Option Nf)->NB->Prop}{YP:NA->NB->Prop}{d:DefRec}{K:Q5->Ng}(hn:l.most=some 63)(hdf:d.params.defaults=[])
  (hY:∀(w:NA) (h:NB),YP w h->(K w.params).In h)
  (F:∀(w:NA) (mg:Str->Option Nf) (fa:Nh) (h:NB),(K w.params).In h->h.Ns Oh mg->mg d.name=some (.ref fa)->
   ∃ fd:NK,(∀(s:Ni) (u:Nf),RF s fd ⟨[u],[]⟩ [("_law_script",u)])/\∀ base:NB,(K w.params).In base->base.Ns Oh mg->FnOk l.prog w (K w.params) mg base CX0 16 fa fd ["_law_script"] (uA (K w.params))) :
  Ur q loose XP YP l.row.toRowW d [] (fun f vs=>Tw f vs):=
 L2.AJ (n:=63) (k:=16) (x:="_law_script") (CX:=fun _=>CX0) (sp:=fun w=>uA (K w.params)) hn (by decide) hdf ⟨rfl,by decide,by decide,rfl⟩ hY F (fun _ _ a ns hl _ hS=>⟨a,ns,rfl,hS,hl,fun _=>rfl⟩) fun _ _ _ _ _ z=>z
noncomputable def kd(P:Q5) (x:Str) (t:Tok) (v:Nf):Ph:=⟨PyData.keyHash P x,.str x t,v⟩
noncomputable def kf(n:Str) (s:NZ) (m:Nf) (c:Nh):Obj:=⟨.type "function",none,.func (OU n n (cK s) (bZ s) (aj s) .none .none .none m none (.ref c) .none),#[]⟩
noncomputable def KK(P:Q5):Ng:=[(3,⟨.type "dict",none,.dict #[kd P "__name__" 165 (.str "law_millpath_k59_many_jobs" 302),kd P "__doc__" 166 (.none),kd P "__package__" 167 (.none),kd P "__loader__" 168 (.builtin "__main__.__loader__#opaque"),kd P "__spec__" 169 (.none),kd P "__annotations__" 170 (.ref 6),kd P "__builtins__" 171 (.ref 4),kd P "__file__" 173 (.str "/claim/cut.py" 172),kd P "__cached__" 174 (.none),kd P "MillError" 206 (.ref 24),kd P "Round" 222 (.ref 37),kd P "rows_of" 230 (.ref 44),kd P "set_of" 239 (.ref 51),kd P "whole_of" 246 (.ref 58),kd P "is_part" 254 (.ref 65),kd P "ready" 260 (.ref 70),kd P "tools_in" 266 (.ref 75),kd P "least_takes" 274 (.ref 80),kd P "refuse_rings" 283 (.ref 87),kd P "takes_from_all" 289 (.ref 92),kd P "takes_by" 301 (.ref 99),kd P "_law_begin" 311 (.ref 106),kd P "_law_take" 324 (.ref 113),kd P "_law_same" 330 (.ref 118),kd P "_law_jobs" 336 (.ref 123),kd P "_law_gone_on" 342 (.ref 128),kd P "_law_takes_left" 348 (.ref 133),kd P "_law_takes_in" 354 (.ref 138),kd P "_law_is_order" 360 (.ref 143),kd P "_law_first_order" 366 (.ref 148),kd P "_law_drawn" 372 (.ref 153),kd P "law" 384 (.ref 160)] 32,#[]⟩),(44,kf "rows_of" js (.str "millpath.jobsets" 223) 43),(43,⟨.type "code",none,.fields #[.str "rows_of" 225,.str "rows_of" 226,.str "/claim/cut.py" 227,.int (7) 0,.int (1) 0,.int (0) 0,.int (0) 0,.int (3) 0,.ref 40,.bool true,.int (181) 0,.ref 41,.none,.none,.none,.ref 42,.int (228) 0,.int (7) 0,.str "/claim/cut.py" 229],#[]⟩),(51,kf "set_of" lU (.str "millpath.jobsets" 223) 50),(50,⟨.type "code",none,.fields #[.str "set_of" 231,.str "set_of" 232,.str "/claim/cut.py" 233,.int (9) 0,.int (1) 0,.int (0) 0,.int (0) 0,.int (3) 0,.ref 45,.bool true,.int (181) 0,.ref 46,.none,.ref 47,.ref 48,.ref 49,.int (237) 0,.int (9) 0,.str "/claim/cut.py" 238],#[]⟩),(58,kf "whole_of" gv (.str "millpath.jobsets" 223) 57),(57,⟨.type "code",none,.fields #[.str "whole_of" 240,.str "whole_of" 241,.str "/claim/cut.py" 242,.int (14) 0,.int (1) 0,.int (0) 0,.int (0) 0,.int (3) 0,.ref 52,.bool true,.int (181) 0,.ref 53,.none,.ref 54,.ref 55,.ref 56,.int (244) 0,.int (14) 0,.str "/claim/cut.py" 245],#[]⟩),(65,kf "is_part" ji (.str "millpath.jobsets" 223) 64),(64,⟨.type "code",none,.fields #[.str "is_part" 247,.str "is_part" 248,.str "/claim/cut.py" 249,.int (16) 0,.int (2) 0,.int (0) 0,.int (0) 0,.int (3) 0,.ref 59,.bool true,.int (181) 0,.ref 60,.none,.ref 61,.ref 62,.ref 63,.int (252) 0,.int (16) 0,.str "/claim/cut.py" 253],#[]⟩),(70,kf "ready" pV (.str "millpath.jobsets" 223) 69),(69,⟨.type "code",none,.fields #[.str "ready" 255,.str "ready" 256,.str "/claim/cut.py" 257,.int (18) 0,.int (2) 0,.int (0) 0,.int (0) 0,.int (3) 0,.ref 66,.bool true,.int (181) 0,.ref 67,.none,.none,.none,.ref 68,.int (258) 0,.int (18) 0,.str "/claim/cut.py" 259],#[]⟩),(75,kf "tools_in" gp (.str "millpath.jobsets" 223) 74),(74,⟨.type "code",none,.fields #[.str "tools_in" 261,.str "tools_in" 262,.str "/claim/cut.py" 263,.int (20) 0,.int (1) 0,.int (0) 0,.int (0) 0,.int (3) 0,.ref 71,.bool true,.int (181) 0,.ref 72,.none,.none,.none,.ref 73,.int (264) 0,.int (20) 0,.str "/claim/cut.py" 265],#[]⟩),(80,kf "least_takes" cW (.str "millpath.jobs" 267) 79),(79,⟨.type "code",none,.fields #[.str "least_takes" 269,.str "least_takes" 270,.str "/claim/cut.py" 271,.int (23) 0,.int (1) 0,.int (0) 0,.int (0) 0,.int (3) 0,.ref 76,.bool true,.int (181) 0,.ref 77,.none,.none,.none,.ref 78,.int (272) 0,.int (23) 0,.str "/claim/cut.py" 273],#[]⟩),(87,kf "refuse_rings" cD (.str "millpath.jobs" 267) 86),(86,⟨.type "code",none,.fields #[.str "refuse_rings" 275,.str "refuse_rings" 276,.str "/claim/cut.py" 277,.int (37) 0,.int (1) 0,.int (0) 0,.int (0) 0,.int (3) 0,.ref 81,.bool true,.int (181) 0,.ref 82,.none,.ref 83,.ref 84,.ref 85,.int (281) 0,.int (37) 0,.str "/claim/cut.py" 282],#[]⟩),(92,kf "takes_from_all" bY (.str "millpath.jobs" 267) 91),(91,⟨.type "code",none,.fields #[.str "takes_from_all" 284,.str "takes_from_all" 285,.str "/claim/cut.py" 286,.int (45) 0,.int (1) 0,.int (0) 0,.int (0) 0,.int (3) 0,.ref 88,.bool true,.int (181) 0,.ref 89,.none,.none,.none,.ref 90,.int (287) 0,.int (45) 0,.str "/claim/cut.py" 288],#[]⟩),(99,kf "takes_by" gh (.str "millpath.jobs" 267) 98),(98,⟨.type "code",none,.fields #[.str "takes_by" 290,.str "takes_by" 291,.str "/claim/cut.py" 292,.int (53) 0,.int (5) 0,.int (0) 0,.int (0) 0,.int (3) 0,.ref 93,.bool true,.int (181) 0,.ref 94,.none,.ref 95,.ref 96,.ref 97,.int (299) 0,.int (53) 0,.str "/claim/cut.py" 300],#[]⟩),(106,kf "_law_begin" kM (.str "law_millpath_k59_many_jobs" 302) 105),(105,⟨.type "code",none,.fields #[.str "_law_begin" 304,.str "_law_begin" 305,.str "/claim/cut.py" 306,.int (57) 0,.int (1) 0,.int (0) 0,.int (0) 0,.int (3) 0,.ref 100,.bool true,.int (181) 0,.ref 101,.none,.ref 102,.ref 103,.ref 104,.int (309) 0,.int (57) 0,.str "/claim/cut.py" 310],#[]⟩),(113,kf "_law_take" qf (.str "law_millpath_k59_many_jobs" 302) 112),(112,⟨.type "code",none,.fields #[.str "_law_take" 312,.str "_law_take" 313,.str "/claim/cut.py" 314,.int (62) 0,.int (2) 0,.int (0) 0,.int (0) 0,.int (3) 0,.ref 107,.bool true,.int (181) 0,.ref 108,.none,.ref 109,.ref 110,.ref 111,.int (322) 0,.int (62) 0,.str "/claim/cut.py" 323],#[]⟩),(118,kf "_law_same" s_same (.str "law_millpath_k59_many_jobs" 302) 117),(117,⟨.type "code",none,.fields #[.str "_law_same" 325,.str "_law_same" 326,.str "/claim/cut.py" 327,.int (73) 0,.int (2) 0,.int (0) 0,.int (0) 0,.int (3) 0,.ref 114,.bool true,.int (181) 0,.ref 115,.none,.none,.none,.ref 116,.int (328) 0,.int (73) 0,.str "/claim/cut.py" 329],#[]⟩),(123,kf "_law_jobs" t6 (.str "law_millpath_k59_many_jobs" 302) 122),(122,⟨.type "code",none,.fields #[.str "_law_jobs" 331,.str "_law_jobs" 332,.str "/claim/cut.py" 333,.int (89) 0,.int (3) 0,.int (0) 0,.int (0) 0,.int (3) 0,.ref 119,.bool true,.int (181) 0,.ref 120,.none,.none,.none,.ref 121,.int (334) 0,.int (89) 0,.str "/claim/cut.py" 335],#[]⟩),(128,kf "_law_gone_on" j9 (.str "law_millpath_k59_many_jobs" 302) 127),(127,⟨.type "code",none,.fields #[.str "_law_gone_on" 337,.str "_law_gone_on" 338,.str "/claim/cut.py" 339,.int (101) 0,.int (3) 0,.int (0) 0,.int (0) 0,.int (3) 0,.ref 124,.bool true,.int (181) 0,.ref 125,.none,.none,.none,.ref 126,.int (340) 0,.int (101) 0,.str "/claim/cut.py" 341],#[]⟩),(133,kf "_law_takes_left" cq (.str "law_millpath_k59_many_jobs" 302) 132),(132,⟨.type "code",none,.fields #[.str "_law_takes_left" 343,.str "_law_takes_left" 344,.str "/claim/cut.py" 345,.int (110) 0,.int (3) 0,.int (0) 0,.int (0) 0,.int (3) 0,.ref 129,.bool true,.int (181) 0,.ref 130,.none,.none,.none,.ref 131,.int (346) 0,.int (110) 0,.str "/claim/cut.py" 347],#[]⟩),(138,kf "_law_takes_in" fT (.str "law_millpath_k59_many_jobs" 302) 137),(137,⟨.type "code",none,.fields #[.str "_law_takes_in" 349,.str "_law_takes_in" 350,.str "/claim/cut.py" 351,.int (117) 0,.int (2) 0,.int (0) 0,.int (0) 0,.int (3) 0,.ref 134,.bool true,.int (181) 0,.ref 135,.none,.none,.none,.ref 136,.int (352) 0,.int (117) 0,.str "/claim/cut.py" 353],#[]⟩),(143,kf "_law_is_order" fU (.str "law_millpath_k59_many_jobs" 302) 142),(142,⟨.type "code",none,.fields #[.str "_law_is_order" 355,.str "_law_is_order" 356,.str "/claim/cut.py" 357,.int (120) 0,.int (2) 0,.int (0) 0,.int (0) 0,.int (3) 0,.ref 139,.bool true,.int (181) 0,.ref 140,.none,.none,.none,.ref 141,.int (358) 0,.int (120) 0,.str "/claim/cut.py" 359],#[]⟩),(148,kf "_law_first_order" cX (.str "law_millpath_k59_many_jobs" 302) 147),(147,⟨.type "code",none,.fields #[.str "_law_first_order" 361,.str "_law_first_order" 362,.str "/claim/cut.py" 363,.int (127) 0,.int (3) 0,.int (0) 0,.int (0) 0,.int (3) 0,.ref 144,.bool true,.int (181) 0,.ref 145,.none,.none,.none,.ref 146,.int (364) 0,.int (127) 0,.str "/claim/cut.py" 365],#[]⟩),(153,kf "_law_drawn" pS (.str "law_millpath_k59_many_jobs" 302) 152),(152,⟨.type "code",none,.fields #[.str "_law_drawn" 367,.str "_law_drawn" 368,.str "/claim/cut.py" 369,.int (141) 0,.int (1) 0,.int (0) 0,.int (0) 0,.int (3) 0,.ref 149,.bool true,.int (181) 0,.ref 150,.none,.none,.none,.ref 151,.int (370) 0,.int (141) 0,.str "/claim/cut.py" 371],#[]⟩),(160,kf "law" eX (.str "law_millpath_k59_many_jobs" 302) 159),(159,⟨.type "code",none,.fields #[.str "law" 373,.str "law" 374,.str "/claim/cut.py" 375,.int (150) 0,.int (1) 0,.int (0) 0,.int (0) 0,.int (3) 0,.ref 154,.bool true,.int (181) 0,.ref 155,.none,.ref 156,.ref 157,.ref 158,.int (382) 0,.int (150) 0,.str "/claim/cut.py" 383],#[]⟩)]
noncomputable def kas:List Nh:=[3,44,43,51,50,58,57,65,64,70,69,75,74,80,79,87,86,92,91,99,98,106,105,113,112,118,117,123,122,128,127,133,132,138,137,143,142,148,147,153,152,160,159]
theorem ue(P:Q5):kas=(KK P).map (·.1):=by kernel_rfl
noncomputable def VW:Nv:=PySem.W.view PySem.Challenge.pw_millpath_k59_many_jobs [1,2,4,5,6,7,8,9,11,12,13,14,16,17,18,19,20,21,22,23,24,25,26]
def FD(s:NZ):Pos:=match s with
 | .FunctionDef _ _ _ _ _ _ _ _ _ p=>p
 | _=>⟨0,0,0,0⟩
theorem dfn{h:NB}{mg:Str->Option Nf}{P:Q5}{x:Str}{st:NZ}{ps:List Str}(X:(KK P).In h)(G:h.Ns Oh mg)(f c:Nh)(m:Nf)(l:(KK P).lookup f=some (kf x st m c):=by kernel_rfl)(a:Sz (KK P) Oh x=some (some (.ref f)):=by kernel_rfl)(cd:Qz (KK P) (.ref c) x=true:=by kernel_rfl)(kp:P_ (KK P) (.ref f)=true:=by kernel_rfl)
  (hb:∀(kV doc pm:Nf) (an:Option Nh) (cdv ct:Nf) (us:List Nf),us.length=ps.length->U6 (OU x x (cK st) (bZ st) (aj st) .none kV doc pm an cdv ct) ⟨us,[]⟩=pure (ps.zip us):=by intro _ _ _ _ _ _ us;revert us;first | (apply ar1;intros;rfl) | (apply ar2;intros;rfl) | (apply ar3;intros;rfl) | (apply ar5;intros;rfl)):Dfn (KK P) mg x st ps:=⟨f,_,ui (st:=st) l cd kp,Uy X G a,(ui (st:=st) l cd kp).binds hb⟩
def mo0:Nf:=.str "millpath.jobsets" 223
def mo1:Nf:=.str "millpath.jobs" 267
def mo2:Nf:=.str "law_millpath_k59_many_jobs" 302
set_option maxHeartbeats 0 in
theorem all_mk{l:Rm}{w:NA}{h:NB}{mg:Str->Option Nf}{fa:Nh}(X:(KK w.params).In h)(G:h.Ns Oh mg)(hfa:mg "law"=some (.ref fa)):∃ fd:NK,(∀(s:Ni) (v:Nf),RF s fd ⟨[v],[]⟩ [("_law_script",v)])/\∀ base:NB,(KK w.params).In base->base.Ns Oh mg->FnOk l.prog w (KK w.params) mg base CX0 16 fa fd ["_law_script"] (uA (KK w.params)):=by
 have e:=hfa.symm.trans (Uy X G (show Sz (KK w.params) Oh "law"=some (some (.ref 160)) by kernel_rfl))
 cases e
 have z:∀ {x:Str},Sz (KK w.params) Oh x=some none->mg x=none:=fun h=>PySem.W.mg_none_of X G h
 have T:Txt mg:=⟨z (by kernel_rfl),z (by kernel_rfl),z (by kernel_rfl),z (by kernel_rfl),z (by kernel_rfl),z (by kernel_rfl),z (by kernel_rfl),z (by kernel_rfl),z (by kernel_rfl),z (by kernel_rfl),z (by kernel_rfl),z (by kernel_rfl),z (by kernel_rfl),z (by kernel_rfl),z (by kernel_rfl),z (by kernel_rfl),z (by kernel_rfl),z (by kernel_rfl),z (by kernel_rfl),z (by kernel_rfl),z (by kernel_rfl)⟩
 have F:=ui (st:=eX) (K:=KK w.params) (x:="law") (qual:="law") (f:=160) (oc:=.type "function") (od:=none) (an:=none) (osl:=#[]) (kV:=.none) (doc:=.none) (pm:=mo2) (cdv:=.ref 159) (ct:=.none) (by kernel_rfl) (by kernel_rfl) (by kernel_rfl)
 refine⟨OU "law" "law" (cK eX) (bZ eX) (aj eX) .none .none .none mo2 none (.ref 159) .none,fun s v=>.of_eq rfl,fun base _ _=>?_⟩
 have G_take:Cal l.prog w (KK w.params) mg base 1 "_law_take" ["_law_state","_law_many"] (aG (KK w.params) 2 oV):=Ab (dfn X G 113 112 mo2) T
 have G_begin:Cal l.prog w (KK w.params) mg base 1 "_law_begin" ["_law_script"] (aG (KK w.params) 1 (pW (KK w.params))):=wX (dfn X G 106 105 mo2) T
 have G_same:Cal l.prog w (KK w.params) mg base 4 "_law_same" ["_law_found","_law_due"] (aG (KK w.params) 2 (pL 4)):=yG (dfn X G 118 117 mo2) 4 (qM (dfn X G 118 117 mo2) T 4)
 have G_set_of:=(dfn X G 51 50 mo0).cal (base:=base) (P:=l.prog) (w:=w) fun _ _ F=>xm F T
 have G_rows_of:=(dfn X G 44 43 mo0).cal (base:=base) (P:=l.prog) (w:=w) fun _ _ F=>tG F T G_set_of
 have G_whole_of:=(dfn X G 58 57 mo0).cal (base:=base) (P:=l.prog) (w:=w) fun _ _ F=>rX F T
 have G_is_part:=(dfn X G 65 64 mo0).cal (base:=base) (P:=l.prog) (w:=w) fun _ _ F=>tN F T
 have G_ready:=(dfn X G 70 69 mo0).cal (base:=base) (P:=l.prog) (w:=w) fun _ _ F=>yN F T G_is_part
 have G_tools_in:=(dfn X G 75 74 mo0).cal (base:=base) (P:=l.prog) (w:=w) fun _ _ F=>qo F T
 have G_refuse_rings:=(dfn X G 87 86 mo1).cal (base:=base) (P:=l.prog) (w:=w) fun _ _ F=>jZ F T G_set_of G_whole_of G_ready
 have G_takes_by:=(dfn X G 99 98 mo1).cal (base:=base) (P:=l.prog) (w:=w) fun _ _ F=>rZ F T
 have G_takes_from_all:=(dfn X G 92 91 mo1).cal (base:=base) (P:=l.prog) (w:=w) fun _ _ F=>iE F T G_whole_of G_ready G_tools_in G_takes_by
 have G_least_takes:=(dfn X G 80 79 mo1).cal (base:=base) (P:=l.prog) (w:=w) fun _ _ F=>lh F T G_rows_of G_whole_of G_ready G_refuse_rings G_takes_from_all G_takes_by
 have G_jobs:=(dfn X G 123 122 mo2).cal (base:=base) (P:=l.prog) (w:=w) fun _ _ F=>AV F T G_take
 have G_takes_in:=(dfn X G 138 137 mo2).cal (base:=base) (P:=l.prog) (w:=w) fun _ _ F=>sE F T
 have G_gone_on:=(dfn X G 128 127 mo2).cal (base:=base) (P:=l.prog) (w:=w) fun _ _ F=>uo F T
 have G_takes_left:Cal l.prog w (KK w.params) mg base 14 "_law_takes_left" ["_law_jobs_here","_law_known","_law_done"] (aG (KK w.params) 3 (bB 12)):=Nat.rec (motive:=fun n=>Cal l.prog w (KK w.params) mg base (2 + n) "_law_takes_left" ["_law_jobs_here","_law_known","_law_done"] (aG (KK w.params) 3 (bB n))) ((dfn X G 133 132 mo2).cal fun f fd (_:Fun (KK w.params) "_law_takes_left" "_law_takes_left" cq f fd)=>Aj rfl) (fun n ih=>(dfn X G 133 132 mo2).cal fun _ _ F=>mV n F T G_gone_on ih) 12
 have G_is_order:=(dfn X G 143 142 mo2).cal (base:=base) (P:=l.prog) (w:=w) fun _ _ F=>qw F T
 have G_first_order:=(dfn X G 148 147 mo2).cal (base:=base) (P:=l.prog) (w:=w) fun _ _ F=>lB F T G_gone_on G_takes_left
 have G_drawn:=(dfn X G 153 152 mo2).cal (base:=base) (P:=l.prog) (w:=w) fun _ _ F=>Ah F T G_take G_jobs
 exact F8 (EK F T G_least_takes G_begin G_same G_takes_left G_takes_in G_is_order G_first_order G_drawn)
end Mp
open PySem PySem.W PyProof.Rows
set_option maxRecDepth 100000 in
set_option maxHeartbeats 0 in
theorem Mp.Ek:PySem.Challenge.rw_millpath_k59_many_jobs.wellSaid=true:=by kernel_rfl
set_option maxRecDepth 100000 in
theorem Mp.left:PySem.W.LeftO PySem.Challenge.rw_millpath_k59_many_jobs.row.prog Mp.VW [] (fun s=>PySem.W.xlAt Mp.VW [] s && PySem.W.recOk (PySem.Challenge.rw_millpath_k59_many_jobs.row.toRowW.records) s) (V6 (R_ Mp.KK Mp.kas Mp.ue)) (V7 (R_ Mp.KK Mp.kas Mp.ue)) 6000:=fun w=>by kernel_rfl
set_option maxRecDepth 100000 in
set_option maxHeartbeats 0 in
theorem PySem.Challenge.cw_millpath_k59_many_jobs_holds : PySem.Challenge.rw_millpath_k59_many_jobs.Holds := by
 refine PySem.W.holds_law Mp.Ek fun Ek=>?_
 refine PySem.W.holds_open (r:=PySem.Challenge.rw_millpath_k59_many_jobs.row) (XP:=PySem.W.XL Mp.VW []) (YP:=V1 (R_ Mp.KK Mp.kas Mp.ue)) (d:=⟨"law",L2.cK Mp.eX,L2.bZ Mp.eX,L2.aj Mp.eX,Mp.FD Mp.eX⟩) (kwd:=[]) Mp.left (Wa _) (VT _) (fun s e=>PySem.W.xl_of s (Mq.mp e).1) V8 (by kernel_rfl) (by kernel_rfl) (by kernel_rfl) (fun s e=>PySem.W.recFacts_of (Mq.mp e).2) (by kernel_rfl) Ek (by kernel_rfl) ⟨rfl,rfl,rfl,rfl,rfl,by decide +kernel⟩ ?hw ?hc
 case hw=>w_witness2
 case hc=>
  refine Mp.walk (l:=PySem.Challenge.rw_millpath_k59_many_jobs) rfl (by kernel_rfl) (fun w h Y=>PySem.W.kIn_of Y) ?F
  case F=>
  intro w mg fa h KX G hmg
  exact Mp.all_mk KX G hmg
