import PyProof.Rows.All
import Wide.All
import OpenK.AllK
import Wide.FinOn
import Lean
import PyProof.EqAt
import PyProof.EqKinds
import PyProof.TupleCall
import PyProof.ZipIter
import PyProof.NeKinds
import PyProof.SeqI3
import PyProof.MaxThree
import PyProof.CompUse
import PyProof.EnumMake
import PyProof.Draws
import PyProof.EnumFor
import PyProof.Rows.EnumRows
import KE.KDictList
import PyProof.Rows.SortRuns
import KE.KSortTup
import PyProof.ListRange
import PyProof.Rows.SetFrom
import PySem.Challenge.RW_millpath_k64_jobs_put_otherwise
set_option Elab.async false
set_option linter.all false
set_option maxRecDepth 100000
set_option genSizeOf false
noncomputable section
open List renaming getElem?_eq_getElem->a_,length_map->b_,getElem?_eq_some_iff->c_,perm_middle->e_,append_assoc->h_,length_append->j_,map_cons->k_,mem_cons_of_mem->l_,range->m_,mem_append_right->n_,length_cons->o_,size_toArray->p_,mem_cons_self->r_,perm_append_comm_assoc->s_,mem_of_getElem?->t_,mem_cons->u_,replicate->w_,length_range->y_,Perm.trans->A_,map_append->A',mem_map->B_,getElem?_map->B',getD_eq_getElem?_getD->C_,mem_singleton->C',mem_append->D_,length_take->D',nodup_cons->E_,pairwise_append->G',length_set->IE,take_append_drop->IF,mem_append_left->IG,mem_iff_getElem?->IH,map_map->II,take_length->IK,Perm.append_left->IL,append_nil->IP,mem_range->IQ,length_drop->IS,getElem?_append_right->IT,cons_append->IV,eq_nil_of_length_eq_zero->IW,mem_of_mem_take->IX,take_of_length_le->IY,find?_cons->IZ,getElem_mem->I_,Pairwise.sublist->Ja,mem_filter->Jd,getElem?_append_left->Jg,replicate_succ->Jh,map_congr_left->Ji,getElem?_take_of_lt->Jj,mem_iff_getElem->Jk,filterMap_cons_some->Jm,take_add_one->Jn,length_reverse->Jp,getElem?_set_self->Jq,drop_of_length_le->Jr,lookup_cons->Js,perm_append_comm->Jt,drop_eq_getElem_cons->Jv,getElem?_set_ne->Jw,filterMap_cons_none->Jy,nodup_append->JA,any_cons->JB,cons.inj->JC,mem_filterMap->JF,zip_cons_cons->JG,length_replicate->JJ,length_singleton->JK,mem_of_mem_drop->JO,extract_eq_drop_take->JQ,getElem?_range->JU,getElem?_cons_succ->JV,getElem?_drop->JY,getElem?_take->JZ,take_sublist->J5,flatten_cons->J6,reverse_cons->J7,drop_sublist->J8,map_nil->J9,nodup_nil->J_,length_filter_le->Kb,getElem?_eq_none->Kc,drop_zero->Kd,mem_reverse->Ke,all_eq_true->Kf,any_eq_true->Ki,map->Kj,length_eraseIdx->Kl,eraseIdx_of_length_le->Kn,reverse_append->Kr,foldl_cons->Kt,nil_append->Ku,range_succ->Kv,pairwise_iff_getElem->Kx,cons.injEq->Ky,filter_append->KA,set_eq_of_length_le->KG,map_set->KI,map_replicate->KJ,drop_drop->KL,getElem?_cons_zero->KO,Pairwise.nil->KP,pairwise_map->KS,eraseIdx_append_of_length_le->KY,pairwise_lt_range->KZ,countP_cons->K5,getElem?_toArray->K7,length_nil->K8,all_map->K_,any_map->K',drop_append_of_le_length->Lg,filterMap_cons->Lh,forIn_nil->Lj,Perm.swap->Lk,Perm.cons->Ll,length->Lm,pairwise_cons->Lo,set_cons_succ->Lp,all_cons->Lw,take_add->Lx,length_eraseIdx_of_lt->Lz,map_take->LA,mem_or_eq_of_mem_set->LG,zipIdx_cons->LH,Pairwise.imp_of_mem->LP,set_set->LQ,not_mem_nil->LR,filter_cons->LV,nodup_range->LW,eraseIdx_cons_succ->LX,of_mem_zip->LY,forIn_cons->LZ,Perm.append_right->L6,map_id->L7,length_pos_of_mem->L8,singleton_append->L_,getElem?_zipWith->Ma,reverse_reverse->Mc,length_zipWith->Mh,mem_map_of_mem->Mi,set_cons_zero->Mk,filterMap_nil->Mo,getLastD_cons->Mq,ext_getElem?->Ms,mapM_toArray->Mw,any_eq_false->Mx,ext_getElem->MA,foldl->MD,zipIdx_nil->ME,zip_append->MI,filter_nil->MJ,find?_some->MK,take_zero->MM,Perm->MO,zipWith->MY
open Nat renaming le_refl->d_,ne_of_lt->q_,lt_of_lt_of_le->x_,le_trans->z_,zero_le->F_,le_of_lt->IJ,le_of_not_lt->IU,lt_irrefl->Jc,lt_of_le_of_lt->Je,two_pow_pos->Jo,lt_of_le_of_ne->Ju,sub_le->Jx,ne_of_gt->JE,eq_of_testBit_eq->JR,le_succ->JS,succ.inj->JT,pos_of_ne_zero->J0,one_pos->J3,lt_succ_self->Kk,add_le_add_left->Kq,add_sub_cancel'->Ks,sub_lt_left_of_lt_add->Kw,le_of_eq->Kz,sub_self->KC,zero_add->KD,add_sub_cancel_left->KN,le_of_lt_succ->KQ,le_of_succ_le->KU,add_assoc->K0,succ_le_succ->K4,zero_testBit->K6,lt_trans->K9,not_lt_zero->La,le_sub_one_of_lt->Lb,testBit_and->Le,pow_le_pow_right->Lf,add_lt_add_left->Li,add_sub_cancel->Lr,lt_succ_of_lt->LC,sub_lt->LD,le_add_right->LJ,min_eq_right->LK,lt_of_not_le->LL,max_eq_right->LM,add_zero->LN,not_lt_of_le->LU,min_eq_left->L0,testBit_or->Mb,sub_le_sub_right->Md,testBit_two_pow->Mj,le_succ_of_le->Mt,add_sub_assoc->Mu,lt_trichotomy->My,le_add_left->MF,le_antisymm->MG,left_le_or->MN,min_self->MU,lt_or_ge->MV,sub_zero->MW,not_lt->M4,mod_lt->M5
open Int renaming toNat_natCast->F',toNat_of_nonneg->Jl,le_refl->Ko,emod_lt_of_pos->KH,emod_nonneg->Lc,natCast_nonneg->Lq,fdiv_eq_ediv_of_nonneg->Ls,fmod_eq_emod_of_nonneg->Lu,sub_zero->Mm,zero_add->Mn,ediv_one->MT,ne_of_lt->MZ,mul_one->M0
open Option renaming some.inj->v_,map->J2,map_eq_some_iff->KW,map_some->Ld,isSome_some->Ln,some->L5,isSome_map->Mr,some.injEq->Mv,getD_none->Mz,getD_some->MB,any->M3
open Bool renaming false_ne_true->G_,and_eq_true->H_,false_eq_true->Jf,eq_iff_iff->JI,beq_eq_decide_eq->JL,eq_false_iff->JN,true_and->JW,or_eq_true->JX,not_eq_true'->KR,and_self->LB,not_false->L9,and_eq_true_iff->Me,not_true->Mf,and_true->Mg,and_false->ML,or_false->MQ,or_true->MX
open Array renaming getElem?_toList->fk,length_toList->gV,getElem?_eq_getElem->g_,toList_append->IM,toList_push->Jz,getElem?_eq_none->JD,getD_eq_getD_getElem?->JH,perm_iff_toList_perm->JM,getElem?_extract->J4,toList_extract->Kg,toList_reverse->Kh,getElem?_eq_some_iff->Km,toList_setIfInBounds->Ly,size_setIfInBounds->LO,Perm.refl->L4,size_extract->Ml,toList_map->MC,toList->MR
open And renaming intro->f_
open Or renaming inl->f',inr->i_
open Classical renaming byContradiction->Uk
open False renaming elim->Nu
open ForInStep renaming done->Nk,yield->Nv
open Ne renaming symm->Oi
open PyProof renaming noPylong_small->Rc
open PyProof.Rows renaming Keyed->Nc,arrOf->Nd,wpS_bind->Nh,SortSt->Nj,wpS_pure->Nm,pendingOf->Nt,wpS_forRange->NS,elem'->NT,failedOf->NU,wpS_mono->Oj,callWith_type1->OE,seqObj->OK,SortKind->O5,slot_tuple_getitem->O9,reverseSlice'->Pq,wpS_get->PU,subscriptTail->P',AllBare->Qc,envOfC->Qf,wpS_modify->Qi,assignInOrder_cons->Qq,gallopOf->QW,subscriptTail_builtinR->Rg,wpS_lift->RF,mergeAt'->RG,getElem?_mirror_all->RS,minRun'->R7,assignInOrder_nil->R8,oneType'->Sy,boot_range->SK,callWith_builtin1->SN,Subscript_->SO,bubble->SW,getElem?_bubble->SX,ltAt'->SY,get?_update_seq->S0,slicePart_none->Te,countRun'->TC,Constant_none->TH,listUpdate_at->TZ,IsTup->T6,isTrue_plain->Um,keyKind'->UN,binarySort'->U5,seqEpoch_at->U6,bitAnd_nn->U9,bitAnd_pp->U_,Call_->Vc
open PyProof.Rows.F renaming plain_set_update_loop->P0,entry_set_update_loop->Q1
open PyProof.Rows.IsTup renaming new->Tu
open PyProof.Rows.LSm renaming kept_iter->TV
open PyProof.Rows.SortSt renaming mk'->OX
open PySem renaming wpAny_bind->M6,Value->M7,Addr->M9,Shared->M_,wpAny_pure->M',wpAny->Nb,model->Ni,Program->Nl,Expr->Nn,starEach->Np,World->Nq,Heap->Nr,Around->Nw,wpAny_holding->Ny,wpAny_mono->Nz,eval->NA,FuncData->NB,wpAny_newObj_type->ND,sizeLine_eq->NI,foldedSetIterable->NJ,mem_of_lookup->NM,Stmt->NN,Scope->NO,compareOp->NP,cellsFrom->NV,wpAny_ite_split->NW,binaryOp->NY,wpAny_callSpecial?_slot->N2,SetTable->N3,wpAny_seqItems->N4,wpAny_Call_Name_kw->N5,mainGlobals->N9,wpAny_field->N_,wpAny_pyIter_tuple->Oa,wpAny_call_entry->Oc,wpAny_truthy_bool->Oe,wpAny_pyIter_list->Of,codeAny_builtin->Og,codeAny->Om,argBest->Oo,rawInt->Oq,IsPair->Ot,sysModules->Ou,behindInMarks->Ov,plainId_quiet->Ow,Builtin->Oy,NameKind->Oz,wpAny_setField->OB,assignEach->OC,wpAny_rule->OD,codeAny_mono->OF,wpAny_setField_rec->OH,wpAny_passesOwn->OL,wpAny_standAt->ON,wpAny_attempt->OP,comprehension->OQ,pyNext->OR,wpAny_setState_of->OU,wpAny_letGo->OY,bootBuiltins->O0,backTo->O1,intKind->O',swapsWith->Pa,wpAny_updateSeq->Pb,wpAny_of_eq->Pc,Model->Pf,fits_of_scanBound->Pg,firstArgMember->Ph,IsZip->Pj,wpAny_isInstance->Pl,assign->Pn,Comprehension->Pp,holding->Pt,sliceBounds->Pu,wpAny_specialOf->Pz,seqItems?->PK,wpAny_tryCatch->PV,pyIter->P6,codeAny_compStart_list->P9,attributeBase->Qa,wpAny_newList->Qb,wpAny_execs_nil->Qd,letOwnedTupleGo->Qe,wpAny_updateSeq_pair->Qg,wpAny_setEntries_of->Qk,getItem->Qm,isSubtype_type->Qo,subscripted->Qp,tupleKind_room_in1->Qs,swapsWithSole->Qw,swappedStores->Qx,wpAny_onRaise->Qz,wpAny_assign_Name->QC,wpAny_setEpoch_of->QD,builtinsNs->QE,typeIs_int->QF,call_meets->QG,valueAt->QN,callerA->QO,Operator->QP,noFill_tuple_add->QQ,IsPart->QR,wpAny_typeOf->QS,Params->QT,wpAny_comp_letGo->QV,relayAll->QX,argsOk->QY,wpAny_askSetting->QZ,tupleKind->Q4,CmpOp->Q5,PassesOwn->Q6,atKey->Q7,IsRangeIter->Q9,wpAny_pyNext_range_end->Ra,wpAny_pyIter_rangeiter->Rb,Paired->Ri,isTrue->Rj,wpAny_isTrue_Compare1->Rk,BindsTo->Rm,Keyword->Rn,getitemInPython_of_ne->Ro,isSubtype_stop->Rq,exec_Assign_Name_used->Rr,builtinLookup_eq_fast->Ru,wpAny_loadName_local->Rx,bindL->Ry,bindC->RA,wpAny_letTemporaryGo->RB,field->RC,wpAny_newFunctionEnv->RD,codeAny_extend_loopS->RE,intKind_is->RH,codeAny_call_builtin->RI,assignInOrder->RJ,seq_tuple_add->RK,wpAny_handled->RL,wpAny_standIf->RM,Builtin->RN,wpAny_loadName_cell->RP,wpAny_Constant_int->RU,wpAny_pyIter_range->RV,wpAny_List_spliced->RW,Result->RX,concat_meets->RY,seqIndex_neg->RZ,newExc->R0,updateSeq->R3,standAt->R5,ItemsOf->R6,wpAny_pyIter_enum->Sd,wpAny_storeSet_of->Sf,wpAny_pyIter_slot->Sg,seqIndex_of->Sj,keywordEach->Sl,wpAny_throw->Sn,GenState->Sr,wpAny_execs_cons->Ss,bindName->Su,wpAny_pyIter_zip->Sx,entryFor->Sz,checkBuiltinCall->SD,wpAny_Name->SH,wpAny_load->SJ,wpAny_call->SM,typeOf->SQ,wpAny_operating->SS,call->SU,pushCells_keeps->S3,typeLookup_type->S5,Walks->S6,codeAny_of_tree->S8,wpAny_Compare1->Ta,setItem->Tb,wpAny_bindName->Tc,Slot->Tf,fitsIndex_both->Tg,letTemporaryGo->Ti,wpAny_newTuple->Tj,entryFor_alias->To,setNext->Tp,wpAny_fieldsOf->Tq,wpAny_runValue->Tr,storeName->Tt,seqIndex?->Tv,DictEntry->Tw,clausesOf->Tx,wpAny_run->Tz,intBits_le_64->TJ,evalPart_none->TM,call_list_seq->TN,signature?_of->T3,Drawn->T7,truthy->Ul,call_range_1->Uo,bindArgs->UC,name_of_addr->UD,backToKw->UE,newTuple->UH,raiseNew->UI,callType_new->UJ,IsEnum->UM,setAddHashed->UQ,wpAny_mkInt->UZ,interactive->U1,wpAny_alloc->U7,richCompare->U8,operate->U',newList->Va,table->Ve
open PySem.Around renaming under_plainId->N6
open PySem.AutoListH renaming list___mul___list_int_3->Sm
open PySem.AutoSeq1 renaming wpAny_loadPart'->O3,list_clear_list_0->TQ
open PySem.Builtin renaming bitOr->OA,bitAnd->PQ,bitNot->PX
open PySem.Builtin.Builtins renaming bindParams->Qu
open PySem.Builtin.Dict renaming pendingCount->Ui
open PySem.Builtin.Frozenset renaming updateFrom->Ts,newClass->T4,sizeOf->US,slot0->UW
open PySem.Builtin.List renaming listLengthHint->OI,listExtendWith->OJ,listSameRef->O4,listTooLong->PJ,listFitsIndex->TR,listUpdate->UU
open PySem.Builtin.Range renaming rangeSize->O_,small->RQ,rangeFitsLong->TB
open PySem.Builtin.Slice renaming slicePlaces->OV,sliceAdjust->Py,sliceApplied->Qy,slicePartIndex->Td,sliceFields->Uh
open PySem.Builtin.SmallTypes renaming nextOf->NL,ownedTupleIsFree->Ol,ownedTupleHandOut->PN
open PySem.Builtin.Str renaming occurrences->Q0
open PySem.Builtin.Tuple renaming tupleExact->O2,tupleItemsOf->TL
open PySem.Calls renaming spliced_cons->Ox,Name_function_global->Qv,call_function_entry->QK,callWith_builtin->Rh,spliced_nil->R9
open PySem.CmpOp renaming NotIn->U0,In->VC
open PySem.Data renaming cell->Qr,fields->Q_,seq->UG
open PySem.Env renaming kindOf->QI
open PySem.EqMixed renaming eq_bool_str->T',eq_str_bool->Ua,ne_bool_str->Ue,ne_str_bool->Ug,eq_int_str->Ut,eq_str_int->Uv,ne_int_str->Uz,ne_str_int->UB
open PySem.EqNone renaming eq_none_none->T8,eq_none_bool->T9,eq_bool_none->T_,ne_none_none->Ub,ne_none_bool->Uc,ne_bool_none->Ud,eq_none_int->Uq,eq_none_str->Ur,eq_int_none->Us,eq_str_none->Uu,ne_none_int->Uw,ne_none_str->Ux,ne_int_none->Uy,ne_str_none->UA
open PySem.F renaming plain_min_loop->N7,slot_tuple_iterator_next->OO,called_set->O6,slot_list_append->O7,type_list_append->O8,entry_min_loop->Pe,args_tuple_add_2->PH,entry_tuple_add->PY,plainAttrs_list->PZ,slot_tuple_add->P7,slot_zip_next->Qh,args_tuple_iterator_next_1->Qn,entry_tuple_iterator_next->Qt,slot_dict_getitem->QH,plain_extend_loop->QL,slot_list_clear->Q2,type_list_clear->Q3,slot_dict_len->Rt,slot_list_pop->Rv,type_list_pop->Rw,args_zip_next_1->R_,plain_list_iadd->Sh,entry_zip_next->Sv,slot_int_rmul->SR,slot_set_iter->S7,plain_set_new->S9
open PySem.Flow renaming next->Vo
open PySem.Heap renaming get?_push_of_some->Na,get?_push_size->Nf,lt_size->Ng,get?_update_other->NF,size_push->NG,get?_update_self->NK,SameBut->NX,ExtBut->P8,get?_update_ne->Qj,IsTuple->QU,IsList->So,push->Vt
open PySem.Heap.DictOf renaming new->VJ
open PySem.Heap.IsList renaming push->Sw,extBut->Vq
open PySem.Heap.IsListIter renaming extBut->U4
open PySem.Heap.IsRevIter renaming typeIs->Vb
open PySem.Heap.IsSliceOf renaming new->Vp
open PySem.Heap.IsTuple renaming push->R',extBut->Vj
open PySem.Heap.IsTupleIter renaming extBut->UT
open PySem.Heap.SameBut renaming update->N0,refl->VA
open PySem.IsL renaming update->VD
open PySem.IsRange renaming new->Si
open PySem.Manifest renaming sig_set_iterator->Uj,signature?->Vl,owners->VM
open PySem.MeetsSeq renaming list_pop_at->Vd
open PySem.NameKind renaming free->Od,cell->Po
open PySem.Obj renaming data_mapFields->NQ,mapSeq->NZ,isFreed_of_fields->OM,cls_mapFields->P4,mapFields->QA,putSet->S4
open PySem.Paired renaming length->P_,snoc->U3
open PySem.PassesOwn renaming never->Oh
open PySem.SeqAt renaming EqAt->Pm,RcAt->SV,RcNeAt->UK
open PySem.SeqAt.EqAt renaming same->SE,int_none->Vf,str_none->Vg,none_int->Vh,none_str->Vi,int_str->Vm,str_int->Vn,of_refs->Vr
open PySem.SeqAt.RcAt renaming lists_lengths->UL,tuples->Vw,lists->VE
open PySem.SeqAt.RcNeAt renaming lists_lengths->TY,tuples->Vk,lists->Vs
open PySem.SetTable renaming below->NH,grown->OZ,sizeAbove->R1,slot->T1,toList_insertAt->UO,has->UP,orStandIn->Vu,insertAt->Vx,freeSlot->Vy,layClean->Vz,advance->VF,relaid->VL,Probe->VO,laid->VP,fits->VQ
open PySem.SetTable.below renaming go->P5
open PySem.SetTable.probe renaming go->Se
open PySem.Shared renaming heap->Pw
open PySem.Str renaming ofString->N8
open PySem.StrLaws renaming seqIndex_nonneg->S_
open PySem.Value renaming none->NR,ref->N1,type->Ob,int->PD,str->RT,bool->SF,isStrOf->TF,isInt->UX
open PySem.W renaming Frag->M8,fnOf->OG,keepIn->PR,codeIn->Ql,methodObj->QB,OpenLaw->Q8,cellsFrom_some->Rf,kHook->RO,nsIn->R4,kitAny->Tn,WalkO->TU,mg_of->T5
open PySem.W.Hook renaming keeps->Vv,says->VB,obs->VG,val->VH,of->VN
open PySem.W.XL renaming keeps->VI
open PySem.Walks renaming list->QJ,range->U2
open PySem.pickOrder renaming go->UR
open Sum renaming inr->NC,inl->QM
open Sum.inl renaming inj->UY
open True renaming intro->OW
namespace L2
open PySem PySem.Spec PyProof.Rows
abbrev Key:=Sum Int (Option Str)
def nE:Key->M7->Bool
 | .inl k,v=>UX k v
 | .inr (some x),v=>TF x v
 | .inr none,.none=>true
 | .inr none,_=>false
def HH(w:Nq):Key->Int
 | .inl k=>hashInt k
 | .inr (some x)=>hashStr w x
 | .inr none=>4238894112
theorem br:∀ {k:Key} {v:M7},nE k v=true->(∃ i t,k=QM i/\v=PD i t)\/(∃ x t,k=NC (some x)/\v=RT x t)\/(k=NC none/\v=NR)
 | .inl i,v,h=>by
  obtain⟨t,e⟩:=Value.isInt_shape (k:=i) (v:=v) h
  exact .inl ⟨i,t,rfl,e⟩
 | .inr (some x),v,h=>by
  obtain⟨t,e⟩:=Value.isStrOf_shape (x:=x) (v:=v) h
  exact .inr (.inl ⟨x,t,rfl,e⟩)
 | .inr none,v,h=>by
  cases v <;> first | exact .inr (.inr ⟨rfl,rfl⟩) | cases h
theorem wW(i:Int)(t:Tok):nE (.inl i) (.int i t)=true:=by simp[nE,UX]
theorem wU(x:Str)(t:Tok):nE (.inr x) (.str x t)=true:=by simp[nE,TF]
theorem Fi(a b:Int):decide ((QM a:Key)=QM b)=(a == b):=by
 by_cases e:a=b
 ·subst e;simp
 have h:¬(QM a:Key)=QM b:=fun q=>e (UY q)
 rw[decide_eq_false h]
 exact(beq_eq_false_iff_ne.mpr e).symm
theorem Fb(a b:Str):decide ((NC (some a):Key)=NC (some b))=decide (a=b):=by
 by_cases e:a=b
 ·subst e;simp
 have h:¬(NC (some a):Key)=NC (some b):=fun q=>e (v_ (Sum.inr.inj q))
 rw[decide_eq_false h,decide_eq_false e]
theorem x5{prog:Nl}{w:Nq}{A:Nw}{E:M7->M_->Prop}{s:M_}{Q:Int->M_->Prop}(h:Q 4238894112 { s with toks:=s.toks + 1 }):Nb (Ni prog w) A (PySem.pyHash .none) Q E s:=
 PySem.W.pyHash_slot (T:="NoneType") rfl F.slot_NoneType_hash F.entry_NoneType_hash (F.args_NoneType_hash_1 _) (beq_builtin_none _) (.inl rfl) (M6 (M' (M6 (UZ (M' ⟨_,_,rfl,h⟩)))))
noncomputable def ba(prog:Nl)(w:Nq):PySem.KeyKind prog w Key where
 is:=nE
 hash:=HH w
 inj:=fun v a b ha hb=>by
  rcases br ha with⟨i,t,rfl,rfl⟩ | ⟨x,t,rfl,rfl⟩ | ⟨rfl,rfl⟩ <;> rcases br hb with⟨j,u,rfl,e⟩ | ⟨y,u,rfl,e⟩ | ⟨rfl,e⟩ <;> cases e <;> rfl
 byValue:=fun k v h=>by
  rcases br h with⟨i,t,rfl,rfl⟩ | ⟨x,t,rfl,rfl⟩ | ⟨rfl,rfl⟩ <;> rfl
 pyHash:=fun hv h=>by
  rcases br hv with⟨i,t,rfl,rfl⟩ | ⟨x,t,rfl,rfl⟩ | ⟨rfl,rfl⟩
  ·exact wpAny_pyHash_int h
  ·exact wpAny_pyHash_str h
  exact x5 h
 eqBool:=fun hu hv h=>by
  rcases br hu with⟨i,t,rfl,rfl⟩ | ⟨x,t,rfl,rfl⟩ | ⟨rfl,rfl⟩ <;> rcases br hv with⟨j,u,rfl,rfl⟩ | ⟨y,u,rfl,rfl⟩ | ⟨rfl,rfl⟩
  ·rw[Fi]at h;exact wpAny_eqBool_int h
  ·exact Vm i t y u _ _ _ _ h
  ·exact Vf i t _ _ _ _ h
  ·exact Vn x t j u _ _ _ _ h
  ·rw[Fb]at h;exact wpAny_eqBool_str h
  ·exact Vg x t _ _ _ _ h
  ·exact Vh j u _ _ _ _ h
  ·exact Vi y u _ _ _ _ h
  exact SE _ _ _ _ _ h
 «strs»:=fun k x t v h=>by
  rcases br h with⟨i,u,rfl,e⟩ | ⟨y,u,rfl,e⟩ | ⟨rfl,e⟩
  ·exact nomatch e
  ·injection e with e1 _
   subst e1
   cases v <;> rfl
  exact nomatch e
theorem qN(prog:Nl)(w:Nq)(i:Int)(t:Tok):(ba prog w).is (.inl i) (.int i t)=true:=wW i t
theorem pT(prog:Nl)(w:Nq)(x:Str)(t:Tok):(ba prog w).is (.inr x) (.str x t)=true:=wU x t
inductive V where
 | non | bl (b:Bool) | int (i:Int) | str (x:Str) | byt (b:Array UInt8) | flt (b:UInt64) | ref (a:M9) | ty (n:String)
 deriving DecidableEq
set_option genInjectivity false
noncomputable def RelV:V->M7->Prop
 | .non,u=>u=NR
 | .bl b,u=>u=SF b
 | .int i,u=>∃ t,u=PD i t
 | .str x,u=>∃ t,u=RT x t
 | .byt b,u=>∃ t,u=Value.bytes b t
 | .flt b,u=>∃ t,u=Value.float b t
 | .ref a,u=>u=N1 a
 | .ty n,u=>u=Ob n
abbrev Vals:List V->List M7->Prop:=Ri RelV
theorem Vals.length {xs:List V}{us:List M7}(r:Vals xs us):xs.length=us.length:=P_ r
theorem Vals.get:∀ {xs:List V} {us:List M7} {i:Nat} {x:V},Vals xs us->xs[i]?=some x->∃ u,us[i]?=some u/\RelV x u
 | _,_,_,_,.nil,e=>by simp at e
 | _,_,0,_,.cons r _,e=>by simp at e;subst e;exact⟨_,rfl,r⟩
 | _,_,i + 1,x,.cons _ t,e=>by
  obtain⟨u,h1,h2⟩:=Vals.get (i:=i) (x:=x) t (by simpa using e)
  exact⟨u,by simpa using h1,h2⟩
theorem Vals.set {x:V}{u:M7}(r:RelV x u):∀ {xs:List V} {us:List M7} (i:Nat),Vals xs us->Vals (xs.set i x) (us.set i u)
 | _,_,_,.nil=>.nil
 | _,_,0,.cons _ t=>.cons r t
 | _,_,i + 1,.cons q t=>.cons q (Vals.set r i t)
theorem Vals.append:∀ {xs ys:List V} {us ws:List M7},Vals xs us->Vals ys ws->Vals (xs++ys) (us++ws)
 | _,_,_,_,.nil,s=>s
 | _,_,_,_,.cons r t,s=>.cons r (Vals.append t s)
theorem Vals.take:∀ {xs:List V} {us:List M7} (n:Nat),Vals xs us->Vals (xs.take n) (us.take n)
 | _,_,0,_=>.nil
 | _,_,_ + 1,.nil=>.nil
 | _,_,n + 1,.cons r t=>.cons r (Vals.take n t)
theorem Vals.drop:∀ {xs:List V} {us:List M7} (n:Nat),Vals xs us->Vals (xs.drop n) (us.drop n)
 | _,_,0,r=>r
 | _,_,_ + 1,.nil=>.nil
 | _,_,n + 1,.cons _ t=>Vals.drop n t
def mh:Option V->Option M7->Prop
 | some v,some u=>RelV v u
 | none,none=>True
 | _,_=>False
def KV{κ:Type}:List (κ × V)->List (κ × M7)->Prop:=Ri fun(p:κ × V) (q:κ × M7)=>p.1=q.1/\RelV p.2 q.2
def kV:Key->V
 | .inl i=>.int i
 | .inr (some x)=>.str x
 | .inr none=>.non
inductive HO where
 | lst (xs:List V)
 | tup (xs:List V)
 | dK (kvs:List (Key × V)) | dT (kvs:List (List Key × V))
 | set (S:Int->Bool) (n:Nat)
 | ins (C dx:M9) (fs:List (Str × V))
 | own (x:M9)
 | xd (fs:List (Str × V))
 | met (f x:M9)
 | rng (lo hi:Int)
 | frz (o:Obj) (u:HO)
 | tbl (ps:Array M7)
 | ext (φ:Nr->Prop)
abbrev Hp:=M9->Option HO
def upd(H:Hp)(a:M9)(o:HO):Hp:=fun b=>if b=a then some o else H b
theorem ay{H:Hp}{a:M9}{o:HO}:upd H a o a=some o:=by unfold upd;rw[if_pos rfl]
theorem av{H:Hp}{a b:M9}{o:HO}(h:b≠a):upd H a o b=H b:=by unfold upd;rw[if_neg h]
theorem A9{H:Hp}{a:M9}{o u:HO}:upd (upd H a o) a u=upd H a u:=by
 funext b;unfold upd;split <;> rfl
theorem Cs{H:Hp}{a b:M9}{o u:HO}(h:H a=some o)(h':H b=some u)(d:o≠u):a≠b:=by
 intro e;subst e;rw[h]at h';exact d (v_ h')
theorem b6{H:Hp}{a b:M9}{o:HO}(h:H a=some o)(h':H b=none):a≠b:=by
 intro e;subst e;rw[h]at h';cases h'
section
variable(P:Nl)(w:Nq)
noncomputable def bj(H:Hp)(h:Nr)(a:M9):HO->Prop
 | .lst xs=>xs.length<=sizeLine/\∃(its:List M7) (n:Nat),Vals xs its/\h.get? a=some { cls:=.type "list",data:=.seq its.toArray n }
 | .tup xs=>xs.length<=sizeLine/\∃ its:List M7,Vals xs its/\T6 h a its.toArray
 | .dK kvs=>kvs.length<=sizeLine/\(a == Ou)=false/\∃ vs,KV kvs vs/\h.DictOf (ba P w) a vs
 | .dT kvs=>kvs.length<=sizeLine/\(a == Ou)=false/\∃ xs:List (List Key × M9 × M7),
   Ri (fun(p:List Key × V) (q:List Key × M9 × M7)=>p.1=q.1/\H q.2.1=some (.tup (p.1.map kV))/\RelV p.2 q.2.2) kvs xs/\
   ∃ o es ep,h.get? a=some o/\o.ExactDict/\o.data=.dict es ep/\es.toList=xs.map (entryOfKey (Q4 (ba P w)))/\(xs.map (·.1)).Nodup
 | .set S n=>h.SetOf (O' P w) a S n
 | .ins C dx fs=>H dx=some (.own a)/\fs.length<=1000/\dx≠a/\h.get? a=some (PySem.W.instObj C dx)/\
   ∃ mA,h.Ns1 dx mA/\(∀ f,mh (fs.lookup f) (mA f))/\PySem.Within mA (fs.map (·.1))
 | .own _=>∃ o,h.get? a=some o
 | .xd fs=>∃ mA,h.Ns1 a mA/\∀ f,mh (fs.lookup f) (mA f)
 | .rng lo hi=>∃ t u v,h.get? a=some { cls:=.type "range",data:=.fields #[.int lo t,.int hi u,.int 1 v] }
 | .frz o u=>h.get? a=some o/\bj H h a u
 | .tbl ps=>h.get? a=some { cls:=.none,data:=.fields ps }
 | .met f x=>h.get? a=some (QB (.ref f) (.ref x))
 | .ext φ=>φ h/\(∃ o,h.get? a=some o)/\∀ h1 h2:Nr,φ h1->(∀ o,h1.get? a=some o->h2.get? a=some o)->φ h2
def HOk(H:Hp)(h:Nr):Prop:=∀ a o,H a=some o->bj P w H h a o
end
section
variable{P:Nl}{w:Nq}{H H':Hp}{h h':Nr}{a:M9}{o:HO}
theorem bj.lt (x:bj P w H h a o):a < h.objs.size:=by
 cases o with
 | lst xs=>obtain⟨_,_,_,_,e⟩:=x;exact Ng e
 | tup xs=>obtain⟨_,_,_,p⟩:=x;exact p.lt
 | dK kvs=>obtain⟨_,_,_,_,o,_,_,e,_⟩:=x;exact Ng e
 | dT kvs=>obtain⟨_,_,_,_,o,_,_,e,_⟩:=x;exact Ng e
 | set S n=>obtain⟨o,_,_,_,e,_⟩:=x;exact Ng e
 | ins C dx fs=>obtain⟨_,_,_,e,_⟩:=x;exact Ng e
 | own y=>obtain⟨_,e⟩:=x;exact Ng e
 | xd fs=>obtain⟨_,⟨_,_,_,e,_⟩,_⟩:=x;exact Ng e
 | rng lo hi=>obtain⟨_,_,_,e⟩:=x;exact Ng e
 | frz ob u=>obtain⟨e,_⟩:=x;exact Ng e
 | tbl ps=>exact Ng (show h.get? a=some _ from x)
 | met f y=>exact Ng (show h.get? a=some _ from x)
 | ext φ=>obtain⟨_,⟨_,e⟩,_⟩:=x;exact Ng e
theorem Paired.EU {α β:Type}{F G:α->β->Prop}:∀ {l₁:List α} {l₂:List β},Ri F l₁ l₂->(∀ a b,F a b->G a b)->Ri G l₁ l₂
 | _,_,.nil,_=>.nil
 | _,_,.cons r t,f=>.cons (f _ _ r) (Paired.EU t f)
theorem bj.gI (x:bj P w H h a o)(k:∀ b u,(b=a\/H b=some (.own a))->h.get? b=some u->h'.get? b=some u)
  (ho:∀ b,H b=some (.own a)->H' b=some (.own a)) (ht:∀ b xs,H b=some (.tup xs)->H' b=some (.tup xs)):bj P w H' h' a o:=by
 induction o with
 | lst xs=>obtain⟨z,its,n,r,e⟩:=x;exact⟨z,its,n,r,k _ _ (.inl rfl) e⟩
 | tup xs=>obtain⟨z,its,r,ob,e,c⟩:=x;exact⟨z,its,r,ob,k _ _ (.inl rfl) e,c⟩
 | dK kvs=>obtain⟨z,y,vs,r,ob,es,ep,e,c⟩:=x;exact⟨z,y,vs,r,ob,es,ep,k _ _ (.inl rfl) e,c⟩
 | dT kvs=>
  obtain⟨z,y,xs,r,ob,es,ep,e,c⟩:=x
  exact⟨z,y,xs,Paired.EU r fun p q z=>⟨z.1,ht _ _ z.2.1,z.2.2⟩,ob,es,ep,k _ _ (.inl rfl) e,c⟩
 | set S n=>obtain⟨ob,es,ep,t,e,c⟩:=x;exact⟨ob,es,ep,t,k _ _ (.inl rfl) e,c⟩
 | ins C dx fs=>
  obtain⟨d,z,ne,e,mA,⟨od,es,ep,e2,c⟩,r⟩:=x
  exact⟨ho _ d,z,ne,k _ _ (.inl rfl) e,mA,⟨od,es,ep,k _ _ (.inr d) e2,c⟩,r⟩
 | own y=>obtain⟨ob,e⟩:=x;exact⟨ob,k _ _ (.inl rfl) e⟩
 | xd fs=>obtain⟨mA,⟨od,es,ep,e,c⟩,r⟩:=x;exact⟨mA,⟨od,es,ep,k _ _ (.inl rfl) e,c⟩,r⟩
 | rng lo hi=>obtain⟨t,u,v,e⟩:=x;exact⟨t,u,v,k _ _ (.inl rfl) e⟩
 | frz ob u ih=>obtain⟨e,q⟩:=x;exact⟨k _ _ (.inl rfl) e,ih q⟩
 | tbl ps=>
  have e:h.get? a=some { cls:=.none,data:=.fields ps }:=x
  show h'.get? a=some { cls:=.none,data:=.fields ps }
  exact k a _ (.inl rfl) e
 | met f y=>
  have e:h.get? a=some (QB (.ref f) (.ref y)):=x
  show h'.get? a=some (QB (.ref f) (.ref y))
  exact k a _ (.inl rfl) e
 | ext φ=>obtain⟨p,⟨o,e⟩,st⟩:=x;exact⟨st _ _ p fun o q=>k _ _ (.inl rfl) q,⟨o,k _ _ (.inl rfl) e⟩,st⟩
theorem HOk.lt (x:HOk P w H h)(e:H a=some o):a < h.objs.size:=(x a o e).lt
theorem HOk.fresh (x:HOk P w H h)(e:h.objs.size<=a):H a=none:=by
 cases q:H a with
 | none=>rfl
 | some u=>exact absurd (x_ (x.lt q) e) (Jc _)
theorem HOk.kept (x:HOk P w H h)(k:∀ b u,h.get? b=some u->h'.get? b=some u):HOk P w H h':=fun a o e=>
 (x a o e).gI (fun b u _ q=>k b u q) (fun _ q=>q) fun _ _ q=>q
theorem HOk.laid (x:HOk P w H h)(k:∀ b u,h.get? b=some u->h'.get? b=some u)(hp:h.objs.size<=a)(new:bj P w (upd H a o) h' a o):HOk P w (upd H a o) h':=fun b u e=>by
 have hn:=x.fresh hp
 by_cases hb:b=a
 ·subst hb;rw[ay]at e;cases e;exact new
 rw[av hb]at e
 exact(x b u e).gI (fun c v _ q=>k c v q) (fun c q=>by rw[av (b6 q hn)];exact q) fun c xs q=>by rw[av (b6 q hn)];exact q
end
def Rd(H:Hp)(a:M9)(u:HO):Prop:=H a=some u\/∃ o,H a=some (.frz o u)
theorem Rd.ok {P:Nl}{w:Nq}{H:Hp}{h:Nr}{a:M9}{u:HO}(r:Rd H a u)(x:HOk P w H h):bj P w H h a u:=by
 rcases r with r | ⟨o,r⟩
 ·exact x a u r
 obtain⟨_,q⟩:=x a _ r
 exact q
noncomputable def Mut:Option HO->Prop
 | some (.lst _)=>True
 | some (.dK _)=>True
 | some (.dT _)=>True
 | some (.set _ _)=>True
 | some (.ins _ _ _)=>True
 | some (.ext _)=>True
 | _=>False
section
variable{P:Nl}{w:Nq}{H:Hp}{h h':Nr}{x e:M9}{o':HO}
theorem HOk.write (ok:HOk P w H h)(mu:Mut (H x))(he:e=x\/H e=some (.own x))(k:∀ b u,b≠e->h.get? b=some u->h'.get? b=some u)(heo:∃ u,h'.get? e=some u)
  (new:bj P w (upd H x o') h' x o'):HOk P w (upd H x o') h':=fun b u q=>by
 have nown:∀ c y,H c=some (.own y)->c≠x:=fun c y r z=>by subst z;rw[r]at mu;exact mu
 have ntup:∀ c xs,H c=some (.tup xs)->c≠x:=fun c xs r z=>by subst z;rw[r]at mu;exact mu
 by_cases hb:b=x
 ·subst hb;rw[ay]at q;cases q;exact new
 rw[av hb]at q
 by_cases hbe:b=e
 ·have q':H b=some (.own x):=by
   rcases he with z | z
   ·exact absurd (hbe.trans z) hb
   rw[hbe];exact z
  rw[q]at q';cases q'
  obtain⟨v,hv⟩:=heo
  exact⟨v,by rw[hbe];exact hv⟩
 refine(ok b u q).gI (fun c v hc r=>k c v ?_ r) (fun c r=>by rw[av (nown c b r)];exact r) fun c xs r=>by rw[av (ntup c xs r)];exact r
 rcases hc with rfl | hc
 ·exact hbe
 rintro rfl
 rcases he with z | z
 ·exact nown c b hc z
 rw[hc]at z;cases z;exact hb rfl
end
structure Un (fs ex:List M9) (H H':Hp) (h h':Nr):Prop where
 keep:∀ b o,h.get? b=some o->H b=none->b ∉ fs->b ∉ ex->h'.get? b=some o
 slot:∀ b o,h.get? b=some o->H b=none->b∈fs->b ∉ ex->∃ sl,h'.get? b=some { o with slots:=sl }
 free:∀ b o,h.get? b=some o->H b=none->b ∉ ex->H' b=none
 there:∀ b o,h.get? b=some o->b ∉ ex->∃ o',h'.get? b=some o'
 tups:∀ b xs,H b=some (.tup xs)->H' b=some (.tup xs)
 frzs:∀ b o u,H b=some (.frz o u)->H' b=some (.frz o u)
 tbls:∀ b ps,H b=some (.tbl ps)->∃ more,H' b=some (.tbl (ps++more))
section
variable{fs fs' ex ex':List M9}{H H1 H2:Hp}{h h1 h2 h':Nr}{a x e:M9}{o:HO}
theorem Un.any (u:Un fs ex H H1 h h1){b:M9}{ob:Obj}(q:h.get? b=some ob)(n:H b=none)(hx:b ∉ ex):∃ sl,h1.get? b=some { ob with slots:=sl }:=by
 by_cases hb:b∈fs
 ·exact u.slot b ob q n hb hx
 exact⟨ob.slots,u.keep b ob q n hb hx⟩
theorem Un.kept (k:∀ b u,h.get? b=some u->h'.get? b=some u):Un fs ex H H h h':=
 ⟨fun b ob q _ _ _=>k b ob q,fun b ob q _ _ _=>⟨ob.slots,k b ob q⟩,fun _ _ _ n _=>n,fun b ob q _=>⟨ob,k b ob q⟩,fun _ _ q=>q,fun _ _ _ q=>q,fun _ ps q=>⟨#[],by rw[q];simp⟩⟩
theorem Un.refl:Un fs ex H H h h:=Un.kept fun _ _ q=>q
theorem Un.laid (k:∀ b u,h.get? b=some u->h'.get? b=some u)(hp:h.objs.size<=a)(hn:H a=none):Un fs ex H (upd H a o) h h' where
 keep:=fun b u q _ _ _=>k b u q
 slot:=fun b u q _ _ _=>⟨u.slots,k b u q⟩
 free:=fun b u q n _=>by rw[av (q_ (x_ (Ng q) hp))];exact n
 there:=fun b u q _=>⟨u,k b u q⟩
 tups:=fun b xs q=>by rw[av (b6 q hn)];exact q
 frzs:=fun b u xs q=>by rw[av (b6 q hn)];exact q
 tbls:=fun b ps q=>⟨#[],by rw[av (b6 q hn),q];simp⟩
theorem Un.write (mu:Mut (H x))(he:e=x\/H e=some (.own x))(k:∀ b u,b≠e->h.get? b=some u->h'.get? b=some u)(heo:∃ u,h'.get? e=some u):Un fs ex H (upd H x o) h h':=by
 have hx:∀ b,H b=none->b≠x:=fun b n z=>by subst z;rw[n]at mu;exact mu
 have hb:∀ b,H b=none->b≠e:=fun b n z=>by
  subst z
  rcases he with r | r
  ·exact hx b n r
  rw[n]at r;cases r
 have hm:∀ b u,H b=some u->¬ Mut (some u)->b≠x:=fun b u q nm z=>by subst z;rw[q]at mu;exact nm mu
 refine⟨fun b u q n _ _=>k b u (hb b n) q,fun b u q n _ _=>⟨u.slots,k b u (hb b n) q⟩,fun b u q n _=>by rw[av (hx b n)];exact n,fun b u q _=>?_,
  fun b xs q=>by rw[av (hm b _ q fun z=>z)];exact q,fun b u xs q=>by rw[av (hm b _ q fun z=>z)];exact q,fun b ps q=>⟨#[],by rw[av (hm b _ q fun z=>z),q];simp⟩⟩
 by_cases hbe:b=e
 ·subst hbe;exact heo
 exact⟨u,k b u hbe q⟩
end
def trk(h:Nr)(H:Hp):List M9:=(m_ h.objs.size).filter fun a=>(H a).isSome
def og(h:Nr)(H:Hp):Nr:=PySem.W.hideAll h (trk h H)
theorem wz(h:Nr)(H:Hp):(og h H).objs.size=h.objs.size:=PySem.W.hideAll_size _ _
theorem yV{h:Nr}{H:Hp}{b:M9}{o:Obj}(e:h.get? b=some o)(n:H b=none):(og h H).get? b=some o:=
 PySem.W.hideAll_get _ e fun hm=>by
  have q:(H b).isSome=true:=(Jd.mp hm).2
  rw[n]at q;simp at q
theorem C3{h:Nr}{H:Hp}{b:M9}{o:Obj}(e:(og h H).get? b=some o):h.get? b=some o/\H b=none:=by
 have e':h.get? b=some o:=PySem.W.of_hideAll (trk h H) e
 refine⟨e',?_⟩
 cases q:H b with
 | none=>rfl
 | some x=>
  have hm:b∈trk h H:=Jd.mpr ⟨IQ.mpr (Ng e'),by simp[q]⟩
  have z:(og h H).get? b=none:=PySem.W.hideAll_none (trk h H) hm
  rw[z]at e;cases e
noncomputable def Bc(g h:Nr)(L:M9):List (M9 × Obj):=(m_ h.objs.size).filterMap fun a=>if a=L\/(g.get? a).isSome=true then none else(h.get? a).map fun o=>(a,o)
def rest(g h:Nr)(L d:M9):List (M9 × Obj):=(Bc g h L).filter fun p=>decide (p.1≠d)
structure Mod (K:M8) (mg:Str->Option M7) (base:Nr):Prop where
 kin:K.In base
 glob:base.Ns N9 mg
 blt:∃ mb,base.Ns QE mb/\∀ x:Str,x≠"__name__"->mb x=O0 x
 nolimit:base.NoLimit
structure Cx where
 prog:Nl
 w:Nq
 K:M8
 mg:Str->Option M7
 base:Nr
 A:Nw
 N:List Str
 s₀:M_
 H₀:Hp
 env:Env
 outer:List Env
 stack:List Env
 ex:List M9
 fn:Str->Bool
 calm:Bool
 pn:List (M9 × Obj)
 xe:M7->M_->Prop
def frs(l:List Env):List M9:=l.filterMap (·.frame)
abbrev Cx.fs (X:Cx):List M9:=frs X.outer
def Vis(sc:NO)(x:Str):Prop:=sc.names.lookup x=some .local\/sc.names.lookup x=some .cell\/sc.names.lookup x=some .free
def Loc(sc:NO)(x:Str):Prop:=sc.names.lookup x=some .local\/sc.names.lookup x=some .cell
noncomputable def Look(env:Env)(h:Nr)(m:Str->Option M7)(x:Str)(u:M7):Prop:=
 (env.kindOf x=some .local/\m x=some u)\/((env.kindOf x=some .cell\/env.kindOf x=some .free)/\∃ c,env.cells.lookup x=some c/\h.IsCell c (some u))
structure Cx.Ok (X:Cx):Prop where
 mod:Mod X.K X.mg X.base
 kind:X.env.scope.kind=.function
 glob:X.env.globals=N9
 blt:X.env.builtins=QE
 above:X.s₀.heap.objs.size<=X.env.locals
 inj:∀ x y c,X.env.cells.lookup x=some c->X.env.cells.lookup y=some c->x=y
 has:∀ x,(X.env.kindOf x=some .cell\/X.env.kindOf x=some .free)->∃ c,X.env.cells.lookup x=some c
 cab:∀ x c,X.fn x=true->X.env.cells.lookup x=some c->X.s₀.heap.objs.size<=c
 hd:X.calm=true->X.A.handled=none
 frames:X.A.frames=some X.stack
 stk:X.stack=X.outer\/(X.stack=X.env::X.outer/\X.env.frame=some X.env.locals)
 exf:∀ b∈X.ex,b≠X.env.locals/\∀ x c,X.env.cells.lookup x=some c->c≠b
 bs:∀ b o,X.base.get? b=some o->X.s₀.heap.get? b=some o/\X.H₀ b=none
 bsz:X.base.objs.size<=X.s₀.heap.objs.size
 noex:∀ b o,X.base.get? b=some o->b ∉ X.ex
 exfs:∀ b∈X.ex,b ∉ X.fs
 lI:X.s₀.heap.FunFrames X.base X.outer
 frf:∀ b∈X.fs,X.H₀ b=none
structure Inv (X:Cx) (pins:List (M9 × Obj)) (σ:List (Option V)) (H:Hp) (s:M_):Prop where
 ok:X.Ok
 os:s.os=X.s₀.os
 bare:Qc s.gens
 base:Un X.fs X.ex X.H₀ H X.s₀.heap s.heap
 loc:∃ m,s.heap.Ns X.env.locals m/\∀(i:Nat) (x:Str) (v:V),X.N[i]?=some x->σ[i]?=some (some v)->Vis X.env.scope x->∃ u,RelV v u/\Look X.env s.heap m x u
 cell:∀ x c,X.env.cells.lookup x=some c->∃ v,s.heap.IsCell c v
 free:H X.env.locals=none
 freeC:∀ x c,X.env.cells.lookup x=some c->H c=none
 pin:∀ p∈X.pn++pins,s.heap.get? p.1=some p.2/\H p.1=none/\p.1≠X.env.locals/\p.1 ∉ X.fs/\∀ v,p.2.data≠.cell v
 hok:HOk X.prog X.w H s.heap
 len:σ.length=X.N.length
section
variable{X:Cx}{pins:List (M9 × Obj)}{σ:List (Option V)}{H H':Hp}{s:M_}{h':Nr}
theorem Cx.Ok.IB (ok:X.Ok){b:M9}{o:Obj}(e:X.base.get? b=some o):b ∉ X.fs:=fun hb=>by
 have:=(ok.lI.mem hb).1
 rw[e]at this;cases this
theorem Inv.bs (I:Inv X pins σ H s):∀ b o,X.base.get? b=some o->s.heap.get? b=some o/\H b=none:=fun b o e=>
 ⟨I.base.keep b o (I.ok.bs b o e).1 (I.ok.bs b o e).2 (I.ok.IB e) (I.ok.noex b o e),I.base.free b o (I.ok.bs b o e).1 (I.ok.bs b o e).2 (I.ok.noex b o e)⟩
theorem Inv.bk (I:Inv X pins σ H s):∀ b o,X.base.get? b=some o->s.heap.get? b=some o:=fun b o e=>(I.bs b o e).1
theorem Inv.mod (I:Inv X pins σ H s):Mod X.K X.mg X.base:=I.ok.mod
theorem Inv.kIn (I:Inv X pins σ H s):X.K.In s.heap:=I.ok.mod.kin.keeps I.bk
theorem Inv.lt (I:Inv X pins σ H s):X.env.locals < s.heap.objs.size:=let ⟨_,hn,_⟩:=I.loc;hn.lt
theorem Inv.sz (I:Inv X pins σ H s):X.s₀.heap.objs.size<=s.heap.objs.size:=z_ I.ok.above (IJ I.lt)
theorem Inv.Ir (I:Inv X pins σ H s){a:M9}(h:s.heap.objs.size<=a):a ∉ X.fs:=fun hb=>by
 obtain⟨_,o,ho,_⟩:=I.ok.lI.mem hb
 exact absurd (x_ (Ng ho) (z_ I.sz h)) (Jc _)
theorem Inv.cne (I:Inv X pins σ H s):∀ x c,X.env.cells.lookup x=some c->c≠X.env.locals:=fun x c e z=>by
 obtain⟨v,o,ho,hd⟩:=I.cell x c e
 obtain⟨m,⟨o',es,ep,ho',hd',_⟩,_⟩:=I.loc
 rw[z,ho']at ho;cases ho;rw[hd']at hd;cases hd
theorem Inv.lI (I:Inv X pins σ H s):s.heap.FunFrames X.base X.outer:=by
 have all:∀(l:List Env),(∀ b∈frs l,b∈X.fs)->X.s₀.heap.FunFrames X.base l->s.heap.FunFrames X.base l:=by
  intro l
  induction l with
  | nil=>intro _ _;trivial
  | cons env r ih=>
   intro hs hl
   obtain⟨hk,⟨L,o,hf,hn,ho,hd⟩,hr⟩:=hl
   have hL:L∈X.fs:=hs L (by unfold frs;rw[Lh,hf];exact r_)
   obtain⟨sl,e⟩:=I.base.slot L o ho (I.ok.frf L hL) hL fun z=>I.ok.exfs L z hL
   exact⟨hk,⟨L,_,hf,hn,e,hd⟩,ih (fun b hb=>hs b (by unfold frs;rw[Lh,hf];exact l_ _ hb)) hr⟩
 exact all X.outer (fun _ hb=>hb) I.ok.lI
theorem Inv.stack (I:Inv X pins σ H s):s.heap.FunFrames X.base X.stack:=by
 rcases I.ok.stk with e | ⟨e,hf⟩
 ·rw[e];exact I.lI
 rw[e]
 obtain⟨m,hn,_⟩:=I.loc
 refine .cons (by rw[I.ok.kind];decide) hf hn ?_ I.lI
 exact Heap.get?_none_of_le (z_ I.ok.bsz I.ok.above)
theorem Inv.o9 (I:Inv X pins σ H s):∀ b∈frs X.stack,b∈X.env.locals::X.fs:=fun b hb=>by
 rcases I.ok.stk with e | ⟨e,hf⟩
 ·rw[e]at hb;exact l_ _ hb
 rw[e]at hb
 unfold frs at hb
 rw[Lh,hf]at hb
 exact hb
theorem Inv.oQ (I:Inv X pins σ H s):∀ b∈frs X.stack,H b=none:=fun b hb=>by
 rcases u_.mp (I.o9 b hb)with e | hb
 ·rw[e];exact I.free
 obtain⟨_,o,ho,_⟩:=I.ok.lI.mem hb
 exact I.base.free b o ho (I.ok.frf b hb) fun z=>I.ok.exfs b z hb
theorem Inv.step {g':Array Sr}{t':Nat}{d':T7}{ch:List M9}(I:Inv X pins σ H s)
  (hch:∀ b∈ch,(b∈X.ex\/X.s₀.heap.objs.size<=b)/\b≠X.env.locals/\(∀ x c,X.env.cells.lookup x=some c->c≠b)/\∀ p∈X.pn++pins,p.1≠b)
  (keep:∀ b o,b≠X.env.locals->b ∉ X.fs->b ∉ ch->s.heap.get? b=some o->H b=none->h'.get? b=some o)
  (slot:∀ b o,b≠X.env.locals->b∈X.fs->b ∉ ch->s.heap.get? b=some o->H b=none->∃ sl,h'.get? b=some { o with slots:=sl }) (free:∀ b o,b ∉ ch->s.heap.get? b=some o->H b=none->H' b=none)
  (there:∀ b o,b ∉ ch->s.heap.get? b=some o->∃ o',h'.get? b=some o')
  (tups:∀ b xs,H b=some (.tup xs)->H' b=some (.tup xs)) (frzs:∀ b o u,H b=some (.frz o u)->H' b=some (.frz o u)) (tbls:∀ b ps,H b=some (.tbl ps)->∃ more,H' b=some (.tbl (ps++more)))
  (ns:∀ m,s.heap.Ns X.env.locals m->h'.Ns X.env.locals m) (hok:HOk X.prog X.w H' h') (hg:Qc g') :
  Inv X pins σ H' { s with heap:=h',gens:=g',drawn:=d',toks:=t' }:=by
 have neL:∀ b o,X.s₀.heap.get? b=some o->b≠X.env.locals:=fun b o e=>q_ (x_ (Ng e) I.ok.above)
 have neC:∀ b o,X.s₀.heap.get? b=some o->b ∉ X.ex->b ∉ ch:=fun b o e hx hb=>by
  rcases(hch b hb).1 with z | z
  ·exact hx z
  exact absurd (x_ (Ng e) z) (Jc _)
 have cellK:∀ x c,X.env.cells.lookup x=some c->∀ v,s.heap.IsCell c v->h'.IsCell c v:=fun x c e v ⟨o,ho,hd⟩=>by
  have nch:c ∉ ch:=fun z=>(hch c z).2.2.1 x c e rfl
  by_cases hc:c∈X.fs
  ·obtain⟨sl,q⟩:=slot c o (I.cne x c e) hc nch ho (I.freeC x c e)
   exact⟨_,q,hd⟩
  exact⟨o,keep c o (I.cne x c e) hc nch ho (I.freeC x c e),hd⟩
 refine⟨I.ok,I.os,hg,⟨fun b o e n hb hx=>?_,fun b o e n hb hx=>?_,fun b o e n hx=>?_,fun b o e hx=>?_,fun b xs e=>tups b xs (I.base.tups b xs e),fun b o xs e=>frzs b o xs (I.base.frzs b o xs e),fun b ps e=>?_⟩,?_,fun x c e=>?_,?_,fun x c e=>?_,fun p hp=>?_,hok,I.len⟩
 ·exact keep b o (neL b o e) hb (neC b o e hx) (I.base.keep b o e n hb hx) (I.base.free b o e n hx)
 ·obtain⟨sl,e1⟩:=I.base.slot b o e n hb hx
  obtain⟨sl',e2⟩:=slot b _ (neL b o e) hb (neC b o e hx) e1 (I.base.free b o e n hx)
  exact⟨sl',e2⟩
 ·obtain⟨o',e1⟩:=I.base.there b o e hx
  exact free b o' (neC b o e hx) e1 (I.base.free b o e n hx)
 ·obtain⟨o',e1⟩:=I.base.there b o e hx
  exact there b o' (neC b o e hx) e1
 ·obtain⟨m1,e1⟩:=I.base.tbls b ps e
  obtain⟨m2,e2⟩:=tbls b _ e1
  exact⟨m1++m2,by rw[e2,Array.append_assoc]⟩
 ·obtain⟨m,hn,hl⟩:=I.loc
  refine⟨m,ns m hn,fun i x v e1 e2 e3=>?_⟩
  obtain⟨u,r,l⟩:=hl i x v e1 e2 e3
  refine⟨u,r,?_⟩
  rcases l with l | ⟨k,c,e,z⟩
  ·exact .inl l
  exact .inr ⟨k,c,e,cellK x c e _ z⟩
 ·obtain⟨v,z⟩:=I.cell x c e
  exact⟨v,cellK x c e v z⟩
 ·obtain⟨m,⟨o,_,_,ho,_⟩,_⟩:=I.loc
  exact free _ o (fun z=>(hch _ z).2.1 rfl) ho I.free
 ·obtain⟨v,o,ho,hd⟩:=I.cell x c e
  exact free c o (fun z=>(hch c z).2.2.1 x c e rfl) ho (I.freeC x c e)
 obtain⟨e,n,ne,nf,d⟩:=I.pin p hp
 have nch:p.1 ∉ ch:=fun z=>(hch p.1 z).2.2.2 p hp rfl
 exact⟨keep p.1 p.2 ne nf nch e n,free p.1 p.2 nch e n,ne,nf,d⟩
theorem Inv.un {t':Nat}(I:Inv X pins σ H s)(u:Un X.fs [] H H' s.heap h')(hok:HOk X.prog X.w H' h'):Inv X pins σ H' { s with heap:=h',toks:=t' }:=by
 obtain⟨m,⟨o,es,ep,ho,r⟩,_⟩:=id I.loc
 obtain⟨sl,hL⟩:=u.any ho I.free (by simp)
 exact I.step (g':=s.gens) (d':=s.drawn) (ch:=[]) (fun _ z=>nomatch z) (fun b o _ hb _ e n=>u.keep b o e n hb (by simp)) (fun b o _ hb _ e n=>u.slot b o e n hb (by simp)) (fun b o _ e n=>u.free b o e n (by simp)) (fun b o _ e=>u.there b o e (by simp)) u.tups u.frzs u.tbls (fun m' hm=>by
  obtain⟨o',es',ep',ho',r'⟩:=hm
  rw[ho]at ho';cases ho'
  exact⟨_,es',ep',hL,r'⟩) hok I.bare
theorem Inv.call {g':Array Sr}{t':Nat}{d':T7}{ch:List M9}(I:Inv X pins σ H s)(u:Un (frs X.stack) ch H H' s.heap h')(hok:HOk X.prog X.w H' h')(hg:Qc g')
  (hch:∀ b∈ch,(b∈X.ex\/X.s₀.heap.objs.size<=b)/\b≠X.env.locals/\(∀ x c,X.env.cells.lookup x=some c->c≠b)/\∀ p∈X.pn++pins,p.1≠b) :
  Inv X pins σ H' { s with heap:=h',gens:=g',drawn:=d',toks:=t' }:=by
 obtain⟨m,⟨o,es,ep,ho,r⟩,_⟩:=id I.loc
 obtain⟨sl,hL⟩:=u.any ho I.free fun z=>(hch _ z).2.1 rfl
 exact I.step (ch:=ch) hch (fun b o hL hb hc e n=>u.keep b o e n (fun z=>(u_.mp (I.o9 b z)).elim hL hb) hc) (fun b o _ _ hc e n=>u.any e n hc) (fun b o hc e n=>u.free b o e n hc) (fun b o hc e=>u.there b o e hc) u.tups u.frzs u.tbls (fun m' hm=>by
  obtain⟨o',es',ep',ho',r'⟩:=hm
  rw[ho]at ho';cases ho'
  exact⟨_,es',ep',hL,r'⟩) hok hg
theorem Inv.turned {t':Nat}{it:M9}(I:Inv X pins σ H s)(k:∀ b o,b≠it->s.heap.get? b=some o->h'.get? b=some o)(hn:H it=none)(hL:it≠X.env.locals)
  (h1:it∈X.ex\/X.s₀.heap.objs.size<=it) (h2:∀ x c,X.env.cells.lookup x=some c->c≠it) (h3:∀ p∈X.pn++pins,p.1≠it):Inv X pins σ H { s with heap:=h',toks:=t' }:=by
 have nit:∀ b u,H b=some u->b≠it:=fun b u e z=>by rw[z,hn]at e;cases e
 refine I.step (g':=s.gens) (d':=s.drawn) (ch:=[it]) (fun b hb=>?_) (fun b o _ _ hc e _=>k b o (fun z=>hc (by simp[z])) e) (fun b o _ _ hc e _=>⟨o.slots,k b o (fun z=>hc (by simp[z])) e⟩) (fun _ _ _ _ n=>n)
  (fun b o hc e=>⟨o,k b o (fun z=>hc (by simp[z])) e⟩) (fun _ _ e=>e) (fun _ _ _ e=>e) (fun b ps e=>⟨#[],by rw[e];simp⟩) (fun m hm=>?_) (fun b u e=>?_) I.bare
 ·have e:b=it:=by simpa using hb
  subst e
  exact⟨h1,hL,h2,h3⟩
 ·obtain⟨o,es,ep,ho,r⟩:=hm
  exact⟨o,es,ep,k _ o (Oi hL) ho,r⟩
 refine(I.hok b u e).gI (fun c v hc q=>k c v ?_ q) (fun _ q=>q) fun _ _ q=>q
 rcases hc with z | z
 ·rw[z];exact nit b u e
 exact nit c _ z
theorem Inv.tok (I:Inv X pins σ H s)(t:Nat):Inv X pins σ H { s with toks:=t }:=I.un (h':=s.heap) (t':=t) Un.refl I.hok
theorem Inv.kept {t':Nat}(I:Inv X pins σ H s)(k:∀ b u,s.heap.get? b=some u->h'.get? b=some u):Inv X pins σ H { s with heap:=h',toks:=t' }:=I.un (Un.kept k) (I.hok.kept k)
theorem Inv.laid {a:M9}{o:HO}{t':Nat}(I:Inv X pins σ H s)(k:∀ b u,s.heap.get? b=some u->h'.get? b=some u)(hp:s.heap.objs.size<=a)(new:bj X.prog X.w (upd H a o) h' a o) :
  Inv X pins σ (upd H a o) { s with heap:=h',toks:=t' }:=I.un (Un.laid k hp (I.hok.fresh hp)) (I.hok.laid k hp new)
theorem Inv.write {x e:M9}{o:HO}{t':Nat}(I:Inv X pins σ H s)(mu:Mut (H x))(he:e=x\/H e=some (.own x))(k:∀ b u,b≠e->s.heap.get? b=some u->h'.get? b=some u)(heo:∃ u,h'.get? e=some u)
  (new:bj X.prog X.w (upd H x o) h' x o):Inv X pins σ (upd H x o) { s with heap:=h',toks:=t' }:=I.un (Un.write mu he k heo) (I.hok.write mu he k heo new)
theorem Inv.vh {pins':List (M9 × Obj)}(I:Inv X pins σ H s)(h:∀ p∈pins',s.heap.get? p.1=some p.2/\H p.1=none/\p.1≠X.env.locals/\p.1 ∉ X.fs/\∀ v,p.2.data≠.cell v):Inv X pins' σ H s:=
 ⟨I.ok,I.os,I.bare,I.base,I.loc,I.cell,I.free,I.freeC,fun p hp=>(D_.mp hp).elim (fun z=>I.pin p (IG _ z)) (h p),I.hok,I.len⟩
theorem qZ{N:List Str}(hN:N.Nodup){i j:Nat}{x:Str}(a:N[i]?=some x)(b:N[j]?=some x):i=j:=by
 obtain⟨h1,e1⟩:=c_.mp a
 obtain⟨h2,e2⟩:=c_.mp b
 exact(List.getElem_inj hN).mp (e1.trans e2.symm)
theorem jq{M:Pf}{A:Nw}{E:M7->M_->Prop}{i:Nat}{x:Str}{v:V}{u:M7}{Q:Unit->M_->Prop}(I:Inv X pins σ H s)(hN:X.N.Nodup)(hi:X.N[i]?=some x)(hx:Loc X.env.scope x)(r:RelV v u)
  (h:∀ s',Inv X pins (σ.set i (some v)) H s'->(∃ a,NX a s.heap s'.heap/\(a=X.env.locals\/X.env.cells.lookup x=some a))->Q () s') (hf:X.fn x=true\/X.env.scope.names.lookup x=some .local:=by first | exact .inl rfl | exact .inr rfl | assumption):Nb M A (Tt X.env x u) Q E s:=by
 obtain⟨m,hn,hl⟩:=id I.loc
 have hcls:(X.env.scope.kind == .class || (X.env.scope.kind == .module && X.env.locals != X.env.globals))=false:=by rw[I.ok.kind];rfl
 have hiσ:i < σ.length:=by rw[I.len];exact(c_.mp hi).1
 have cne:=I.cne
 have tracked:∀ {a:M9} {h':Nr},(∃ o,s.heap.get? a=some o/\H a=none)->NX a s.heap h'->HOk X.prog X.w H h':=fun{a h'} ha hs b ob e=>by
  obtain⟨_,_,hfree⟩:=ha
  refine(I.hok b ob e).gI (fun c w' hc q=>(hs.2 c ?_).trans q) (fun _ q=>q) fun _ _ q=>q
  rintro rfl
  rcases hc with rfl | hc
  ·rw[hfree]at e;cases e
  rw[hfree]at hc;cases hc
 rcases hx with hk | hk
 ·refine wpAny_storeName_local hk hn (fun h' hn' hs=>?_) hcls
  obtain⟨oL,_,_,hoL,_⟩:=id hn
  refine h _ ⟨I.ok,I.os,I.bare,⟨fun b o e n hb hx=>?_,fun b o e n hb hx=>?_,I.base.free,fun b o e hx=>?_,I.base.tups,I.base.frzs,I.base.tbls⟩,⟨_,hn',fun j y v' e1 e2 e3=>?_⟩,fun y c e=>?_,I.free,I.freeC,fun p hp=>?_,tracked ⟨oL,hoL,I.free⟩ hs,by simpa using I.len⟩ ⟨_,hs,.inl rfl⟩
  ·exact(hs.2 b (q_ (x_ (Ng e) I.ok.above))).trans (I.base.keep b o e n hb hx)
  ·obtain⟨sl,e1⟩:=I.base.slot b o e n hb hx
   exact⟨sl,(hs.2 b (q_ (x_ (Ng e) I.ok.above))).trans e1⟩
  ·obtain⟨o',e1⟩:=I.base.there b o e hx
   exact⟨o',(hs.2 b (q_ (x_ (Ng e) I.ok.above))).trans e1⟩
  ·by_cases hj:j=i
   ·subst hj
    rw[hi]at e1;cases e1
    rw[Jq hiσ]at e2
    cases e2
    exact⟨u,r,.inl ⟨hk,by simp⟩⟩
   rw[Jw (Oi hj)]at e2
   obtain⟨u',r',q⟩:=hl j y v' e1 e2 e3
   refine⟨u',r',?_⟩
   rcases q with⟨k,e⟩ | ⟨k,c,e,z⟩
   ·refine .inl ⟨k,?_⟩
    have:y≠x:=fun e=>hj (qZ hN e1 (e ▸ hi))
    simp[this,e]
   exact .inr ⟨k,c,e,z.sameBut hs (cne y c e)⟩
  ·obtain⟨w',z⟩:=I.cell y c e
   exact⟨w',z.sameBut hs (cne y c e)⟩
  obtain⟨e,n,ne,nf,d⟩:=I.pin p hp
  exact⟨(hs.2 p.1 ne).trans e,n,ne,nf,d⟩
 have hfn:X.fn x=true:=by
  rcases hf with z | z
  ·exact z
  rw[z]at hk;cases hk
 obtain⟨c,hc⟩:=I.ok.has x (.inl hk)
 obtain⟨w',z⟩:=I.cell x c hc
 refine wpAny_storeName_cell I.ok.kind hk hc z (fun h' hc' hs=>?_)
 obtain⟨oc,hoc,hocd⟩:=id z
 refine h { s with heap:=h' } ⟨I.ok,I.os,I.bare,⟨fun b o e n hb hx=>?_,fun b o e n hb hx=>?_,I.base.free,fun b o e hx=>?_,I.base.tups,I.base.frzs,I.base.tbls⟩,⟨m,hn.sameBut hs (Oi (cne x c hc)),fun j y v' e1 e2 e3=>?_⟩,fun y c' e=>?_,I.free,I.freeC,fun p hp=>?_,tracked ⟨oc,hoc,I.freeC x c hc⟩ hs,by simpa using I.len⟩ ⟨c,hs,.inr hc⟩
 ·exact(hs.2 b (q_ (x_ (Ng e) (I.ok.cab x c hfn hc)))).trans (I.base.keep b o e n hb hx)
 ·obtain⟨sl,e1⟩:=I.base.slot b o e n hb hx
  exact⟨sl,(hs.2 b (q_ (x_ (Ng e) (I.ok.cab x c hfn hc)))).trans e1⟩
 ·obtain⟨o',e1⟩:=I.base.there b o e hx
  exact⟨o',(hs.2 b (q_ (x_ (Ng e) (I.ok.cab x c hfn hc)))).trans e1⟩
 ·by_cases hj:j=i
  ·subst hj
   rw[hi]at e1;cases e1
   rw[Jq hiσ]at e2
   cases e2
   exact⟨u,r,.inr ⟨.inl hk,c,hc,hc'⟩⟩
  rw[Jw (Oi hj)]at e2
  obtain⟨u',r',q⟩:=hl j y v' e1 e2 e3
  refine⟨u',r',?_⟩
  rcases q with q | ⟨k,c',e,z'⟩
  ·exact .inl q
  refine .inr ⟨k,c',e,z'.sameBut hs ?_⟩
  rintro rfl
  exact hj (qZ hN e1 (I.ok.inj _ _ _ e hc ▸ hi))
 ·by_cases hcc:c'=c
  ·subst hcc;exact⟨_,hc'⟩
  obtain⟨w2,z2⟩:=I.cell y c' e
  exact⟨w2,z2.sameBut hs hcc⟩
 obtain⟨e,n,ne,nf,d⟩:=I.pin p hp
 refine⟨(hs.2 p.1 ?_).trans e,n,ne,nf,d⟩
 intro q
 rw[q,hoc]at e
 have q':oc=p.2:=v_ e
 exact d w' (by rw[<-q'];exact hocd)
theorem dN{M:Pf}{A:Nw}{E:M7->M_->Prop}{i:Nat}{x:Str}{v:V}{u:M7}{Q:Unit->M_->Prop}(I:Inv X pins σ H s)(hN:X.N.Nodup)(hi:X.N[i]?=some x)(hx:Loc X.env.scope x)(r:RelV v u)
  (h:∀ s',Inv X pins (σ.set i (some v)) H s'->Q () s') (hf:X.fn x=true\/X.env.scope.names.lookup x=some .local:=by first | exact .inl rfl | exact .inr rfl | assumption):Nb M A (Tt X.env x u) Q E s:=
 jq I hN hi hx r (fun s' I' _=>h s' I') hf
theorem Inv.zM {s':M_}{ch:List M9}(I:Inv X pins σ H s)(ho:s'.os=s.os)(u:Un (frs X.stack) ch H H' s.heap s'.heap)(hok:HOk X.prog X.w H' s'.heap)(hg:Qc s'.gens)
  (hch:∀ b∈ch,(b∈X.ex\/X.s₀.heap.objs.size<=b)/\b≠X.env.locals/\(∀ x c,X.env.cells.lookup x=some c->c≠b)/\∀ p∈X.pn++pins,p.1≠b):Inv X pins σ H' s':=by
 obtain⟨h',g',d',t',o'⟩:=s'
 have e:o'=s.os:=ho
 subst e
 exact I.call (g':=g') (t':=t') (d':=d') u hok hg hch
end
abbrev XK:=M7->Option M9->Hp->Prop
abbrev St:=List (Option V)
abbrev VK:=V->Hp->Prop
abbrev TE:=St->Hp->VK->Prop
abbrev TT:=St->Hp->(Bool->Hp->Prop)->Prop
abbrev TA:=St->Hp->(List V->Hp->Prop)->Prop
structure Ends where
 nx:St->Hp->Prop
 rt:VK
 bk:St->Hp->Prop:=fun _ _=>False
 ct:St->Hp->Prop:=fun _ _=>False
abbrev TS:=Ends->St->Hp->Prop
def EP(X:Cx)(pins:List (M9 × Obj))(σ:St)(Q:VK)(u:M7)(s':M_):Prop:=∃ v H',Inv X pins σ H' s'/\RelV v u/\Q v H'
def TP(X:Cx)(pins:List (M9 × Obj))(σ:St)(Q:Bool->Hp->Prop)(b:Bool)(s':M_):Prop:=∃ H',Inv X pins σ H' s'/\Q b H'
noncomputable def AP(X:Cx)(pins:List (M9 × Obj))(σ:St)(Q:List V->Hp->Prop)(us:List M7)(s':M_):Prop:=∃ vs H',Inv X pins σ H' s'/\Vals vs us/\Q vs H'
noncomputable def SP(X:Cx)(pins:List (M9 × Obj))(D:Ends)(f:Flow)(s':M_):Prop:=
 match f with
 | .next=>∃ σ' H',Inv X pins σ' H' s'/\D.nx σ' H'
 | .brk=>∃ σ' H',Inv X pins σ' H' s'/\D.bk σ' H'
 | .cont=>∃ σ' H',Inv X pins σ' H' s'/\D.ct σ' H'
 | .ret u=>∃ v σ' H',Inv X pins σ' H' s'/\RelV v u/\D.rt v H'
noncomputable def PE(X:Cx)(e:Nn)(t:TE):Prop:=
 ∀(pins:List (M9 × Obj)) (s:M_) (σ:St) (H:Hp) (Q:VK),Inv X pins σ H s->t σ H Q->Nb (Ni X.prog X.w) X.A (NA e X.env) (EP X pins σ Q) X.xe s
noncomputable def PT(X:Cx)(e:Nn)(t:TT):Prop:=
 ∀(pins:List (M9 × Obj)) (s:M_) (σ:St) (H:Hp) (Q:Bool->Hp->Prop),Inv X pins σ H s->t σ H Q->Nb (Ni X.prog X.w) X.A (Rj e X.env (NA e X.env)) (TP X pins σ Q) X.xe s
noncomputable def PW(X:Cx)(e:Nn)(t:TT):Prop:=
 ∀(whole:Sem M7) (pins:List (M9 × Obj)) (s:M_) (σ:St) (H:Hp) (Q:Bool->Hp->Prop),Inv X pins σ H s->t σ H Q->Nb (Ni X.prog X.w) X.A (Rj e X.env whole) (TP X pins σ Q) X.xe s
theorem PW.pt {X:Cx}{e:Nn}{t:TT}(h:PW X e t):PT X e t:=h _
noncomputable def PA(X:Cx)(es:List Nn)(t:TA):Prop:=
 ∀(pos:Pos) (pins:List (M9 × Obj)) (s:M_) (σ:St) (H:Hp) (Q:List V->Hp->Prop),Inv X pins σ H s->t σ H Q->Nb (Ni X.prog X.w) X.A (spliced (O1 pos (Np es X.env))) (AP X pins σ Q) X.xe s
noncomputable def PS(X:Cx)(st:NN)(t:TS):Prop:=
 ∀(pins:List (M9 × Obj)) (s:M_) (σ:St) (H:Hp) (D:Ends),Inv X pins σ H s->t D σ H->Nb (Ni X.prog X.w) X.A (exec st X.env) (SP X pins D) X.xe s
noncomputable def PSs(X:Cx)(st:List NN)(t:TS):Prop:=
 ∀(pins:List (M9 × Obj)) (s:M_) (σ:St) (H:Hp) (D:Ends),Inv X pins σ H s->t D σ H->Nb (Ni X.prog X.w) X.A (execs st X.env) (SP X pins D) X.xe s
theorem thn{α:Type}{t:Sem α}{Q Q':α->M_->Prop}{M:Pf}{A:Nw}{E:M7->M_->Prop}{s:M_}(h:Nb M A t Q E s)(hQ:∀ a s,Q a s->Q' a s):Nb M A t Q' E s:=Nz h hQ fun _ _ x=>x
section
variable{X:Cx}
def AQ(i:Nat):TE:=fun σ H Q=>∃ v,σ[i]?=some (some v)/\Q v H
def tC(v:V):TE:=fun _ H Q=>Q v H
theorem cU{i:Nat}{x:Str}{pos:Pos}(hN:X.N[i]?=some x)(hv:Vis X.env.scope x)(hd:(x ==("__debug__":Str))=false:=by decide)(hcd:(x ==("__classdict__":Str))=false:=by decide):PE X (.Name x pos) (AQ i):=by
 intro pins s σ H Q I h
 obtain⟨v,e,h⟩:=h
 obtain⟨m,hn,hl⟩:=I.loc
 obtain⟨u,r,l⟩:=hl i x v hN e hv
 have fin:EP X pins σ Q u s:=⟨v,H,I,r,h⟩
 rcases l with⟨hk,hm⟩ | ⟨hk,c,hc,hcell⟩
 ·exact SH (Rx I.ok.kind hk hn hm fin) hd
 rcases hk with hk | hk
 ·exact SH (RP I.ok.kind hk hc hcell fin) hd
 exact SH (wpAny_loadName_free I.ok.kind hk hc hcell fin hcd) hd
theorem bp{i j pos}:PE X (.Constant (.int i) j pos) (tC (.int i)):=fun _ _ _ H _ I h=>RU ⟨.int i,H,I.tok _,⟨_,rfl⟩,h⟩
theorem x8{b j pos}:PE X (.Constant (.bool b) j pos) (tC (.bl b)):=fun _ _ _ H _ I h=>Constant_bool ⟨.bl b,H,I,rfl,h⟩
theorem Ee{j pos}:PE X (.Constant .none j pos) (tC .non):=fun _ _ _ H _ I h=>TH ⟨.non,H,I,rfl,h⟩
theorem fP{x j pos}:PE X (.Constant (.str x) j pos) (tC (.str x)):=fun _ _ _ H _ I h=>Calls.Constant_str ⟨.str x,H,I.tok _,⟨_,rfl⟩,h⟩
def Gl(X:Cx)(x:Str):Prop:=X.env.kindOf x=some .globalImplicit
theorem B5{E:M7->M_->Prop}{pins:List (M9 × Obj)}{s:M_}{σ:St}{H:Hp}{x:Str}{u:M7}{pos:Pos}{Q:M7->M_->Prop}(I:Inv X pins σ H s)(hg:Gl X x)(hm:X.mg x=some u)(h:Q u s)
  (hd:(x ==("__debug__":Str))=false:=by decide):Nb (Ni X.prog X.w) X.A (NA (.Name x pos) X.env) Q E s:=
 Qv I.ok.kind hg (Calls.loadGlobal_global (by rw[I.ok.glob];exact I.mod.glob.keeps I.bk) hm h) hd
theorem bT{E:M7->M_->Prop}{pins:List (M9 × Obj)}{s:M_}{σ:St}{H:Hp}{x:Str}{u:M7}{pos:Pos}{Q:M7->M_->Prop}(I:Inv X pins σ H s)(hg:Gl X x)(hm:X.mg x=none)(hv:O0 x=some u)(h:Q u s)
  (hn:x≠"__name__":=by decide) (hd:(x ==("__debug__":Str))=false:=by decide):Nb (Ni X.prog X.w) X.A (NA (.Name x pos) X.env) Q E s:=by
 obtain⟨mb,h1,h2⟩:=I.mod.blt
 exact Qv I.ok.kind hg (Calls.loadGlobal_builtin (by rw[I.ok.glob];exact I.mod.glob.keeps I.bk) hm (by rw[I.ok.blt];exact h1.keeps I.bk) ((h2 x hn).trans hv) h) hd
theorem cc{x:Str}{v:V}{u:M7}{pos:Pos}(hg:Gl X x)(hm:X.mg x=none)(hv:O0 x=some u)(r:RelV v u)(hn:x≠"__name__":=by decide)(hd:(x ==("__debug__":Str))=false:=by decide):PE X (.Name x pos) (tC v):=
 fun _ _ _ H _ I h=>bT I hg hm hv ⟨v,H,I,r,h⟩ hn hd
variable{a b:Nn}{ta tb:TE}{pos:Pos}
noncomputable def PC(X:Cx)(op:Q5)(a b:Nn)(t:TE):Prop:=
 ∀(pins:List (M9 × Obj)) (s:M_) (σ:St) (H:Hp) (Q:VK),Inv X pins σ H s->t σ H Q->
  Nb (Ni X.prog X.w) X.A (NA a X.env) (fun v s₁=>Nb (Ni X.prog X.w) X.A (NA b X.env) (fun u s₂=>Nb (Ni X.prog X.w) X.A (NP op v u) (EP X pins σ Q) X.xe s₂) X.xe s₁) X.xe s
theorem rF(b:Nn){op:Q5}(h:op≠.In)(h2:op≠.NotIn):Ov op b=false:=by
 have e1:(op == VC)=false:=by cases op <;> first | rfl | exact absurd rfl h
 have e2:(op == U0)=false:=by cases op <;> first | rfl | exact absurd rfl h2
 cases b <;> simp[Ov,e1,e2]
def Io(ta:TE):TE:=fun σ H Q=>ta σ H fun x H1=>Q (.bl (decide (x=.non))) H1
theorem RelV.xi {x:V}{v:M7}(r:RelV x v):(v == NR)=decide (x=.non):=by
 cases x with
 | non=>cases r;rfl
 | bl _=>cases r;rfl
 | int _=>obtain⟨t,rfl⟩:=r;rfl
 | str _=>obtain⟨t,rfl⟩:=r;rfl
 | byt _=>obtain⟨t,rfl⟩:=r;rfl
 | flt _=>obtain⟨t,rfl⟩:=r;rfl
 | ref _=>cases r;rfl
 | ty _=>cases r;rfl
theorem yD{j pos'}(ha:PE X a ta):PC X .Is a (.Constant .none j pos') (Io ta):=by
 intro pins s σ H Q I h
 refine thn (ha pins s σ H _ I h) ?_
 rintro v s1 ⟨x,H1,I1,r1,q1⟩
 exact TH (is_none_gen ⟨.bl _,H1,I1,by rw[r1.xi];rfl,q1⟩)
def tB(t:TE):TT:=fun σ H Q=>t σ H fun x H1=>∃ c,x=.bl c/\Q c H1
theorem EZ{op:Q5}{t:TE}(h:PC X op a b t)(h1:Ov op b=false:=by first | exact rF _ (by decide) (by decide) | rfl):PE X (.Compare a [op] [b] pos) t:=fun pins s σ H Q I hw=>Ta (h pins s σ H Q I hw) h1
theorem DG{op:Q5}{t:TE}(h:PC X op a b t)(h1:Ov op b=false:=by first | exact rF _ (by decide) (by decide) | rfl):PT X (.Compare a [op] [b] pos) (tB t):=by
 intro pins s σ H Q I hw
 refine Rk (thn (h pins s σ H _ I hw) fun v s1 h1=>thn h1 fun u s2 h2=>thn h2 fun c s3 ⟨x,H1,I1,r1,q1⟩=>?_) h1
 obtain⟨d,rfl,q⟩:=q1
 cases r1
 exact Oe ⟨H1,I1,q⟩
theorem oU{e:Nn}{t:TE}(h:PE X e t)(he:∀ whole,Rj e X.env whole=(do let v <-whole;R5 e.pos;Pt [v] (Ul v)):=by intro _;rfl):PT X e (tB t):=by
 intro pins s σ H Q I hw
 refine Um (thn (h pins s σ H _ I hw) fun v s1 ⟨x,H1,I1,r1,q1⟩=>?_) (he _)
 obtain⟨d,rfl,q⟩:=q1
 cases r1
 exact Oe ⟨H1,I1,q⟩
variable{tA tB':TT}{rest:List Nn}
def HM(t u:TT):TT:=fun σ H Q=>t σ H fun c H1=>if c=true then u σ H1 Q else Q false H1
def tOr(t u:TT):TT:=fun σ H Q=>t σ H fun c H1=>if c=true then Q true H1 else u σ H1 Q
def Iy(t:TT):TT:=fun σ H Q=>t σ H fun c H1=>Q (!c) H1
theorem Bu(ha:PT X a tA):PW X (.BoolOp .And [a] pos) tA:=by
 intro wh pins s σ H Q I h
 refine isTrue_and (thn (ha pins s σ H Q I h) fun c s1 e=>?_)
 cases c with
 | true=>exact isTrue_and_nil e
 | false=>exact e
theorem sV(ha:PT X a tA):PW X (.BoolOp .Or [a] pos) tA:=by
 intro wh pins s σ H Q I h
 refine isTrue_or (thn (ha pins s σ H Q I h) fun c s1 e=>?_)
 cases c with
 | false=>exact isTrue_or_nil e
 | true=>exact e
theorem DU(ha:PT X a tA)(hb:PW X (.BoolOp .And (b::rest) pos) tB'):PW X (.BoolOp .And (a::b::rest) pos) (HM tA tB'):=by
 intro wh pins s σ H Q I h
 refine isTrue_and (thn (ha pins s σ H _ I h) ?_)
 rintro c s1 ⟨H1,I1,q1⟩
 cases c with
 | true=>exact hb wh pins s1 σ H1 Q I1 q1
 | false=>exact⟨H1,I1,q1⟩
theorem xV(ha:PT X a tA)(hb:PW X (.BoolOp .Or (b::rest) pos) tB'):PW X (.BoolOp .Or (a::b::rest) pos) (tOr tA tB'):=by
 intro wh pins s σ H Q I h
 refine isTrue_or (thn (ha pins s σ H _ I h) ?_)
 rintro c s1 ⟨H1,I1,q1⟩
 cases c with
 | true=>exact⟨H1,I1,q1⟩
 | false=>exact hb wh pins s1 σ H1 Q I1 q1
theorem EL(ha:PT X a tA):PT X (.UnaryOp .Not a pos) (Iy tA):=by
 intro pins s σ H Q I h
 exact isTrue_not (ha pins s σ H (fun c H1=>Q (!c) H1) I h)
def Hk(ta tb:TE):TE:=fun σ H Q=>ta σ H fun x H1=>∃ c,x=.bl c/\if c=true then tb σ H1 Q else Q (.bl false) H1
def Ge(ta:TE):TE:=fun σ H Q=>ta σ H fun x H1=>∃ c,x=.bl c/\Q (.bl (!c)) H1
theorem sR{op}{t:TE}(h:PE X a t):PE X (.BoolOp op [a] pos) t:=fun pins s σ H Q I hw=>BoolOp_one (h pins s σ H Q I hw)
theorem pI(ha:PE X a ta)(hb:PE X (.BoolOp .And (b::rest) pos) tb):PE X (.BoolOp .And (a::b::rest) pos) (Hk ta tb):=by
 intro pins s σ H Q I h
 refine BoolOp_and (thn (ha pins s σ H _ I h) ?_)
 rintro v s1 ⟨x,H1,I1,r1,q1⟩
 obtain⟨c,rfl,q1⟩:=q1
 cases r1
 refine Oe ?_
 cases c with
 | true=>exact hb pins s1 σ H1 Q I1 q1
 | false=>exact⟨.bl false,H1,I1,rfl,q1⟩
theorem Dq(ha:PE X a ta):PE X (.UnaryOp .Not a pos) (Ge ta):=by
 intro pins s σ H Q I h
 refine UnaryOp_ (thn (ha pins s σ H _ I h) ?_)
 rintro v s1 ⟨x,H1,I1,r1,q1⟩
 obtain⟨c,rfl,q1⟩:=q1
 cases r1
 exact not_of (Oe ⟨.bl (!c),H1,I1,rfl,q1⟩)
def tIf(t:TT)(ta tb:TE):TE:=fun σ H Q=>t σ H fun c H1=>if c=true then ta σ H1 Q else tb σ H1 Q
theorem zB{c:Nn}(hc:PT X c tA)(ha:PE X a ta)(hb:PE X b tb):PE X (.IfExp c a b pos) (tIf tA ta tb):=by
 intro pins s σ H Q I h
 refine wpAny_IfExp (thn (hc pins s σ H _ I h) ?_)
 rintro d s1 ⟨H1,I1,q1⟩
 cases d with
 | true=>exact ha pins s1 σ H1 Q I1 q1
 | false=>exact hb pins s1 σ H1 Q I1 q1
end
noncomputable def SqL(K:M8)(H:Hp)(a:M9)(xs:List V):Prop:=
 Rd H a (.lst xs)\/
  ∃(o:Obj) (its:Array M7) (n:Nat),K.lookup a=some o/\o.cls=.type "list"/\o.dict=none/\o.data=.seq its n/\its.size<=sizeLine/\Vals xs its.toList
noncomputable def SqT(K:M8)(H:Hp)(a:M9)(xs:List V):Prop:=
 Rd H a (.tup xs)\/
  ∃(o:Obj) (its:Array M7) (n:Nat),K.lookup a=some o/\o.cls=.type "tuple"/\o.data=.seq its n/\its.size<=sizeLine/\Vals xs its.toList
noncomputable def Ie:M7->Option V
 | .none=>some .non
 | .bool b=>some (.bl b)
 | .int i _=>some (.int i)
 | .str x _=>some (.str x)
 | .bytes b _=>some (.byt b)
 | .float b _=>some (.flt b)
 | .ref a=>some (.ref a)
 | .type n=>some (.ty n)
 | _=>none
theorem RelV.abs {x:V}{u:M7}(r:RelV x u):Ie u=some x:=by
 cases x with
 | non=>cases r;rfl
 | bl _=>cases r;rfl
 | int _=>obtain⟨t,rfl⟩:=r;rfl
 | str _=>obtain⟨t,rfl⟩:=r;rfl
 | byt _=>obtain⟨t,rfl⟩:=r;rfl
 | flt _=>obtain⟨t,rfl⟩:=r;rfl
 | ref _=>cases r;rfl
 | ty _=>cases r;rfl
theorem RelV.inj {x y:V}{u:M7}(r:RelV x u)(q:RelV y u):x=y:=v_ (r.abs.symm.trans q.abs)
theorem Vals.inj:∀ {xs ys:List V} {us:List M7},Vals xs us->Vals ys us->xs=ys
 | _,_,_,.nil,.nil=>rfl
 | _,_,_,.cons r t,.cons r' t'=>by rw[r.inj r',Vals.inj t t']
section
variable{X:Cx}{pins:List (M9 × Obj)}{σ:St}{H:Hp}{s:M_}{a:M9}{xs ys:List V}
theorem SqL.of {K:M8}(h:H a=some (.lst xs)):SqL K H a xs:=.inl (.inl h)
theorem SqT.of {K:M8}(h:H a=some (.tup xs)):SqT K H a xs:=.inl (.inl h)
theorem Inv.list (I:Inv X pins σ H s)(h:SqL X.K H a xs):∃ its:List M7,Vals xs its/\PlainL s.heap a its.toArray/\xs.length<=sizeLine:=by
 rcases h with h | ⟨o,its,n,hk,hc,hd,hs,hz,r⟩
 ·obtain⟨z,its,n,r,e⟩:=h.ok I.hok
  exact⟨its,r,⟨_,n,e,rfl,rfl,rfl⟩,z⟩
 refine⟨its.toList,r,⟨o,n,I.kIn a o hk,hc,hd,by simpa using hs⟩,?_⟩
 have e:=r.length
 simp only[gV]at e
 lia
theorem Inv.tuple (I:Inv X pins σ H s)(h:SqT X.K H a xs):∃ its:List M7,Vals xs its/\T6 s.heap a its.toArray/\xs.length<=sizeLine:=by
 rcases h with h | ⟨o,its,n,hk,hc,hs,hz,r⟩
 ·obtain⟨z,its,r,p⟩:=h.ok I.hok
  exact⟨its,r,p,z⟩
 refine⟨its.toList,r,⟨o,I.kIn a o hk,hc,n,by simpa using hs⟩,?_⟩
 have e:=r.length
 simp only[gV]at e
 lia
theorem Inv.kU (I:Inv X pins σ H s)(h:SqL X.K H a xs)(h':SqL X.K H a ys):xs=ys:=by
 obtain⟨its,r,⟨o,n,e,_,_,d⟩,_⟩:=I.list h
 obtain⟨its',r',⟨o',n',e',_,_,d'⟩,_⟩:=I.list h'
 rw[e]at e';cases e'
 rw[d]at d'
 injection d' with d1 _
 have:its=its':=by simpa using congrArg MR d1
 subst this
 exact r.inj r'
theorem Inv.iX (I:Inv X pins σ H s)(h:SqT X.K H a xs)(h':SqT X.K H a ys):xs=ys:=by
 obtain⟨its,r,⟨o,e,_,n,d⟩,_⟩:=I.tuple h
 obtain⟨its',r',⟨o',e',_,n',d'⟩,_⟩:=I.tuple h'
 rw[e]at e';cases e'
 rw[d]at d'
 injection d' with d1 _
 have:its=its':=by simpa using congrArg MR d1
 subst this
 exact r.inj r'
end
abbrev Cx.mw (X:Cx)(E:M7->M_->Prop):Cx:={ X with xe:=E }
abbrev Cx.nox (X:Cx):Cx:=X.mw fun _ _=>False
theorem Cx.Ok.mw {X:Cx}(ok:X.Ok)(E:M7->M_->Prop):(X.mw E).Ok:=
 ⟨ok.mod,ok.kind,ok.glob,ok.blt,ok.above,ok.inj,ok.has,ok.cab,ok.hd,ok.frames,ok.stk,ok.exf,ok.bs,ok.bsz,ok.noex,ok.exfs,ok.lI,ok.frf⟩
theorem Cx.Ok.eC {X:Cx}{E:M7->M_->Prop}(ok:(X.mw E).Ok):X.Ok:=
 ⟨ok.mod,ok.kind,ok.glob,ok.blt,ok.above,ok.inj,ok.has,ok.cab,ok.hd,ok.frames,ok.stk,ok.exf,ok.bs,ok.bsz,ok.noex,ok.exfs,ok.lI,ok.frf⟩
section
variable{X:Cx}{pins:List (M9 × Obj)}{σ:St}{H:Hp}{s:M_}{E:M7->M_->Prop}
theorem Inv.mw (I:Inv X pins σ H s)(E:M7->M_->Prop):Inv (X.mw E) pins σ H s:=⟨I.ok.mw E,I.os,I.bare,I.base,I.loc,I.cell,I.free,I.freeC,I.pin,I.hok,I.len⟩
theorem Inv.eC (I:Inv (X.mw E) pins σ H s):Inv X pins σ H s:=⟨I.ok.eC,I.os,I.bare,I.base,I.loc,I.cell,I.free,I.freeC,I.pin,I.hok,I.len⟩
theorem SP.eC {D:Ends}{f:Flow}{s':M_}(h:SP (X.mw E) pins D f s'):SP X pins D f s':=by
 cases f with
 | next=>obtain⟨σ',H',I,q⟩:=h;exact⟨σ',H',I.eC,q⟩
 | brk=>obtain⟨σ',H',I,q⟩:=h;exact⟨σ',H',I.eC,q⟩
 | cont=>obtain⟨σ',H',I,q⟩:=h;exact⟨σ',H',I.eC,q⟩
 | ret u=>obtain⟨v,σ',H',I,r,q⟩:=h;exact⟨v,σ',H',I.eC,r,q⟩
theorem PSs.nox {st:List NN}{t:TS}(h:PSs X.nox st t):PSs X st t:=fun pins s σ H D I hw=>
 Nz (h pins s σ H D (I.mw _) hw) (fun _ _ q=>q.eC) fun _ _ z=>Nu z
end
section
variable{X:Cx}{st:NN}{rest:List NN}{t u:TS}{e:Nn}{te:TE}{pos:Pos}
def Hu:TS:=fun D σ H=>D.nx σ H
def HX(t u:TS):TS:=fun D σ H=>t { D with nx:=u D } σ H
theorem cB:PSs X [] Hu:=fun _ _ σ H _ I h=>Qd ⟨σ,H,I,h⟩
theorem aO(h1:PS X st t)(h2:PSs X rest u):PSs X (st::rest) (HX t u):=by
 intro pins s σ H D I h
 refine Ss (thn (h1 pins s σ H { D with nx:=u D } I h) fun f s1 q=>?_)
 cases f with
 | next=>
  obtain⟨σ',H',I',q⟩:=q
  exact h2 pins s1 σ' H' D I' q
 | ret v=>exact q
 | brk=>exact q
 | cont=>exact q
theorem bX(h1:PS X st t):PSs X [st] t:=by
 intro pins s σ H D I h
 refine Ss (thn (h1 pins s σ H D I h) fun f s1 q=>?_)
 cases f with
 | next=>exact Qd q
 | ret v=>exact q
 | brk=>exact q
 | cont=>exact q
theorem Inv.quiet {pins:List (M9 × Obj)}{σ:St}{H:Hp}{s:M_}(I:Inv X pins σ H s):U1 X.env=false:=by simp[U1,I.ok.kind]
def HC(te:TE):TS:=fun D σ H=>te σ H fun _ H1=>D.nx σ H1
theorem Be(he:PE X e te)(hs:Pa e none pos.line X.env=pure false:=by rfl):PS X (.Expr e pos) (HC te):=by
 intro pins s σ H D I h
 exact wpAny_Expr_any (thn (he pins s σ H _ I h) fun v s1 ⟨x,H1,I1,r1,q1⟩=>⟨σ,H1,I1,q1⟩) I.quiet hs
def IA(te:TE):TS:=fun D σ H=>te σ H D.rt
theorem cQ(he:PE X e te):PS X (.Return (some e) pos) (IA te):=by
 intro pins s σ H D I h
 exact wpAny_Return_some (thn (he pins s σ H _ I h) fun v s1 ⟨x,H1,I1,r1,q1⟩=>⟨x,σ,H1,I1,r1,q1⟩)
def HS(c:TT)(t u:TS):TS:=fun D σ H=>c σ H fun b H1=>if b=true then t D σ H1 else u D σ H1
theorem ib{c:Nn}{a b:List NN}{tc:TT}(hc:PT X c tc)(ha:PSs X a t)(hb:PSs X b u):PS X (.If c a b pos) (HS tc t u):=by
 intro pins s σ H D I h
 refine wpAny_If (thn (hc pins s σ H _ I h) ?_)
 rintro d s1 ⟨H1,I1,q1⟩
 cases d with
 | true=>exact ha pins s1 σ H1 D I1 q1
 | false=>exact hb pins s1 σ H1 D I1 q1
def DK:TS:=fun _ _ _=>False
theorem wQ{sts:List NN}:PSs X sts DK:=fun _ _ _ _ _ _ h=>h.elim
end
abbrev TG:=V->St->Hp->(St->Hp->Prop)->Prop
abbrev TGs:=List V->St->Hp->(St->Hp->Prop)->Prop
noncomputable def PG(X:Cx)(target:Nn)(t:TG):Prop:=
 ∀(pins:List (M9 × Obj)) (s:M_) (σ:St) (H:Hp) (v:V) (u:M7) (Q:St->Hp->Prop),Inv X pins σ H s->RelV v u->t v σ H Q->
  Nb (Ni X.prog X.w) X.A (Pn target X.env u) (fun _ s'=>∃ σ' H',Inv X pins σ' H' s'/\Q σ' H') X.xe s
noncomputable def PGs(X:Cx)(ts:List Nn)(t:TGs):Prop:=
 ∀(pins:List (M9 × Obj)) (s:M_) (σ:St) (H:Hp) (vs:List V) (us:List M7) (Q:St->Hp->Prop),Inv X pins σ H s->Vals vs us->t vs σ H Q->
  Nb (Ni X.prog X.w) X.A (RJ ((OC ts X.env).map (·.2)) us) (fun _ s'=>∃ σ' H',Inv X pins σ' H' s'/\Q σ' H') X.xe s
abbrev BF:=V->V->V->Hp->(Hp->Prop)->Prop
noncomputable def sA(X:Cx)(t:BF):Prop:=
 ∀(pins:List (M9 × Obj)) (s:M_) (σ:St) (H:Hp) (o i v:V) (ov iv u:M7) (Q:Hp->Prop),Inv X pins σ H s->RelV o ov->RelV i iv->RelV v u->t o i v H Q->
  Nb (Ni X.prog X.w) X.A (Tb ov iv u) (fun _ s'=>∃ H',Inv X pins σ H' s'/\Q H') X.xe s
abbrev TIp:=V->V->Hp->VK->Prop
noncomputable def PIp(X:Cx)(op:QP)(t:TIp):Prop:=
 ∀(pins:List (M9 × Obj)) (s:M_) (σ:St) (H:Hp) (x y:V) (v u:M7) (Q:VK),Inv X pins σ H s->RelV x v->RelV y u->t x y H Q->
  Nb (Ni X.prog X.w) X.A (inplaceOp op v u) (EP X pins σ Q) X.xe s
section
variable{X:Cx}{pos:Pos}
def r9(i:Nat):TG:=fun v σ H Q=>Q (σ.set i (some v)) H
theorem k9{i:Nat}{x:Str}(hN:X.N.Nodup)(hi:X.N[i]?=some x)(hx:Loc X.env.scope x)(hf:X.fn x=true\/X.env.scope.names.lookup x=some .local:=by first | exact .inl rfl | exact .inr rfl | assumption):PG X (.Name x pos) (r9 i):=by
 intro pins s σ H v u Q I r h
 exact QC (dN I hN hi hx r (fun s' I'=>⟨_,H,I',h⟩) hf)
def Ih:TGs:=fun vs σ H Q=>vs=[]/\Q σ H
def Gn(t:TG)(u:TGs):TGs:=fun vs σ H Q=>∃ v r,vs=v::r/\t v σ H fun σ' H'=>u r σ' H' Q
theorem nU:PGs X [] Ih:=by
 intro pins s σ H vs us Q I r h
 obtain⟨e,h⟩:=h
 subst e
 cases r
 exact R8 ⟨σ,H,I,h⟩
theorem dW{e:Nn}{es:List Nn}{t:TG}{u:TGs}(h1:PG X e t)(h2:PGs X es u)
  (hs:(OC (e::es) X.env).map (·.2)=Pn e X.env::(OC es X.env).map (·.2):=by rfl):PGs X (e::es) (Gn t u):=by
 intro pins s σ H vs us Q I r h
 obtain⟨v,vr,e1,h⟩:=h
 subst e1
 cases r with
 | cons r rr=>
  rw[hs]
  refine Qq (thn (h1 pins s σ H _ _ _ I r h) ?_)
  rintro _ s1 ⟨σ1,H1,I1,q1⟩
  exact h2 pins s1 σ1 H1 _ _ Q I1 rr q1
def HY(K:M8)(n:Nat)(t:TGs):TG:=fun v σ H Q=>∃ a xs,v=.ref a/\SqT K H a xs/\xs.length=n/\t xs σ H Q
theorem tD{es:List Nn}{k:Nat}{t:TGs}{n:Nat}(hc:X.calm=true)(h:PGs X es t)
  (hn:(OC es X.env).length=n:=by rfl) (hst:(OC es X.env).findIdx? (·.1)=none:=by rfl):PG X (.Tuple es k pos) (HY X.K n t):=by
 intro pins s σ H v u Q I r hw
 obtain⟨a,xs,e1,hq,hl,hw⟩:=hw
 subst e1
 cases r
 obtain⟨its,rv,ht,hz⟩:=I.tuple hq
 refine assign_Tuple_tuple (I.ok.hd hc) ht (by simp[hn,<-hl,rv.length]) hst fun h' hx=>?_
 have I1:Inv X pins σ H { s with heap:=h' }:=I.kept (t':=s.toks) fun b o e=>hx b o (q_ (Ng e)) e
 exact h pins _ σ H xs _ Q I1 (by simpa using rv) hw
def Iu(to ti:TE)(t:BF):TG:=fun v σ H Q=>to σ H fun o H1=>ti σ H1 fun i H2=>t o i v H2 fun H3=>Q σ H3
theorem yP{o i:Nn}{to ti:TE}{t:BF}(ho:PE X o to)(hi:PE X i ti)(hs:sA X t)
  (ha:∀ v,Pn (.Subscript o i pos) X.env v=(do
   let ov <-Pt [v] (NA o X.env)
   let iv <-Pt [v,ov] (NA i X.env)
   R5 pos
   Pt [v,ov,iv] (Tb ov iv v)
   release [v,ov,iv] []):=by intro _;rfl):PG X (.Subscript o i pos) (Iu to ti t):=by
 intro pins s σ H v u Q I r h
 rw[ha]
 refine M6 (Ny (thn (ho pins s σ H _ I h) ?_))
 rintro ov s1 ⟨x,H1,I1,r1,q1⟩
 refine M6 (Ny (thn (hi pins s1 σ H1 _ I1 q1) ?_))
 rintro iv s2 ⟨y,H2,I2,r2,q2⟩
 refine M6 (ON (M6 (Ny (thn (hs pins s2 σ H2 x y v ov iv u _ I2 r1 r2 r q2) ?_))))
 rintro _ s3 ⟨H3,I3,q3⟩
 exact wpAny_release ⟨σ,H3,I3,q3⟩
def zl(te:TE)(g:TG):TS:=fun D σ H=>te σ H fun x H1=>g x σ H1 D.nx
theorem zt{tg e:Nn}{te:TE}{g:TG}(he:PE X e te)(hg:PG X tg g)(hs:Qw [tg] e pos.line X.env=pure false:=by rfl)(hw:Qx [tg] e X.env=pure none:=by rfl)
  (h1:(OC [tg] X.env).map (·.2)=[Pn tg X.env]:=by rfl):PS X (.Assign [tg] e pos) (zl te g):=by
 intro pins s σ H D I h
 refine wpAny_Assign_stores (thn (he pins s σ H _ I h) fun v s1 ⟨x,H1,I1,r1,q1⟩=>?_) hs hw
 rw[h1]
 exact thn (hg pins s1 σ H1 x v _ I1 r1 q1) fun _ s2 q=>q
theorem e7{i:Nat}{x:Str}{e:Nn}{te:TE}{pos':Pos}(hN:X.N.Nodup)(hi:X.N[i]?=some x)(hx:Loc X.env.scope x)(he:PE X e te)(hs:Pa e (some (.Name x pos')) pos.line X.env=pure false:=by rfl)(hf:X.fn x=true\/X.env.scope.names.lookup x=some .local:=by first | exact .inl rfl | exact .inr rfl | assumption) :
  PS X (.Assign [.Name x pos'] e pos) (zl te (r9 i)):=by
 intro pins s σ H D I h
 refine wpAny_Assign_Name (thn (he pins s σ H _ I h) fun v s1 ⟨y,H1,I1,r1,q1⟩=>?_) hs
 exact dN I1 hN hi hx r1 (fun s2 I2=>⟨_,H1,I2,q1⟩) hf
def Ig(i j:Nat)(ta:TA):TS:=fun D σ H=>ta σ H fun vs H1=>∃ v w,vs=[v,w]/\D.nx ((σ.set i (some v)).set j (some w)) H1
theorem Fw{i j:Nat}{x y:Str}{a b:Nn}{ta:TA}{px py pt:Pos}{kt k2 pt2}(hc:X.calm=true)(hN:X.N.Nodup)(hi:X.N[i]?=some x)(hj:X.N[j]?=some y)(hij:i≠j)
  (hx:X.env.scope.names.lookup x=some .local) (hy:X.env.scope.names.lookup y=some .local) (ha:PA X [a,b] ta)
  (hw:Qx [.Tuple [.Name x px,.Name y py] kt pt] (.Tuple [a,b] k2 pt2) X.env=pure (some [x,y]))
  (hs:Qw [.Tuple [.Name x px,.Name y py] kt pt] (.Tuple [a,b] k2 pt2) pos.line X.env=pure false:=by rfl) :
  PS X (.Assign [.Tuple [.Name x px,.Name y py] kt pt] (.Tuple [a,b] k2 pt2) pos) (Ig i j ta):=by
 intro pins s σ H D I h
 rw[exec_Assign_arm]
 refine M6 (ON ?_)
 rw[hs]
 refine M6 (M' ?_)
 rw[if_neg (by decide)]
 refine M6 (Tuple_ (thn (ha _ pins s σ H _ I h) ?_))
 rintro us s1 ⟨vs,H1,I1,r1,q1⟩
 obtain⟨v,w,e1,q1⟩:=q1
 subst e1
 obtain⟨u1,u2,rfl,rv,rw'⟩:∃ u1 u2,us=[u1,u2]/\RelV v u1/\RelV w u2:=by
  cases r1 with
  | cons p q=>
   cases q with
   | cons p' q'=>
    cases q'
    exact⟨_,_,rfl,p,p'⟩
 refine ND ?_ (by show 2<=sizeLine;decide)
 have I2:Inv X pins σ H1 { s1 with heap:=s1.heap.push { cls:=.type "tuple",data:=.seq [u1,u2].toArray } }:=I1.kept (t':=s1.toks) fun b o e=>Na _ e
 rw[hw]
 refine M6 (M' ?_)
 show Nb (Ni X.prog X.w) X.A (do rule "assign.swapped-stores";let items <-unpackItems (.ref s1.heap.objs.size) 2 none;RJ [fun v=>Su X.env y v,fun v=>Su X.env x v] items.reverse;pure Vo) _ _ _
 refine M6 (OD (M6 (unpackItems_tuple (items:=#[u1,u2]) (I.ok.hd hc) (Tu s1.heap _) fun h' hx'=>?_)))
 have I3:=I2.kept (h':=h') (t':=s1.toks) fun b o e=>hx' b o (q_ (Ng e)) e
 show Nb _ _ (RJ [fun v=>Su X.env y v,fun v=>Su X.env x v] [u2,u1] >>= fun _=>pure Vo) _ _ _
 refine M6 (Qq (Tc (dN I3 hN hj (.inl hy) rw' (fun s2 I4=>?_) (.inr hy))))
 refine Qq (Tc (dN I4 hN hi (.inl hx) rv (fun s3 I5=>R8 (M' ?_)) (.inr hx)))
 rw[List.set_comm _ _ (Oi hij)]at I5
 exact⟨_,H1,I5,q1⟩
noncomputable def HN(i:Nat)(te:TE)(ti:TIp):TS:=fun D σ H=>∃ x,σ[i]?=some (some x)/\te σ H fun y H1=>ti x y H1 fun z H2=>D.nx (σ.set i (some z)) H2
theorem ER{i:Nat}{x:Str}{e:Nn}{te:TE}{op:QP}{ti:TIp}{pos':Pos}(hN:X.N.Nodup)(hi:X.N[i]?=some x)(hx:Loc X.env.scope x)(he:PE X e te)(ho:PIp X op ti)(hf:X.fn x=true\/X.env.scope.names.lookup x=some .local:=by first | exact .inl rfl | exact .inr rfl | assumption) :
  PS X (.AugAssign (.Name x pos') op e pos) (HN i te ti):=by
 intro pins s σ H D I h
 obtain⟨v,e1,h⟩:=h
 obtain⟨m,hn,hl⟩:=I.loc
 have vis:Vis X.env.scope x:=by rcases hx with k | k;exact .inl k;exact .inr (.inl k)
 obtain⟨u,r,l⟩:=hl i x v hi e1 vis
 refine wpAny_AugAssign_Name ?_
 have go:Nb (Ni X.prog X.w) X.A (NA e X.env) (fun w s₂=>Nb (Ni X.prog X.w) X.A (inplaceOp op u w) (fun r s₃=>Nb (Ni X.prog X.w) X.A (Tt X.env x r) (fun _=>SP X pins D .next) X.xe s₃) X.xe s₂) X.xe s:=by
  refine thn (he pins s σ H _ I h) ?_
  rintro w s1 ⟨y,H1,I1,r1,q1⟩
  refine thn (ho pins s1 σ H1 v y u w _ I1 r r1 q1) ?_
  rintro z s2 ⟨zv,H2,I2,r2,q2⟩
  exact dN I2 hN hi hx r2 (fun s3 I3=>⟨_,H2,I3,q2⟩) hf
 rcases l with⟨hk,hm⟩ | ⟨hk,c,hc,hcell⟩
 ·exact Rx I.ok.kind hk hn hm go
 rcases hk with hk | hk
 ·exact RP I.ok.kind hk hc hcell go
 rcases hx with k | k
 ·have:X.env.scope.names.lookup x=some .free:=hk
  rw[k]at this;cases this
 have:X.env.scope.names.lookup x=some .free:=hk
 rw[k]at this;cases this
def ipI(f:Int->Int->Int):TIp:=fun x y H Q=>∃ i j,x=.int i/\y=.int j/\Q (.int (f i j)) H
end
section
variable{X:Cx}{pos:Pos}
noncomputable def DO(c:TT)(tb:TS):TS:=fun D σ H=>∃ W:Nat->St->Hp->Prop,(∃ m,W m σ H)/\∀ m σ H,W m σ H->
 c σ H fun b H1=>if b=true then ∃ N:St->Hp->Prop,(∀ σ' H',N σ' H'->∃ m',m' < m/\W m' σ' H')/\tb { D with nx:=N,ct:=N,bk:=D.nx } σ H1 else D.nx σ H1
theorem xF{c:Nn}{body:List NN}{tc:TT}{tb:TS}(hp:Q6 (Ni X.prog X.w) X.A X.env X.xe)(hc:PT X c tc)(hb:PSs X body tb):PS X (.While c body [] pos) (DO tc tb):=by
 intro pins s σ H D I h
 obtain⟨W,⟨m0,w0⟩,turn⟩:=h
 refine wpAny_While (codeAny_whileLoop (fun n s'=>∃ σ' H',Inv X pins σ' H' s'/\W n σ' H') ?_ m0 ⟨σ,H,I,w0⟩)
 rintro n s1 ⟨σ1,H1,I1,w1⟩
 refine OL hp (thn (hc pins s1 σ1 H1 _ I1 (turn n σ1 H1 w1)) ?_)
 rintro b s2 ⟨H2,I2,q2⟩
 cases b with
 | true=>
  obtain⟨N,hN,q2⟩:=q2
  rw[if_pos rfl]
  refine OL hp (thn (hb pins s2 σ1 H2 _ I2 q2) fun f s3 q3=>?_)
  cases f with
  | next=>
   obtain⟨σ3,H3,I3,n3⟩:=q3
   obtain⟨m',hm,w3⟩:=hN σ3 H3 n3
   exact⟨m',hm,σ3,H3,I3,w3⟩
  | cont=>
   obtain⟨σ3,H3,I3,n3⟩:=q3
   obtain⟨m',hm,w3⟩:=hN σ3 H3 n3
   exact⟨m',hm,σ3,H3,I3,w3⟩
  | brk=>exact q3
  | ret v=>exact q3
 | false=>
  rw[if_neg G_]
  exact Qd ⟨σ1,H2,I2,q2⟩
end
structure It where
 go:Nat->Hp->Prop
 yld:Nat->Hp->V->Hp->Prop
 stop:Nat->Hp->Prop
noncomputable def eE(X:Cx)(pins:List (M9 × Obj))(H:Hp)(b:M9):Prop:=
 H b=none/\b≠X.env.locals/\b ∉ X.fs/\(b∈X.ex\/X.s₀.heap.objs.size<=b)/\(∀ x c,X.env.cells.lookup x=some c->c≠b)/\∀ p∈X.pn++pins,p.1≠b
theorem Inv.tu {X:Cx}{pins:List (M9 × Obj)}{σ:St}{H H':Hp}{s:M_}{b:M9}(I:Inv X pins σ H s)(hb:s.heap.objs.size<=b)(hn:H' b=none):eE X pins H' b:=by
 refine⟨hn,JE (x_ I.lt hb),I.Ir hb,.inr (z_ I.sz hb),fun x c e z=>?_,fun p hp z=>?_⟩
 ·obtain⟨v,q⟩:=I.cell x c e
  exact absurd (x_ q.lt (by rw[z];exact hb)) (Jc _)
 exact absurd (x_ (Ng (I.pin p hp).1) (by rw[z];exact hb)) (Jc _)
structure Turn (P:Nl) (w:Nq) (K:M8) (tg:Nn) (J:It) (fp:List M9) (it:M9) (tn:Nat->Nr->Prop):Prop where
 mem:it∈fp
 obj:∀ i h,tn i h->∀ b∈fp,∃ o,h.get? b=some o/\∀ v,o.data≠.cell v
 keep:∀ i h h',tn i h->(∀ b∈fp,∀ o,h.get? b=some o->h'.get? b=some o)->tn i h'
 item:∀(X:Cx),X.prog=P->X.w=w->X.K=K->X.calm=true->∀(i:Nat) (pins:List (M9 × Obj)) (s:M_) (σ:St) (H:Hp) (E:M7->M_->Prop),Inv X pins σ H s->(∀ b∈fp,eE X pins H b)->tn i s.heap->J.go i H->
  Nb (Ni P w) X.A (OR (.ref it)) (fun r s1=>∃ u,r=some u/\
   Nb (Ni P w) X.A (Qe tg (.ref it) u) (fun _ s2=>∃ x H',Inv X pins σ H' s2/\RelV x u/\J.yld i H x H'/\tn (i + 1) s2.heap/\∀ b∈fp,H' b=none) E s1) E s
 done:∀(X:Cx),X.prog=P->X.w=w->X.K=K->X.calm=true->∀(i:Nat) (pins:List (M9 × Obj)) (s:M_) (σ:St) (H:Hp) (E:M7->M_->Prop),Inv X pins σ H s->(∀ b∈fp,eE X pins H b)->tn i s.heap->J.stop i H->
  Nb (Ni P w) X.A (OR (.ref it)) (fun r s1=>r=none/\Inv X pins σ H s1) E s
 self:∀(A:Nw) (i:Nat) (s:M_) (Q:M7->M_->Prop) (E:M7->M_->Prop),tn i s.heap->Q (.ref it) s->Nb (Ni P w) A (P6 (.ref it)) Q E s
abbrev TI:=St->Hp->(It->Hp->Prop)->Prop
noncomputable def PIE(X:Cx)(pins:List (M9 × Obj))(σ:St)(tg:Nn)(R:It->Hp->Prop)(itv:M7)(s2:M_):Prop:=
 ∃(it:M9) (fp:List M9) (tn:Nat->Nr->Prop) (J:It) (H':Hp),itv=.ref it/\Inv X pins σ H' s2/\Turn X.prog X.w X.K tg J fp it tn/\tn 0 s2.heap/\(∀ b∈fp,eE X pins H' b)/\R J H'
noncomputable def PI(X:Cx)(tg iter:Nn)(wi:TI):Prop:=
 ∀(pins:List (M9 × Obj)) (s:M_) (σ:St) (H:Hp) (R:It->Hp->Prop),Inv X pins σ H s->wi σ H R->
  Nb (Ni X.prog X.w) X.A (NA iter X.env) (fun v s1=>Nb (Ni X.prog X.w) X.A (P6 v) (PIE X pins σ tg R) X.xe s1) X.xe s
theorem uC{M:Pf}{A:Nw}{E:M7->M_->Prop}{s:M_}{tg:Nn}{it:M9}{u:M7}{o:Obj}{n:String}{vs:Array M7}{Q:Unit->M_->Prop}(ho:s.heap.get? it=some o)(hc:o.cls=.type n)(hd:o.data=.fields vs)
    (hn:["enumerate","zip","dict_itemiterator","dict_reverseitemiterator","odict_iterator","itertools.zip_longest","itertools.pairwise"].contains n=false) (hQ:Q () s):Nb M A (Qe tg (.ref it) u) Q E s:=by
  unfold Qe
  cases tg <;> first
    | exact M' hQ
    | (cases u <;> first
        | exact M' hQ
        | (refine M6 (SJ ho ?_)
           rw[hc,hd]
           show Nb M A (if(["enumerate","zip","dict_itemiterator","dict_reverseitemiterator","odict_iterator","itertools.zip_longest","itertools.pairwise"].contains n && vs[0]? == some (Oq _))=true then _ else _) Q E s
           rw[if_neg (by intro h;rw[hn,Bool.false_and]at h;cases h)]
           exact M' hQ))
noncomputable def Itl(K:M8)(a:M9):It:=
 ⟨fun i H=>∃ xs x,SqL K H a xs/\xs[i]?=some x,fun i H x H'=>H'=H/\∀ xs,SqL K H a xs->xs[i]?=some x,fun i H=>∃ xs,SqL K H a xs/\xs.length<=i⟩
noncomputable def Itt(K:M8)(a:M9):It:=
 ⟨fun i H=>∃ xs x,SqT K H a xs/\xs[i]?=some x,fun i H x H'=>H'=H/\∀ xs,SqT K H a xs->xs[i]?=some x,fun i H=>∃ xs,SqT K H a xs/\xs.length<=i⟩
def Itr(lo:Int)(n:Nat):It:=⟨fun i _=>i < n,fun i H x H'=>H'=H/\x=.int (lo + i),fun i _=>n<=i⟩
theorem wu{P:Nl}{w:Nq}{K:M8}{tg:Nn}(a it:M9):Turn P w K tg (Itl K a) [it] it (fun i h=>h.IsListIter it a i) where
 mem:=by simp
 obj:=fun i h st b hb=>by
  have e:b=it:=by simpa using hb
  subst e
  obtain⟨o,e,c,d⟩:=st
  exact⟨o,e,fun v z=>by rw[d]at z;cases z⟩
 keep:=fun i h h' st k=>st.at fun o e=>k it (by simp) o e
 item:=by
  intro X hP hw hK hc i pins s σ H E I hf st hg
  subst hP hw hK
  obtain⟨xs,x,hq,hx⟩:=hg
  obtain⟨its,rv,p,hz⟩:=I.list hq
  obtain⟨u,hu,ru⟩:=rv.get hx
  obtain⟨f0,f1,f2,f3,f4,f5⟩:=hf it (by simp)
  refine wpAny_pyNext_list_item st p.isList (x:=u) (by simpa using hu) fun h' st' sb=>?_
  have I1:Inv X pins σ H { s with heap:=h' }:=I.turned (t':=s.toks) (fun b o hb e=>(sb.2 b hb).trans e) f0 f1 f3 f4 f5
  obtain⟨o,e,c,d⟩:=id st'
  exact⟨u,rfl,uC (s:={ s with heap:=h' }) e c d (by decide) ⟨x,H,I1,ru,⟨rfl,fun ys hy=>by rw[I.kU hy hq];exact hx⟩,st',fun b hb=>(hf b hb).1⟩⟩
 done:=by
  intro X hP hw hK hc i pins s σ H E I hf st hg
  subst hP hw hK
  obtain⟨xs,hq,hx⟩:=hg
  obtain⟨its,rv,p,hz⟩:=I.list hq
  obtain⟨f0,f1,f2,f3,f4,f5⟩:=hf it (by simp)
  have hl:=rv.length
  exact wpAny_pyNext_list_end (I.ok.hd hc) st p.isList (by simp;lia) fun h' eb=>⟨rfl,I.turned (t':=s.toks) (fun b o hb e=>eb b o hb e) f0 f1 f3 f4 f5⟩
 self:=fun _ _ _ _ _ st h=>wpAny_pyIter_listiter st h
theorem sj{P:Nl}{w:Nq}{K:M8}{tg:Nn}(a it:M9):Turn P w K tg (Itt K a) [it] it (fun i h=>h.IsTupleIter it a i) where
 mem:=by simp
 obj:=fun i h st b hb=>by
  have e:b=it:=by simpa using hb
  subst e
  obtain⟨o,e,c,d⟩:=st
  exact⟨o,e,fun v z=>by rw[d]at z;cases z⟩
 keep:=fun i h h' st k=>st.at fun o e=>k it (by simp) o e
 item:=by
  intro X hP hw hK hc i pins s σ H E I hf st hg
  subst hP hw hK
  obtain⟨xs,x,hq,hx⟩:=hg
  obtain⟨its,rv,p,hz⟩:=I.tuple hq
  obtain⟨u,hu,ru⟩:=rv.get hx
  obtain⟨f0,f1,f2,f3,f4,f5⟩:=hf it (by simp)
  refine wpAny_pyNext_tuple_item st (show s.heap.IsTuple a its.toArray from p) (x:=u) (by simpa using hu) fun h' st' sb=>?_
  have I1:Inv X pins σ H { s with heap:=h' }:=I.turned (t':=s.toks) (fun b o hb e=>(sb.2 b hb).trans e) f0 f1 f3 f4 f5
  obtain⟨o,e,c,d⟩:=id st'
  exact⟨u,rfl,uC (s:={ s with heap:=h' }) e c d (by decide) ⟨x,H,I1,ru,⟨rfl,fun ys hy=>by rw[I.iX hy hq];exact hx⟩,st',fun b hb=>(hf b hb).1⟩⟩
 done:=by
  intro X hP hw hK hc i pins s σ H E I hf st hg
  subst hP hw hK
  obtain⟨xs,hq,hx⟩:=hg
  obtain⟨its,rv,p,hz⟩:=I.tuple hq
  obtain⟨f0,f1,f2,f3,f4,f5⟩:=hf it (by simp)
  have hl:=rv.length
  exact wpAny_pyNext_tuple_end (I.ok.hd hc) st (show s.heap.IsTuple a its.toArray from p) (by simp;lia) fun h' eb=>⟨rfl,I.turned (t':=s.toks) (fun b o hb e=>eb b o hb e) f0 f1 f3 f4 f5⟩
 self:=fun _ _ _ _ _ st h=>wpAny_pyIter_tupleiter st h
theorem tR{P:Nl}{w:Nq}{K:M8}{tg:Nn}(it:M9)(lo:Int)(n:Nat):Turn P w K tg (Itr lo n) [it] it (fun i h=>Q9 h it (lo + (i:Nat) * 1) ((n:Int) - (i:Nat)) 1) where
 mem:=by simp
 obj:=fun i h st b hb=>by
  have e:b=it:=by simpa using hb
  subst e
  exact⟨_,st,fun v z=>by
   have z':Q_ _=Qr v:=z
   cases z'⟩
 keep:=fun i h h' st k=>k it (by simp) _ st
 item:=by
  intro X hP hw hK hc i pins s σ H E I hf st hg
  subst hP hw hK
  obtain⟨f0,f1,f2,f3,f4,f5⟩:=hf it (by simp)
  have W:=U2 (prog:=X.prog) (w:=X.w) (I.ok.hd hc) it lo 1 n
  refine W.item i s _ _ hg st fun v h' tk hv st' kk=>?_
  obtain⟨t,rfl⟩:=hv
  have I1:Inv X pins σ H { s with heap:=h',toks:=tk }:=I.turned (fun b o hb e=>kk b o (by simpa using hb) e) f0 f1 f3 f4 f5
  refine⟨_,rfl,uC (s:={ s with heap:=h',toks:=tk }) (n:="range_iterator") st' rfl rfl (by decide) ⟨.int (lo + i),H,I1,⟨t,?_⟩,⟨rfl,rfl⟩,st',fun b hb=>(hf b hb).1⟩⟩
  rw[M0]
 done:=by
  intro X hP hw hK hc i pins s σ H E I hf st hg
  subst hP hw hK
  obtain⟨f0,f1,f2,f3,f4,f5⟩:=hf it (by simp)
  exact Ra (I.ok.hd hc) st (by have:n<=i:=hg;lia) fun h' eb=>⟨rfl,I.turned (t':=s.toks) (fun b o hb e=>eb b o hb e) f0 f1 f3 f4 f5⟩
 self:=fun _ _ _ _ _ st h=>Rb st h
section
variable{X:Cx}{tg:Nn}
theorem yz{pins:List (M9 × Obj)}{σ:St}{H:Hp}{s:M_}{R:It->Hp->Prop}{E:M7->M_->Prop}{lo hi:Int}{t u v:Tok}{tk:Nat}(I:Inv X pins σ H s)(h1:-(2 ^ 62)<=lo)(h2:lo < 2 ^ 62)(h3:-(2 ^ 62)<=hi)(h4:hi < 2 ^ 62)
  (q:R (Itr lo (hi - lo).toNat) H):Nb (Ni X.prog X.w) X.A (P6 (.ref s.heap.objs.size)) (PIE X pins σ tg R) E { s with heap:=s.heap.push { cls:=.type "range",data:=.fields #[.int lo t,.int hi u,.int 1 v] },toks:=tk }:=by
 refine RV (Si ..) (small_one h1 h2 h3 h4) ?_
 have I1:Inv X pins σ H { s with heap:=s.heap.push { cls:=.type "range",data:=.fields #[.int lo t,.int hi u,.int 1 v] },toks:=tk }:=I.kept fun b o e=>Na _ e
 refine⟨(s.heap.push { cls:=.type "range",data:=.fields #[.int lo t,.int hi u,.int 1 v] }).objs.size,[(s.heap.push { cls:=.type "range",data:=.fields #[.int lo t,.int hi u,.int 1 v] }).objs.size],_,_,H,rfl,
  I1.kept (t':=tk) fun b o e=>Na _ e,tR _ lo (hi - lo).toNat,?_,fun b hb=>?_,q⟩
 ·have e1:lo + ((0:Nat):Int) * 1=lo:=by simp
  have e2:(((hi - lo).toNat:Nat):Int) - ((0:Nat):Int)=O_ lo hi 1:=by rw[rangeSize_one];split <;> lia
  show Q9 _ _ (lo + ((0:Nat):Int) * 1) ((((hi - lo).toNat:Nat):Int) - ((0:Nat):Int)) 1
  rw[e1,e2]
  exact Nf _ rfl
 have e:b=(s.heap.push { cls:=.type "range",data:=.fields #[.int lo t,.int hi u,.int 1 v] }).objs.size:=by simpa using hb
 subst e
 exact I1.tu (d_ _) (I1.hok.fresh (d_ _))
def GQ(ta:TA):TI:=fun σ H R=>ta σ H fun vs H1=>∃ j:Int,vs=[.int j]/\-(2 ^ 62)<=j/\j < 2 ^ 62/\R (Itr 0 j.toNat) H1
theorem vL{a:Nn}{ta:TA}{p pos:Pos}(hg:Gl X "range")(hm:X.mg "range"=none)(ha:PA X [a] ta)(hs:Np [a] X.env=[(false,NA a X.env)]:=by rfl):PI X tg (.Call (.Name "range" p) [a] [] pos) (GQ ta):=by
 intro pins s σ H R I h
 refine Vc (bT I hg hm SK (OE (thn (ha pos pins s σ H _ I h) fun us s1 ⟨vs,H1,I1,r1,q1⟩=>?_) hs rfl))
 obtain⟨j,e,q1,q2,q⟩:=q1
 subst e
 cases r1 with
 | cons r rr=>
  cases rr
  obtain⟨t,rfl⟩:=r
  exact Uo (yz I1 (by lia) (by lia) q1 q2 (by simpa using q))
noncomputable def HZ(wi:TI)(g:TG)(tb:TS):TS:=fun D σ H=>wi σ H fun J H1=>∃ W:Nat->Nat->St->Hp->Prop,(∃ m,W 0 m σ H1)/\∀ i m σ H,W i m σ H->
 (J.stop i H/\D.nx σ H)\/(J.go i H/\∃ N:St->Hp->Prop,(∀ σ' H',N σ' H'->∃ m',m' < m/\W (i + 1) m' σ' H')/\∀ x H',J.yld i H x H'->g x σ H' fun σ2 H2=>tb { D with nx:=N,ct:=N,bk:=D.nx } σ2 H2)
def gb(fp:List M9)(h:Nr):List (M9 × Obj):=fp.filterMap fun b=>(h.get? b).map fun o=>(b,o)
theorem bu{fp:List M9}{h:Nr}{b:M9}{o:Obj}(hb:b∈fp)(e:h.get? b=some o):(b,o)∈gb fp h:=JF.mpr ⟨b,hb,by rw[e];rfl⟩
theorem vH{fp:List M9}{h:Nr}{p:M9 × Obj}(hp:p∈gb fp h):p.1∈fp/\h.get? p.1=some p.2:=by
 obtain⟨b,hb,e⟩:=JF.mp hp
 cases q:h.get? b with
 | none=>rw[q]at e;cases e
 | some o=>
  rw[q]at e
  have e':(b,o)=p:=v_ e
  subst e'
  exact⟨hb,q⟩
theorem Inv.pinned {pins:List (M9 × Obj)}{σ:St}{H:Hp}{s:M_}{fp:List M9}(I:Inv X pins σ H s)(hf:∀ b∈fp,eE X pins H b)(ho:∀ b∈fp,∃ o,s.heap.get? b=some o/\∀ v,o.data≠.cell v):Inv X (pins++gb fp s.heap) σ H s:=
 I.vh fun p hp=>(D_.mp hp).elim (fun z=>I.pin p (n_ _ z)) fun z=>by
  obtain⟨hb,e⟩:=vH z
  obtain⟨f0,f1,f2,_⟩:=hf p.1 hb
  obtain⟨o,e',d⟩:=ho p.1 hb
  rw[e]at e';cases e'
  exact⟨e,f0,f1,f2,d⟩
theorem Inv.d6 {pins pl:List (M9 × Obj)}{σ:St}{H:Hp}{s:M_}(I:Inv X (pins++pl) σ H s):Inv X pins σ H s:=I.vh fun p hp=>I.pin p (n_ _ (IG _ hp))
theorem zp{iter:Nn}{body:List NN}{wi:TI}{g:TG}{tb:TS}{pos:Pos}(hp:Q6 (Ni X.prog X.w) X.A X.env X.xe)(hc:X.calm=true)(hi:PI X tg iter wi)(hg:PG X tg g)(hb:PSs X body tb)
  (hs:∀ x,NJ iter X.env x=pure x:=by intro _;rfl):PS X (.For tg iter body [] pos) (HZ wi g tb):=by
 intro pins s σ H D I h
 refine wpAny_For (thn (hi pins s σ H _ I h) fun v s1 h1=>thn h1 fun itv s2 h2=>?_) hs
 obtain⟨it,fp,tn,J,H2,e,I2,T,st2,f2,W,⟨m0,w0⟩,turn⟩:=h2
 subst e
 have stat:∀ {H':Hp},(∀ b∈fp,H' b=none)->∀ b∈fp,eE X pins H' b:=fun hn b hb=>⟨hn b hb,(f2 b hb).2⟩
 refine codeAny_forLoop_any (fun n s'=>∃ i σ' H',Inv X pins σ' H' s'/\tn i s'.heap/\(∀ b∈fp,H' b=none)/\W i n σ' H') ?_ m0 ⟨0,σ,H2,I2,st2,fun b hb=>(f2 b hb).1,w0⟩
 rintro n s3 ⟨i,σ3,H3,I3,st3,fr3,w3⟩
 rcases turn i n σ3 H3 w3 with⟨stop,qn⟩ | ⟨go,N,hN,step⟩
 ·refine OL hp (thn (T.done X rfl rfl rfl hc i pins s3 σ3 H3 X.xe I3 (stat fr3) st3 stop) ?_)
  rintro r s4 ⟨hr,I4⟩
  subst hr
  exact Qd ⟨σ3,H3,I4,qn⟩
 refine OL hp (thn (T.item X rfl rfl rfl hc i pins s3 σ3 H3 X.xe I3 (stat fr3) st3 go) ?_)
 rintro r s4 ⟨u,hr,h4⟩
 subst hr
 refine OL hp (thn h4 ?_)
 rintro _ s5 ⟨x,H5,I5,r5,y5,st5,fr5⟩
 have I5':=I5.pinned (stat fr5) (T.obj _ _ st5)
 refine OL hp (thn (hg _ s5 σ3 H5 x u _ I5' r5 (step x H5 y5)) ?_)
 rintro _ s6 ⟨σ6,H6,I6,q6⟩
 refine OL hp (thn (hb _ s6 σ6 H6 _ I6 q6) fun f s7 q7=>?_)
 have again:∀ {σ7:St} {H7:Hp},Inv X (pins++gb fp s5.heap) σ7 H7 s7->N σ7 H7->∃ m,m < n/\∃ i σ' H',Inv X pins σ' H' s7/\tn i s7.heap/\(∀ b∈fp,H' b=none)/\W i m σ' H':=fun{σ7 H7} I7 n7=>by
  obtain⟨m',hm,w7⟩:=hN σ7 H7 n7
  refine⟨m',hm,i + 1,σ7,H7,I7.d6,T.keep _ _ _ st5 fun b hb o e=>(I7.pin (b,o) (n_ _ (n_ _ (bu hb e)))).1,fun b hb=>?_,w7⟩
  obtain⟨o,e,d⟩:=T.obj _ _ st5 b hb
  exact(I7.pin (b,o) (n_ _ (n_ _ (bu hb e)))).2.1
 cases f with
 | next=>obtain⟨σ7,H7,I7,n7⟩:=q7;exact again I7 n7
 | cont=>obtain⟨σ7,H7,I7,n7⟩:=q7;exact again I7 n7
 | brk=>obtain⟨σ7,H7,I7,q7⟩:=q7;exact⟨σ7,H7,I7.d6,q7⟩
 | ret v=>obtain⟨x7,σ7,H7,I7,r7,q7⟩:=q7;exact⟨x7,σ7,H7,I7.d6,r7,q7⟩
end
abbrev R2:=V->V->Hp->VK->Prop
noncomputable def OpR(X:Cx)(f:M7->M7->Sem M7)(r:R2):Prop:=
 ∀(pins:List (M9 × Obj)) (s:M_) (σ:St) (H:Hp) (x y:V) (v u:M7) (Q:VK),Inv X pins σ H s->RelV x v->RelV y u->r x y H Q->
  Nb (Ni X.prog X.w) X.A (f v u) (EP X pins σ Q) X.xe s
noncomputable def UnR(X:Cx)(f:M7->Sem M7)(r:V->Hp->VK->Prop):Prop:=
 ∀(pins:List (M9 × Obj)) (s:M_) (σ:St) (H:Hp) (x:V) (v:M7) (Q:VK),Inv X pins σ H s->RelV x v->r x H Q->
  Nb (Ni X.prog X.w) X.A (f v) (EP X pins σ Q) X.xe s
noncomputable def cy(X:Cx)(f:M7)(r:List V->Hp->VK->Prop):Prop:=
 ∀(pins:List (M9 × Obj)) (s:M_) (σ:St) (H:Hp) (xs:List V) (us:List M7) (Q:VK),Inv X pins σ H s->Vals xs us->r xs H Q->
  Nb (Ni X.prog X.w) X.A (call f us) (EP X pins σ Q) X.xe s
noncomputable def HV(X:Cx)(r:V->Hp->(Bool->Hp->Prop)->Prop):Prop:=
 ∀(pins:List (M9 × Obj)) (s:M_) (σ:St) (H:Hp) (x:V) (v:M7) (Q:Bool->Hp->Prop),Inv X pins σ H s->RelV x v->r x H Q->
  Nb (Ni X.prog X.w) X.A (Ul v) (TP X pins σ Q) X.xe s
def tOp(r:R2)(ta tb:TE):TE:=fun σ H Q=>ta σ H fun x H1=>tb σ H1 fun y H2=>r x y H2 Q
def tUn(r:V->Hp->VK->Prop)(ta:TE):TE:=fun σ H Q=>ta σ H fun x H1=>r x H1 Q
def rI(C:Int->Int->Prop)(g:Int->Int->V):R2:=fun x y H Q=>∃ i j,x=.int i/\y=.int j/\C i j/\Q (g i j) H
def rI0(g:Int->Int->V):R2:=fun x y H Q=>∃ i j,x=.int i/\y=.int j/\Q (g i j) H
def rU(g:Int->V):V->Hp->VK->Prop:=fun x H Q=>∃ i,x=.int i/\Q (g i) H
section
variable{X:Cx}{a b c:Nn}{ta tb tc:TE}{pos:Pos}
theorem Fp(ha:PE X a ta)(hb:PE X b tb){pins:List (M9 × Obj)}{s:M_}{σ:St}{H:Hp}{R:V->V->Hp->Prop}(I:Inv X pins σ H s)
  (h:ta σ H fun x H1=>tb σ H1 fun y H2=>R x y H2) {Q:M7->M_->Prop} {f:M7->M7->Sem M7}
  (hf:∀ v u s2 x y H2,Inv X pins σ H2 s2->RelV x v->RelV y u->R x y H2->Nb (Ni X.prog X.w) X.A (f v u) Q X.xe s2) :
  Nb (Ni X.prog X.w) X.A (NA a X.env) (fun v s₁=>Nb (Ni X.prog X.w) X.A (NA b X.env) (fun u s₂=>Nb (Ni X.prog X.w) X.A (f v u) Q X.xe s₂) X.xe s₁) X.xe s:=by
 refine thn (ha pins s σ H _ I h) ?_
 rintro v s1 ⟨x,H1,I1,r1,q1⟩
 refine thn (hb pins s1 σ H1 _ I1 q1) ?_
 rintro u s2 ⟨y,H2,I2,r2,q2⟩
 exact hf v u s2 x y H2 I2 r1 r2 q2
theorem bV{op:QP}{r:R2}(ho:OpR X (NY op) r)(ha:PE X a ta)(hb:PE X b tb):PE X (.BinOp a op b pos) (tOp r ta tb):=by
 intro pins s σ H Q I h
 exact wpAny_BinOp (Fp ha hb I h fun v u s2 x y H2 I2 rx ry q=>ho pins s2 σ H2 x y v u Q I2 rx ry q)
theorem Gv{op:UnaryOp}{r:V->Hp->VK->Prop}(ho:UnR X (unaryOp op) r)(ha:PE X a ta):PE X (.UnaryOp op a pos) (tUn r ta):=by
 intro pins s σ H Q I h
 exact UnaryOp_ (thn (ha pins s σ H _ I h) fun v s1 ⟨x,H1,I1,r1,q1⟩=>ho pins s1 σ H1 x v Q I1 r1 q1)
theorem opI{f:M7->M7->Sem M7}{C:Int->Int->Prop}{g:Int->Int->Int}
  (rule:∀(i j:Int) (t u:Tok) (s:M_) (Q:M7->M_->Prop) (E:M7->M_->Prop),C i j->Q (.int (g i j) s.toks) { s with toks:=s.toks + 1 }->Nb (Ni X.prog X.w) X.A (f (.int i t) (.int j u)) Q E s) :
  OpR X f (rI C fun i j=>.int (g i j)):=by
 intro pins s σ H x y v u Q I rx ry h
 obtain⟨i,j,rfl,rfl,hc,q⟩:=h
 obtain⟨t,rfl⟩:=rx
 obtain⟨t',rfl⟩:=ry
 exact rule i j t t' s _ _ hc ⟨.int (g i j),H,I.tok _,⟨_,rfl⟩,q⟩
theorem AU{f:M7->M7->Sem M7}{g:Int->Int->Int}
  (rule:∀(i j:Int) (t u:Tok) (s:M_) (Q:M7->M_->Prop) (E:M7->M_->Prop),Q (.int (g i j) s.toks) { s with toks:=s.toks + 1 }->Nb (Ni X.prog X.w) X.A (f (.int i t) (.int j u)) Q E s) :
  OpR X f (rI0 fun i j=>.int (g i j)):=by
 intro pins s σ H x y v u Q I rx ry h
 obtain⟨i,j,rfl,rfl,q⟩:=h
 obtain⟨t,rfl⟩:=rx
 obtain⟨t',rfl⟩:=ry
 exact rule i j t t' s _ _ ⟨.int (g i j),H,I.tok _,⟨_,rfl⟩,q⟩
theorem Bs{f:M7->M7->Sem M7}{g:Int->Int->Bool}
  (rule:∀(i j:Int) (t u:Tok) (s:M_) (Q:M7->M_->Prop) (E:M7->M_->Prop),Q (.bool (g i j)) s->Nb (Ni X.prog X.w) X.A (f (.int i t) (.int j u)) Q E s) :
  OpR X f (rI0 fun i j=>.bl (g i j)):=by
 intro pins s σ H x y v u Q I rx ry h
 obtain⟨i,j,rfl,rfl,q⟩:=h
 obtain⟨t,rfl⟩:=rx
 obtain⟨t',rfl⟩:=ry
 exact rule i j t t' s _ _ ⟨.bl (g i j),H,I,rfl,q⟩
def G1(i j:Int):Prop:=0 < j/\j < 1073741824
def A2(i j:Int):Prop:=0<=j/\j<=1000000/\i.natAbs < 2 ^ 64
def vG(i j:Int):Prop:=(-(2 ^ 64) < i/\i < 2 ^ 64)\/(-(2 ^ 64) < j/\j < 2 ^ 64)
theorem vG.ok {i j:Int}(h:vG i j):IntMulOk i j:=by
 rcases h with⟨h1,h2⟩ | ⟨h1,h2⟩
 ·exact .of_left (TJ h1 h2)
 exact .of_right (TJ h1 h2)
theorem lK:OpR X (NY .Add) (rI0 fun i j=>.int (i + j)):=AU fun _ _ _ _ _ _ _ q=>add_int q
theorem Ex:OpR X (NY .Sub) (rI0 fun i j=>.int (i - j)):=AU fun _ _ _ _ _ _ _ q=>sub_int q
theorem gn:OpR X (NY .Mult) (rI vG fun i j=>.int (i * j)):=opI fun _ _ _ _ _ _ _ hc q=>mul_int q hc.ok
theorem A8:OpR X (NY .FloorDiv) (rI G1 fun i j=>.int (i / j)):=opI fun i j _ _ _ _ _ hc q=>by
 have h1:(0:Int) < j:=hc.1
 have h2:j < 1073741824:=hc.2
 exact floordiv_int (by lia) (by rw[Ls i (by lia)];exact q) (.inl (Rc (by lia)))
theorem iH:OpR X (NY .Mod) (rI (fun _ j=>0 < j) fun i j=>.int (i % j)):=opI fun i j _ _ _ _ _ hc q=>by
 have h1:(0:Int) < j:=hc
 exact mod_int' (by lia) (by rw[Lu i (by lia)];exact q)
theorem EC:OpR X (NY .Pow) (rI A2 fun i j=>.int (i ^ j.toNat)):=opI fun _ _ _ _ _ _ _ hc q=>pow_int_small hc.1 hc.2.1 hc.2.2 q
theorem Er:OpR X (NY .LShift) (rI A2 fun i j=>.int (i * 2 ^ j.toNat)):=opI fun _ _ _ _ _ _ _ hc q=>lshift_int_small hc.1 hc.2.1 hc.2.2 q
theorem Ea:OpR X (NY .BitAnd) (rI0 fun i j=>.int (PQ i j)):=AU fun _ _ _ _ _ _ _ q=>and_int q
theorem He:OpR X (NY .BitOr) (rI0 fun i j=>.int (OA i j)):=AU fun _ _ _ _ _ _ _ q=>or_int q
theorem unI{f:M7->Sem M7}{g:Int->Int}
  (rule:∀(i:Int) (t:Tok) (s:M_) (Q:M7->M_->Prop) (E:M7->M_->Prop),Q (.int (g i) s.toks) { s with toks:=s.toks + 1 }->Nb (Ni X.prog X.w) X.A (f (.int i t)) Q E s) :
  UnR X f (rU fun i=>.int (g i)):=by
 intro pins s σ H x v Q I rx h
 obtain⟨i,rfl,q⟩:=h
 obtain⟨t,rfl⟩:=rx
 exact rule i t s _ _ ⟨.int (g i),H,I.tok _,⟨_,rfl⟩,q⟩
theorem Fc:UnR X (unaryOp .USub) (rU fun i=>.int (-i)):=unI fun _ _ _ _ _ q=>neg_int q
end
noncomputable def GJ:V->V->Bool
 | .non,.non=>true | .non,.int _=>true | .int _,.non=>true | .non,.bl _=>true | .bl _,.non=>true | .non,.str _=>true | .str _,.non=>true
 | .int _,.int _=>true | .bl _,.bl _=>true | .str _,.str _=>true | .byt _,.byt _=>true
 | .int _,.str _=>true | .str _,.int _=>true | .bl _,.str _=>true | .str _,.bl _=>true
 | _,_=>false
def rEq:R2:=fun x y H Q=>GJ x y=true/\Q (.bl (decide (x=y))) H
def rNe:R2:=fun x y H Q=>GJ x y=true/\Q (.bl (!decide (x=y))) H
theorem uD{i j:Int}:decide (V.int i=V.int j)=(i == j):=by
 rw[JI]
 simp
theorem zH{i j:Bool}:decide (V.bl i=V.bl j)=(i == j):=by
 rw[JI]
 simp
theorem vk{i j:Str}:decide (V.str i=V.str j)=(i == j):=by
 rw[JI]
 simp
theorem uN{i j:Array UInt8}:decide (V.byt i=V.byt j)=(i.toList == j.toList):=by
 rw[JI]
 cases i
 cases j
 simp
section
variable{X:Cx}{a b c:Nn}{ta tb tc:TE}{pos:Pos}
theorem aG{pins:List (M9 × Obj)}{σ:St}{H:Hp}{s:M_}{Q:VK}{k k':Bool}(I:Inv X pins σ H s)(q:Q (.bl k) H)(e:k=k'):EP X pins σ Q (.bool k') s:=by
 subst e
 exact⟨.bl k,H,I,rfl,q⟩
theorem Cg:OpR X (NP .Eq) rEq:=by
 intro pins s σ H x y v u Q I rx ry h
 obtain⟨hs,q⟩:=h
 cases x with
 | non=>
  cases rx
  cases y with
  | non=>cases ry;exact T8 (aG I q (by simp))
  | bl j=>cases ry;exact T9 (aG I q (by simp))
  | int j=>obtain⟨t',rfl⟩:=ry;exact Uq (aG I q (by simp))
  | str j=>obtain⟨t',rfl⟩:=ry;exact Ur (aG I q (by simp))
  | _=>exact absurd (show false=true from hs) G_
 | bl i=>
  cases rx
  cases y with
  | non=>cases ry;exact T_ (aG I q (by simp))
  | bl j=>cases ry;exact eq_bool (aG I q zH)
  | str j=>obtain⟨t',rfl⟩:=ry;exact T' (aG I q (by simp))
  | _=>exact absurd (show false=true from hs) G_
 | int i=>
  obtain⟨t,rfl⟩:=rx
  cases y with
  | non=>cases ry;exact Us (aG I q (by simp))
  | int j=>obtain⟨t',rfl⟩:=ry;exact eq_int (aG I q uD)
  | str j=>obtain⟨t',rfl⟩:=ry;exact Ut (aG I q (by simp))
  | _=>exact absurd (show false=true from hs) G_
 | str i=>
  obtain⟨t,rfl⟩:=rx
  cases y with
  | non=>cases ry;exact Uu (aG I q (by simp))
  | bl j=>cases ry;exact Ua (aG I q (by simp))
  | int j=>obtain⟨t',rfl⟩:=ry;exact Uv (aG I q (by simp))
  | str j=>obtain⟨t',rfl⟩:=ry;exact eq_str (aG I q vk)
  | _=>exact absurd (show false=true from hs) G_
 | byt i=>
  obtain⟨t,rfl⟩:=rx
  cases y with
  | byt j=>obtain⟨t',rfl⟩:=ry;exact PySem.W.eq_bytes (aG I q uN)
  | _=>exact absurd (show false=true from hs) G_
 | _=>cases y <;> exact absurd (show false=true from hs) G_
theorem zL:OpR X (NP .NotEq) rNe:=by
 intro pins s σ H x y v u Q I rx ry h
 obtain⟨hs,q⟩:=h
 cases x with
 | non=>
  cases rx
  cases y with
  | non=>cases ry;exact Ub (aG I q (by simp))
  | bl j=>cases ry;exact Uc (aG I q (by simp))
  | int j=>obtain⟨t',rfl⟩:=ry;exact Uw (aG I q (by simp))
  | str j=>obtain⟨t',rfl⟩:=ry;exact Ux (aG I q (by simp))
  | _=>exact absurd (show false=true from hs) G_
 | bl i=>
  cases rx
  cases y with
  | non=>cases ry;exact Ud (aG I q (by simp))
  | bl j=>cases ry;exact ne_bool (aG I q (congrArg not zH))
  | str j=>obtain⟨t',rfl⟩:=ry;exact Ue (aG I q (by simp))
  | _=>exact absurd (show false=true from hs) G_
 | int i=>
  obtain⟨t,rfl⟩:=rx
  cases y with
  | non=>cases ry;exact Uy (aG I q (by simp))
  | int j=>obtain⟨t',rfl⟩:=ry;exact ne_int (aG I q (congrArg not uD))
  | str j=>obtain⟨t',rfl⟩:=ry;exact Uz (aG I q (by simp))
  | _=>exact absurd (show false=true from hs) G_
 | str i=>
  obtain⟨t,rfl⟩:=rx
  cases y with
  | non=>cases ry;exact UA (aG I q (by simp))
  | bl j=>cases ry;exact Ug (aG I q (by simp))
  | int j=>obtain⟨t',rfl⟩:=ry;exact UB (aG I q (by simp))
  | str j=>obtain⟨t',rfl⟩:=ry;exact ne_str (aG I q (congrArg not vk))
  | _=>exact absurd (show false=true from hs) G_
 | byt i=>
  obtain⟨t,rfl⟩:=rx
  cases y with
  | byt j=>obtain⟨t',rfl⟩:=ry;exact PySem.W.ne_bytes (aG I q (congrArg not uN))
  | _=>exact absurd (show false=true from hs) G_
 | _=>cases y <;> exact absurd (show false=true from hs) G_
theorem Hx:OpR X (NP .Lt) (rI0 fun i j=>.bl (decide (i < j))):=Bs fun _ _ _ _ _ _ _ q=>lt_int q
theorem FH:OpR X (NP .LtE) (rI0 fun i j=>.bl (decide (i<=j))):=Bs fun _ _ _ _ _ _ _ q=>le_int q
theorem Gx:OpR X (NP .Gt) (rI0 fun i j=>.bl (decide (j < i))):=Bs fun _ _ _ _ _ _ _ q=>gt_int q
theorem G8:OpR X (NP .GtE) (rI0 fun i j=>.bl (decide (j<=i))):=Bs fun _ _ _ _ _ _ _ q=>ge_int q
theorem wg:OpR X (NP .In) (fun x y H Q=>∃ i j,x=.str i/\y=.str j/\Q (.bl (!(Q0 j i 0 j.length 1).isEmpty)) H):=by
 intro pins s σ H x y v u Q I rx ry h
 obtain⟨i,j,rfl,rfl,q⟩:=h
 obtain⟨t,rfl⟩:=rx
 obtain⟨t',rfl⟩:=ry
 exact in_str (aG I q rfl)
theorem b7(b:Nn){op:Q5}(h:op≠.In:=by decide)(h2:op≠.NotIn:=by decide):Ov op b=false:=by
 have e1:(op == VC)=false:=by cases op <;> first | rfl | exact absurd rfl h
 have e2:(op == U0)=false:=by cases op <;> first | rfl | exact absurd rfl h2
 cases b <;> simp[Ov,e1,e2]
theorem pP{op:Q5}{r:R2}(ho:OpR X (NP op) r)(ha:PE X a ta)(hb:PE X b tb)(hm:Ov op b=false):PE X (.Compare a [op] [b] pos) (tOp r ta tb):=by
 intro pins s σ H Q I h
 exact Ta (Fp ha hb I h fun v u s2 x y H2 I2 rx ry q=>ho pins s2 σ H2 x y v u Q I2 rx ry q) hm
def Cj(t:TE):TT:=fun σ H Q=>t σ H fun x H'=>∃ k,x=.bl k/\Q k H'
theorem eQ{op:Q5}{r:R2}(ho:OpR X (NP op) r)(ha:PE X a ta)(hb:PE X b tb)(hm:Ov op b=false):PT X (.Compare a [op] [b] pos) (Cj (tOp r ta tb)):=by
 intro pins s σ H Q I h
 refine Rk (thn (ha pins s σ H _ I h) fun v s1 ⟨x,H1,I1,r1,q1⟩=>thn (hb pins s1 σ H1 _ I1 q1) fun u s2 ⟨y,H2,I2,r2,q2⟩=>
  thn (ho pins s2 σ H2 x y v u _ I2 r1 r2 q2) fun c s3 ⟨z,H3,I3,r3,k,e,q3⟩=>?_) hm
 subst e
 cases r3
 exact Oe ⟨H3,I3,q3⟩
noncomputable def DI(K:M8)(x:V)(H:Hp)(k:Bool):Prop:=
 match x with
 | .non=>k=false
 | .bl b=>k=b
 | .int i=>k=(i != 0)
 | .str y=>y.length<=sizeLine/\k=((y.length:Int) != 0)
 | .byt y=>y.size<=sizeLine/\k=((y.size:Int) != 0)
 | .ref p=>(∃ xs,SqL K H p xs/\k=!xs.isEmpty)\/(∃ xs,SqT K H p xs/\k=!xs.isEmpty)\/∃ kvs,H p=some (.dK kvs)/\k=!kvs.isEmpty
 | _=>False
theorem tV{κ:Type}{kvs:List (κ × V)}{vs:List (κ × M7)}(r:KV kvs vs):(!vs.isEmpty)=!kvs.isEmpty:=by
 cases r <;> rfl
theorem lR{xs:List V}{its:List M7}(r:Vals xs its):(!its.toArray.isEmpty)=!xs.isEmpty:=by
 cases r <;> simp
theorem gv:(sizeLine:Nat) < 2 ^ 63:=by rw[NI];decide
theorem CW:HV X (fun x H Q=>∃ k,DI X.K x H k/\Q k H):=by
 intro pins s σ H x v Q I rx h
 obtain⟨k,e,q⟩:=h
 have hl:=gv
 have hs:sizeLine=16777216:=NI
 cases x with
 | non=>
  cases rx
  have e':k=false:=e
  subst e'
  exact truthy_none ⟨H,I,q⟩
 | bl b=>
  cases rx
  have e':k=b:=e
  subst e'
  exact Oe ⟨H,I,q⟩
 | int i=>
  obtain⟨t,rfl⟩:=rx
  have e':k=(i != 0):=e
  subst e'
  exact PySem.P.truthy_int ⟨H,I,q⟩
 | str y=>
  obtain⟨t,rfl⟩:=rx
  obtain⟨hy,e'⟩:y.length<=sizeLine/\k=((y.length:Int) != 0):=e
  subst e'
  exact PySem.P.truthy_str (by lia) ⟨H,I.tok _,q⟩
 | byt y=>
  obtain⟨t,rfl⟩:=rx
  obtain⟨hy,e'⟩:y.size<=sizeLine/\k=((y.size:Int) != 0):=e
  subst e'
  exact PySem.W.truthy_bytes (by lia) ⟨H,I.tok _,q⟩
 | ref p=>
  cases rx
  have e':(∃ xs,SqL X.K H p xs/\k=!xs.isEmpty)\/(∃ xs,SqT X.K H p xs/\k=!xs.isEmpty)\/∃ kvs,H p=some (.dK kvs)/\k=!kvs.isEmpty:=e
  rcases e' with⟨xs,hx,e'⟩ | ⟨xs,hx,e'⟩ | ⟨kvs,hx,e'⟩
  ·subst e'
   obtain⟨its,r,pl,hz⟩:=I.list hx
   have hlen:=r.length
   exact wpAny_truthy_list pl.isList (by simp only[p_];lia) ⟨H,I.tok _,by rw[lR r];exact q⟩
  ·subst e'
   obtain⟨its,r,pl,hz⟩:=I.tuple hx
   have hlen:=r.length
   exact truthy_tuple pl (by simp only[p_];lia) ⟨H,I.tok _,by rw[lR r];exact q⟩
  ·subst e'
   obtain⟨hz,hS,vs,r,m⟩:kvs.length<=sizeLine/\(p == Ou)=false/\∃ vs,KV kvs vs/\s.heap.DictOf (ba X.prog X.w) p vs:=I.hok p _ hx
   have hlen:kvs.length=vs.length:=P_ r
   exact wpAny_truthy_dict hS m (by lia) ⟨H,I.tok _,by rw[tV r];exact q⟩
 | _=>exact(show False from e).elim
theorem zV(ha:PE X a ta)(he:∀ whole,Rj a X.env whole=(do let v <-whole;R5 a.pos;Pt [v] (Ul v))) :
  PT X a (fun σ H Q=>ta σ H fun x H'=>∃ k,DI X.K x H' k/\Q k H'):=by
 intro pins s σ H Q I h
 exact Um (thn (ha pins s σ H _ I h) fun v s1 ⟨x,H1,I1,r1,q1⟩=>CW pins s1 σ H1 x v Q I1 r1 q1) (he _)
theorem sh:OpR X (NY .Add) (fun x y H Q=>∃ i j,x=.str i/\y=.str j/\i.length + j.length<=sizeLine/\Q (.str (i++j)) H):=by
 intro pins s σ H x y v u Q I rx ry h
 obtain⟨i,j,rfl,rfl,hz,q⟩:=h
 obtain⟨t,rfl⟩:=rx
 obtain⟨t',rfl⟩:=ry
 exact add_str (fun t' tk=>⟨.str (i++j),H,I.tok _,⟨_,rfl⟩,q⟩) hz
theorem vals1{x:V}{us:List M7}(r:Vals [x] us):∃ u,us=[u]/\RelV x u:=by
 cases r with
 | cons r1 r2=>cases r2;exact⟨_,rfl,r1⟩
theorem vals2{x y:V}{us:List M7}(r:Vals [x,y] us):∃ u w',us=[u,w']/\RelV x u/\RelV y w':=by
 cases r with
 | cons r1 r2=>
  cases r2 with
  | cons r3 r4=>cases r4;exact⟨_,_,rfl,r1,r3⟩
theorem mN:cy X (.type "int") (fun xs H Q=>(∃ i,xs=[.int i]/\Q (.int i) H)\/∃ k,xs=[.bl k]/\Q (.int (if k then 1 else 0)) H):=by
 intro pins s σ H xs us Q I r h
 rcases h with⟨i,rfl,q⟩ | ⟨k,rfl,q⟩
 ·obtain⟨u,rfl,t,rfl⟩:=vals1 r
  exact call_int_int ⟨.int i,H,I,⟨_,rfl⟩,q⟩
 obtain⟨u,rfl,r1⟩:=vals1 r
 cases r1
 exact call_int_bool ⟨.int (if k then 1 else 0),H,I.tok _,⟨_,rfl⟩,q⟩
theorem qm:cy X (.builtin "divmod") (fun xs H Q=>∃ i j,xs=[.int i,.int j]/\G1 i j/\∀ p,H p=none->Q (.ref p) (upd H p (.tup [.int (i / j),.int (i % j)]))):=by
 intro pins s σ H xs us Q I r h
 obtain⟨i,j,rfl,⟨h1,h2⟩,q⟩:=h
 obtain⟨u,w',rfl,⟨t,rfl⟩,⟨t',rfl⟩⟩:=vals2 r
 refine divmod_int (by lia) ?_ (.inl (Rc (by lia)))
 rw[Ls i (by lia),Lu i (by lia)]
 have hn:H s.heap.objs.size=none:=I.hok.fresh (d_ _)
 refine⟨.ref s.heap.objs.size,_,?_,rfl,q _ hn⟩
 refine I.laid (fun b o e=>Na _ e) (d_ _) ⟨by simp only[o_,K8];rw[NI];decide,[.int (i / j) s.toks,.int (i % j) (s.toks + 1)],.cons ⟨_,rfl⟩ (.cons ⟨_,rfl⟩ .nil),?_⟩
 exact⟨_,Nf s.heap rfl,rfl,0,rfl⟩
end
theorem mh.some_of {v:V}{o:Option M7}(r:mh (some v) o):∃ u,o=some u/\RelV v u:=by
 cases o with
 | none=>exact(show False from r).elim
 | some u=>exact⟨u,rfl,r⟩
structure Room (k:Nat) (A:Nw):Prop where
 hd:A.handled=none
 dp:A.depth + 3 * k + 5 < recursionLimit
 un:A.units + 16 * k + 200 < cLine
 gs:A.guards=some []
theorem Room.mono {j k:Nat}{A:Nw}(r:Room k A)(h:j<=k):Room j A:=⟨r.hd,by have:=r.dp;lia,by have:=r.un;lia,r.gs⟩
theorem Room.deeper {k:Nat}{A:Nw}(r:Room (k + 1) A)(env:Env):Room k (A.deeper env):=
 ⟨r.hd,by have:=r.dp;show A.depth + 1 + 3 * k + 5 < _;lia,by have:=r.un;show A.units + 3 + 16 * k + 200 < _;lia,r.gs⟩
theorem Room.depth {k:Nat}{A:Nw}(r:Room k A):A.depth < recursionLimit:=by have:=r.dp;lia
theorem Room.units {k:Nat}{A:Nw}(r:Room k A):A.units + 64 < cLine:=by have:=r.un;lia
def HU:TA:=fun _ H Q=>Q [] H
def Gi(ta:TE)(tr:TA):TA:=fun σ H Q=>ta σ H fun x H1=>tr σ H1 fun xs H2=>Q (x::xs) H2
section
variable{X:Cx}{e:Nn}{es:List Nn}{te:TE}{t:TA}{pos:Pos}
theorem aZ:PA X [] HU:=fun _ _ _ _ H Q I h=>R9 ⟨[],H,I,.nil,h⟩
theorem aq(ha:PE X e te)(hr:PA X es t)(hs:Np (e::es) X.env=(false,NA e X.env)::Np es X.env:=by rfl):PA X (e::es) (Gi te t):=by
 intro pos pins s σ H Q I h
 rw[hs]
 show Nb _ _ (spliced ((false,NA e X.env)::O1 pos (Np es X.env))) _ _ s
 refine Ox (thn (ha pins s σ H _ I h) ?_)
 rintro u s1 ⟨x,H1,I1,r1,q1⟩
 exact thn (hr pos pins s1 σ H1 _ I1 q1) fun us s2 ⟨xs,H2,I2,r2,q2⟩=>⟨x::xs,H2,I2,.cons r1 r2,q2⟩
def Ik(t:TA):TE:=fun σ H Q=>t σ H fun xs H1=>xs.length<=sizeLine/\∀ p,H1 p=none->Q (.ref p) (upd H1 p (.lst xs))
theorem yu(h:PA X es t):PE X (.List es pos) (Ik t):=by
 intro pins s σ H Q I hq
 refine RW (thn (h pos pins s σ H _ I hq) fun us s1 ⟨xs,H1,I1,r,z,q⟩=>⟨by rw[<-r.length];exact z,?_⟩)
 have hf:H1 s1.heap.objs.size=none:=I1.hok.fresh (d_ _)
 refine⟨.ref s1.heap.objs.size,upd H1 s1.heap.objs.size (.lst xs),I1.laid (t':=s1.toks) (fun b u e=>Na _ e) (d_ _) ?_,rfl,q _ hf⟩
 exact⟨z,us,0,r,Nf _ rfl⟩
end
abbrev Sp:=List V->Hp->VK->XK->Prop
abbrev CXT:=List Env->Hp->M_->XK->M7->M_->Prop
structure Env0 (P:Nl) (w:Nq) (K:M8) (mg:Str->Option M7) (base:Nr) (A:Nw) (outer:List Env) (s:M_) (H:Hp):Prop where
 frames:A.frames=some outer
 mod:Mod K mg base
 bs:∀ b o,base.get? b=some o->s.heap.get? b=some o/\H b=none
 bsz:base.objs.size<=s.heap.objs.size
 lI:s.heap.FunFrames base outer
 frf:∀ b∈frs outer,H b=none
 hok:HOk P w H s.heap
 bare:Qc s.gens
noncomputable def CE(outer:List Env)(P:Nl)(w:Nq)(H:Hp)(s:M_)(Q:VK)(u:M7)(s':M_):Prop:=
 ∃ v H',s'.os=s.os/\Qc s'.gens/\Un (frs outer) [] H H' s.heap s'.heap/\HOk P w H' s'.heap/\RelV v u/\Q v H'
noncomputable def CR(CX:CXT)(outer:List Env)(P:Nl)(w:Nq)(H:Hp)(s:M_)(Q:VK)(E:XK)(r:RX)(s':M_):Prop:=
 match r with
 | .ok (.ret u)=>CE outer P w H s Q u s'
 | .ok _=>False
 | .error e=>CX outer H s E e s'
structure FnOk (P:Nl) (w:Nq) (K:M8) (mg:Str->Option M7) (base:Nr) (CX:CXT) (k:Nat) (f:M9) (fd:NB) (ps:List Str) (sp:Sp):Prop where
 len:∀ vs H Q E,sp vs H Q E->vs.length=ps.length
 run:∀(A:Nw) (outer:List Env) (s:M_) (H:Hp) (args:Args) (us:List M7) (vs:List V) (Q:VK) (E:XK),Room k A->Env0 P w K mg base A outer s H->Rm s fd args (ps.zip us)->Vals vs us->sp vs H Q E->
  Om (Ni P w) A (.call (.ref f) args) (CR CX outer P w H s Q E) s
theorem FnOk.imp {P:Nl}{w:Nq}{K:M8}{mg:Str->Option M7}{base:Nr}{CX:CXT}{k:Nat}{f:M9}{fd:NB}{ps:List Str}{sp sp':Sp}(F:FnOk P w K mg base CX k f fd ps sp)
  (h:∀ vs H Q E,sp' vs H Q E->sp vs H Q E):FnOk P w K mg base CX k f fd ps sp':=
 ⟨fun vs H Q E q=>F.len vs H Q E (h _ _ _ _ q),fun A outer s H args us vs Q E hr he hb hv hs=>F.run A outer s H args us vs Q E hr he hb hv (h _ _ _ _ hs)⟩
section
variable{X:Cx}{pins:List (M9 × Obj)}{σ:St}{H:Hp}{s s':M_}
theorem Inv.Ii (I:Inv X pins σ H s):Env0 X.prog X.w X.K X.mg X.base X.A X.stack s H:=
 ⟨I.ok.frames,I.ok.mod,I.bs,z_ I.ok.bsz I.sz,I.stack,I.oQ,I.hok,I.bare⟩
theorem Inv.after {Q:VK}{u:M7}(I:Inv X pins σ H s)(h:CE X.stack X.prog X.w H s Q u s'):EP X pins σ Q u s':=by
 obtain⟨v,H',os,bare,un,hok,r,q⟩:=h
 obtain⟨hh,g,d,t,os'⟩:=s'
 obtain rfl:os'=s.os:=os
 exact⟨v,H',I.call (h':=hh) (g':=g) (d':=d) (t':=t) (ch:=[]) un hok bare (fun b z=>absurd z (by simp)),r,q⟩
end
def yC(sp:Sp)(dvs:List V)(E:XK)(t:TA):TE:=fun σ H Q=>t σ H fun vs H1=>sp (vs++dvs) H1 Q E
noncomputable def Binds(K:M8)(fd:NB)(ps:List Str)(ds:List M7):Prop:=
 ∀(s:M_) (us:List M7),K.In s.heap->(us++ds).length=ps.length->Rm s fd ⟨us,[]⟩ (ps.zip (us++ds))
theorem Binds.all {K:M8}{fd:NB}{ps:List Str}(h:∀ us:List M7,us.length=ps.length->UC fd ⟨us,[]⟩=pure (ps.zip us)):Binds K fd ps []:=fun s us _ hl=>by
 rw[IP]at hl ⊢
 exact .of_eq (h us hl)
noncomputable def Passes(CX:CXT)(X:Cx)(E:XK):Prop:=∀(pins:List (M9 × Obj)) (σ:St) (H:Hp) (s:M_) (e:M7) (s':M_),Inv X pins σ H s->CX X.stack H s E e s'->X.xe e s'
section
variable{X:Cx}{CX:CXT}{k:Nat}{f C:M9}{fd:NB}{ps:List Str}{sp:Sp}{dvs:List V}{ds:List M7}{E:XK}{x m:Str}{p pos apos:Pos}{e o:Nn}{es:List Nn}{ta:TE}{t:TA}
theorem EM{pins:List (M9 × Obj)}{σ:St}{H:Hp}{s:M_}{Q:VK}{us:List M7}{vs:List V}(F:FnOk X.prog X.w X.K X.mg X.base CX k f fd ps sp)(hr:Room k X.A)(hb:Binds X.K fd ps ds)(hd:Vals dvs ds)(hx:Passes CX X E)
  (I:Inv X pins σ H s) (r:Vals vs us) (h:sp (vs++dvs) H Q E):Nb (Ni X.prog X.w) X.A (call (.ref f) us) (EP X pins σ Q) X.xe s:=by
 have r2:Vals (vs++dvs) (us++ds):=r.append hd
 have hl:(us++ds).length=ps.length:=by rw[<-r2.length];exact F.len _ _ _ _ h
 refine SM (OF (F.run X.A X.stack s H ⟨us,[]⟩ (us++ds) (vs++dvs) Q E hr I.Ii (hb s us I.kIn hl) r2 h) fun r s' hq=>?_)
 cases r with
 | error e=>exact hx pins σ H s e s' I hq
 | ok fl=>
  cases fl with
  | ret u=>exact I.after hq
  | next=>exact Nu hq
  | brk=>exact Nu hq
  | cont=>exact Nu hq
theorem AL(F:FnOk X.prog X.w X.K X.mg X.base CX k f fd ps sp)(hr:Room k X.A)(hg:Gl X x)(hm:X.mg x=some (.ref f))(hk:PR X.K (.ref f)=true)(hb:Binds X.K fd ps ds)(hd:Vals dvs ds)(hx:Passes CX X E)
  (ha:PA X (e::es) t) (hdb:(x ==("__debug__":Str))=false:=by decide) (he:Np (e::es) X.env=(false,NA e X.env)::Np es X.env:=by rfl) (hpl:(O1 pos (Np es X.env)).any (·.1)=false:=by rfl) :
  PE X (.Call (.Name x p) (e::es) [] pos) (yC sp dvs E t):=by
 intro pins s σ H Q I h
 refine N5 (B5 I hg hm ?_ hdb)
 refine PySem.W.callWith_K (h₀:=X.base) I.ok.mod.kin hk (thn (ha pos pins s σ H _ I h) fun us s1 ⟨vs,H1,I1,r,q⟩=>⟨I1.kIn,?_⟩) he hpl
 exact EM F hr hb hd hx I1 r q
end
structure FnScope (N P:List Str) (sc:NO):Prop where
 kind:sc.kind=.function
 co:sc.isCoroutine=false
 gen:sc.isGenerator=false
 nd:N.Nodup
 pre:N.take P.length=P
 par:∀ x∈P,sc.names.lookup x=some .local\/sc.names.lookup x=some .cell
 nofree:∀ y∈sc.names,y.2≠.free
theorem nC{kindOf:Str->Option Oz}{x:Str}:∀ {binds:List (Str × M7)} {m:Str->Option M7},(∀ v,(x,v) ∉ binds)->Ry kindOf binds m x=m x
 | [],_,_=>rfl
 | (n,v)::r,m,h=>by
  unfold Ry
  rw[nC fun w hw=>h w (l_ _ hw)]
  split
  ·have:x≠n:=by rintro rfl;exact h v r_
   simp[this]
  rfl
theorem nA{kindOf:Str->Option Oz}{x:Str}:∀ {binds:List (Str × M7)} {m:Str->Option M7},(∀ v,(x,v) ∉ binds)->RA kindOf binds m x=m x
 | [],_,_=>rfl
 | (n,v)::r,m,h=>by
  unfold RA
  rw[nA fun w hw=>h w (l_ _ hw)]
  split
  ·rfl
  have:x≠n:=by rintro rfl;exact h v r_
  simp[this]
theorem nI{kindOf:Str->Option Oz}{x:Str}{v:M7}:∀ {P:List Str} {vs:List M7} {i:Nat} {m:Str->Option M7},P.Nodup->P[i]?=some x->vs[i]?=some v->kindOf x=some .local->
  Ry kindOf (P.zip vs) m x=some v
 | [],_,_,_,_,h,_,_=>by simp at h
 | _::_,[],_,_,_,_,h,_=>by simp at h
 | p::P,w::vs,0,m,nd,h1,h2,hk=>by
  simp at h1 h2;subst h1;subst h2
  show Ry kindOf ((p,w)::P.zip vs) m p=_
  unfold Ry
  rw[nC fun v hv=>(E_.mp nd).1 (LY hv).1,if_pos hk]
  simp
 | p::P,w::vs,i + 1,m,nd,h1,h2,hk=>by
  show Ry kindOf ((p,w)::P.zip vs) m x=_
  unfold Ry
  exact nI (i:=i) (E_.mp nd).2 (by simpa using h1) (by simpa using h2) hk
theorem nH{kindOf:Str->Option Oz}{x:Str}{v:M7}:∀ {P:List Str} {vs:List M7} {i:Nat} {m:Str->Option M7},P.Nodup->P[i]?=some x->vs[i]?=some v->kindOf x≠some .local->
  RA kindOf (P.zip vs) m x=some v
 | [],_,_,_,_,h,_,_=>by simp at h
 | _::_,[],_,_,_,_,h,_=>by simp at h
 | p::P,w::vs,0,m,nd,h1,h2,hk=>by
  simp at h1 h2;subst h1;subst h2
  show RA kindOf ((p,w)::P.zip vs) m p=_
  unfold RA
  rw[nA fun v hv=>(E_.mp nd).1 (LY hv).1,if_neg hk]
  simp
 | p::P,w::vs,i + 1,m,nd,h1,h2,hk=>by
  show RA kindOf ((p,w)::P.zip vs) m x=_
  unfold RA
  exact nH (i:=i) (E_.mp nd).2 (by simpa using h1) (by simpa using h2) hk
def start(N:List Str)(vs:List V):St:=vs.map some++w_ (N.length - vs.length) none
noncomputable def tq(CX:CXT)(P:Nl)(w:Nq)(K:M8)(mg:Str->Option M7)(base:Nr)(N:List Str)(qual:Str)(scope:NO)(f:M9)(cd:M7)(A:Nw)(outer:List Env)(s:M_)(H:Hp)(E:XK):Cx where
 prog:=P
 w:=w
 K:=K
 mg:=mg
 base:=base
 A:=A.deeper (Qf qual scope s.heap.objs.size f cd)
 N:=N
 s₀:=s
 H₀:=H
 env:=Qf qual scope s.heap.objs.size f cd
 outer:=outer
 stack:=Qf qual scope s.heap.objs.size f cd::outer
 ex:=[]
 calm:=true
 fn:=fun _=>true
 pn:=[]
 xe:=fun e s'=>Nb (Ni P w) (A.deeper (Qf qual scope s.heap.objs.size f cd)) (leaving (Qf qual scope s.heap.objs.size f cd) e) (fun _ s''=>CX outer H s E e s'') (fun e' s''=>CX outer H s E e' s'') s'
theorem qo{sc:NO}{n:Nat}{x:Str}(h:sc.names.lookup x=some .cell):∃ c,(NV n sc.names []).lookup x=some c:=by
 have q:=Rf sc.names n [] (.inl h)
 exact Option.isSome_iff_exists.mp q
theorem wm{CX:CXT}{P:Nl}{w:Nq}{K:M8}{mg:Str->Option M7}{base:Nr}{N ps:List Str}{qual:Str}{scope:NO}{f:M9}{cd:M7}{A:Nw}{outer:List Env}{s s1:M_}{H:Hp}{E:XK}{us:List M7}{vs:List V}
  (S:FnScope N ps scope) (hd:A.handled=none) (e0:Env0 P w K mg base A outer s H) (hl:vs.length=ps.length) (r:Vals vs us)
  (x:InCallC s s.heap.objs.size (Ry (Qf qual scope s.heap.objs.size f cd).kindOf (ps.zip us) fun _=>none) (NV (s.heap.objs.size + 1) scope.names []) (RA (Qf qual scope s.heap.objs.size f cd).kindOf (ps.zip us) fun _=>none) s1) :
  Inv (tq CX P w K mg base N qual scope f cd A outer s H E) [] (start N vs) H s1:=by
 have hpl:ps.length<=N.length:=by have:=congrArg Lm S.pre;rw[D']at this;lia
 obtain⟨h1,tk,rfl,hk⟩:=x.done
 have noA:∀ b:M9,b ∉ (tq CX P w K mg base N qual scope f cd A outer s H E).ex:=fun b z=>absurd (show b∈([]:List M9)from z) (by simp)
 refine⟨⟨e0.mod,S.kind,rfl,rfl,d_ _,fun y z c h1 h2=>?_,fun y hy=>?_,fun y c _ h=>?_,fun _=>hd,Around.frames_deeper e0.frames,.inr ⟨rfl,rfl⟩,fun b z=>absurd z (noA b),e0.bs,e0.bsz,fun b _ _=>noA b,fun b z=>absurd z (noA b),e0.lI,e0.frf⟩,
  rfl,e0.bare,Un.kept hk,⟨_,x.toInCall.ns,fun i y v h1 h2 h3=>?_⟩,fun y c h=>⟨_,x.cell y c h⟩,e0.hok.fresh (d_ _),fun y c h=>?_,fun p hp=>absurd (show p∈([]:List (M9 × Obj))from hp) (by simp),e0.hok.kept hk,?_⟩
 ·exact UD x.apart (NM h1) (NM h2)
 ·have hy:scope.names.lookup y=some .cell\/scope.names.lookup y=some .free:=hy
  rcases hy with hy | hy
  ·exact qo hy
  exact absurd rfl (S.nofree _ (NM hy))
 ·exact IJ (x.above y c (NM h))
 ·have hi:i < vs.length:=by
   unfold start at h2
   by_cases hi:i < vs.length
   ·exact hi
   rw[IT (by simpa using hi)]at h2
   rw[List.getElem?_replicate]at h2
   split at h2 <;> cases h2
  have ha:vs[i]?=some v:=by
   unfold start at h2
   rw[Jg (by simpa using hi),B']at h2
   cases e:vs[i]? with
   | none=>rw[e]at h2;cases h2
   | some a=>rw[e]at h2;cases h2;rfl
  obtain⟨u,hu,rv⟩:=r.get ha
  have hp:ps[i]?=some y:=by
   rw[<-S.pre,Jj (by lia)];exact h1
  have ndP:ps.Nodup:=by rw[<-S.pre];exact S.nd.sublist (J5 _ _)
  refine⟨u,rv,?_⟩
  rcases S.par y (t_ hp)with k | k
  ·exact .inl ⟨k,nI ndP hp hu k⟩
  obtain⟨c,e⟩:=qo (n:=s.heap.objs.size + 1) k
  refine .inr ⟨.inl k,c,e,?_⟩
  have q:=x.cell y c e
  rw[nH ndP hp hu (by show scope.names.lookup y≠_;rw[k];decide)]at q
  exact q
 ·exact e0.hok.fresh (IJ (x.above y c (NM h)))
 unfold start
 show _=N.length
 rw[j_,b_,JJ]
 lia
theorem Hj{CX:CXT}{P:Nl}{w:Nq}{K:M8}{mg:Str->Option M7}{base:Nr}{k:Nat}{f:M9}{name qual:Str}{params:Arguments}{body:List NN}{scope:NO}{dV kV doc pm cdv ct oc:M7}{an od:Option M9}
  {osl:Array (Option M7)} {N ps:List Str} {sp:Sp} (lk:K.lookup f=some ⟨oc,od,.func (OG name qual params body scope dV kV doc pm an cdv ct),osl⟩) (hcd:Ql K cdv qual=true) (S:FnScope N ps scope)
  (len:∀ vs H Q E,sp vs H Q E->vs.length=ps.length)
  (hbody:∀(A:Nw) (outer:List Env) (s:M_) (H:Hp) (vs:List V) (Q:VK) (E:XK),Room k (A.deeper (Qf qual scope s.heap.objs.size f cdv))->sp vs H Q E->
   ∃ t,PSs (tq CX P w K mg base N qual scope f cdv A outer s H E) body t/\t { nx:=fun _ H'=>Q .non H',rt:=Q } (start N vs) H) :
  FnOk P w K mg base CX (k + 1) f (OG name qual params body scope dV kV doc pm an cdv ct) ps sp:=by
 refine⟨len,fun A outer s H args us vs Q E hr e0 hb r hsp=>?_⟩
 have hl:=len _ _ _ _ hsp
 have KX:K.In s.heap:=e0.mod.kin.keeps fun b o e=>(e0.bs b o e).1
 have lim:s.heap.NoLimit:=e0.mod.nolimit.keeps fun b o e=>(e0.bs b o e).1
 have hkind:∀ y∈ps.zip us,scope.names.lookup y.1=some .local\/(scope.names.lookup y.1=some .cell/\((NV (s.heap.objs.size + 1) scope.names []).lookup y.1).isSome=true):=fun⟨n,v⟩ hy=>by
  rcases S.par n (LY hy).1 with q | q
  ·exact .inl q
  exact .inr ⟨q,Rf _ _ _ (.inl q)⟩
 refine codeAny_call_function hr.depth (KX _ _ lk) rfl S.co S.gen rfl (PySem.W.codeRec_of KX hcd) (hb _ _ _ _ ?_)
 refine wpAny_newFunctionEnv_cells S.kind hkind fun env he s1 x=>?_
 subst he
 refine⟨lim.keeps x.toInCall.keep,codeAny_func ?_⟩
 obtain⟨t,ht,hq⟩:=hbody A outer s H vs Q E (hr.deeper _) hsp
 have I:Inv (tq CX P w K mg base N qual scope f cdv A outer s H E) [] (start N vs) H s1:=wm S hr.hd e0 hl r x
 refine Nz (ht [] s1 (start N vs) H _ I hq) (fun fl s' hs=>?_) fun e s' hs=>hs
 have fin:∀ {σ':St} {H':Hp} {v:V} {u:M7},Inv (tq CX P w K mg base N qual scope f cdv A outer s H E) [] σ' H' s'->RelV v u->Q v H'->CE outer P w H s Q u s':=
  fun{σ' H' v u} J rv q=>⟨v,H',J.os,J.bare,J.base,J.hok,rv,q⟩
 cases fl with
 | ret u=>
  obtain⟨v,σ',H',J,rv,q⟩:=hs
  exact fin J rv q
 | next=>
  obtain⟨σ',H',J,q⟩:=hs
  exact fin (v:=V.non) (u:=NR) J rfl q
 | brk=>
  obtain⟨_,_,_,q⟩:=hs
  exact Nu q
 | cont=>
  obtain⟨_,_,_,q⟩:=hs
  exact Nu q
section
variable{X:Cx}{x:Str}{p pos:Pos}{e:Nn}{es:List Nn}{t:TA}{id T:String}{r:List V->Hp->VK->Prop}
def tCB(r:List V->Hp->VK->Prop)(t:TA):TE:=fun σ H Q=>t σ H fun vs H1=>r vs H1 Q
theorem aU(hc:cy X (.builtin id) r)(hg:Gl X x)(hm:X.mg x=none)(hv:O0 x=some (.builtin id))(ha:PA X (e::es) t)(hn:x≠"__name__":=by decide)(hdb:(x ==("__debug__":Str))=false:=by decide)
  (he:Np (e::es) X.env=(false,NA e X.env)::Np es X.env:=by rfl) (hpl:(O1 pos (Np es X.env)).any (·.1)=false:=by rfl):PE X (.Call (.Name x p) (e::es) [] pos) (tCB r t):=by
 intro pins s σ H Q I h
 refine N5 (bT I hg hm hv ?_ hn hdb)
 exact SN (thn (ha pos pins s σ H _ I h) fun us s1 ⟨vs,H1,I1,r1,q1⟩=>hc pins s1 σ H1 vs us Q I1 r1 q1) he hpl
theorem nz(hc:cy X (.type T) r)(hg:Gl X x)(hm:X.mg x=none)(hv:O0 x=some (.type T))(ha:PA X (e::es) t)(hn:x≠"__name__":=by decide)(hdb:(x ==("__debug__":Str))=false:=by decide)
  (he:Np (e::es) X.env=(false,NA e X.env)::Np es X.env:=by rfl) (hpl:(O1 pos (Np es X.env)).any (·.1)=false:=by rfl):PE X (.Call (.Name x p) (e::es) [] pos) (tCB r t):=by
 intro pins s σ H Q I h
 refine N5 (bT I hg hm hv ?_ hn hdb)
 exact OE (thn (ha pos pins s σ H _ I h) fun us s1 ⟨vs,H1,I1,r1,q1⟩=>hc pins s1 σ H1 vs us Q I1 r1 q1) he hpl
end
end L2
namespace HT
open PySem PyProof.Rows
section
variable{prog:Nl}{w:Nq}{A:Nw}{E:M7->M_->Prop}{s:M_}
theorem Bf{t b:M9}{vs ws:List M7}{Q:M7->M_->Prop}(ht:T6 s.heap t vs.toArray)(hb:T6 s.heap b ws.toArray)(hv:vs≠[])
  (h1:ws=[]->Q (.ref t) s) (h2:ws≠[]->Q (.ref s.heap.objs.size) { s with heap:=s.heap.push { cls:=.type "tuple",data:=.seq (vs++ws).toArray } })
  (hsz:vs.length + ws.length<=sizeLine):Nb (Ni prog w) A (NY .Add (.ref t) (.ref b)) Q E s:=by
 obtain⟨⟨cls,dd,data,sl⟩,ho,hc,n,hd⟩:=id ht
 obtain⟨⟨cls2,dd2,data2,sl2⟩,ho2,hc2,n2,hd2⟩:=id hb
 simp only at hc hd hc2 hd2
 subst hc hd hc2 hd2
 have e:vs.toArray++ws.toArray=(vs++ws).toArray:=by simp
 by_cases hw:ws=[]
 ·exact RY ⟨_,ho,rfl⟩ ⟨_,ho2,rfl⟩ QQ RK P7 PY (PH _ _)
   (tuple_addW1 t b vs.toArray ws.toArray n n2 dd dd2 sl sl2 (by simpa using hv) (by simp[hw])) ⟨ho,ho2,h1 hw⟩
 refine RY ⟨_,ho,rfl⟩ ⟨_,ho2,rfl⟩ QQ RK P7 PY (PH _ _)
  (tuple_addW2 t b vs.toArray ws.toArray n n2 dd dd2 sl sl2 (by simpa using hv) (by simpa using hw) (by rw[p_,p_];exact hsz)) ⟨ho,ho2,?_⟩
 rw[e]
 exact h2 hw
def sIx(n d:Nat):Option Int->Nat
 | none=>d
 | some v=>if v < 0 then(v + (n:Int)).toNat else min v.toNat n
theorem x6(n d:Nat):sIx n d none=d:=rfl
theorem BV(n d k:Nat):sIx n d (some (k:Int))=min k n:=by
 show(if(k:Int) < 0 then((k:Int) + (n:Int)).toNat else min (k:Int).toNat n)=min k n
 rw[if_neg (by lia),F']
theorem E5(n d:Nat)(hd:d<=n)(o:Option Int):sIx n d o<=n:=by
 cases o with
 | none=>exact hd
 | some v=>
  show(if v < 0 then(v + (n:Int)).toNat else min v.toNat n)<=n
  by_cases hv:v < 0
  ·rw[if_pos hv];lia
  rw[if_neg hv];exact Nat.min_le_right _ _
theorem ux(v:Int)(n d:Nat):(if v < 0 then max (v + (n:Int)) 0 else min v (n:Int))=((sIx n d (some v):Nat):Int):=by
 show(if v < 0 then max (v + (n:Int)) 0 else min v (n:Int))=(((if v < 0 then(v + (n:Int)).toNat else min v.toNat n):Nat):Int)
 by_cases hv:v < 0
 ·simp only[if_pos hv];lia
 simp only[if_neg hv];lia
theorem tY(lo hi:Option Int)(n:Nat):Py lo hi 1 (n:Int)=(((sIx n 0 lo:Nat):Int),((sIx n n hi:Nat):Int)):=by
 have h1:¬((1:Int) < 0):=by lia
 unfold Py
 simp only[h1,if_false]
 refine Prod.ext ?_ ?_
 ·cases lo with
  | none=>rfl
  | some v=>exact ux v n 0
 cases hi with
 | none=>rfl
 | some v=>exact ux v n n
theorem tF(i j:Nat):OV (i:Int) (j:Int) 1=j - i:=by
 unfold OV
 have h1:(1:Int) > 0:=by lia
 simp only[h1,if_true,MT]
 split <;> lia
theorem lQ{v:M7}{o:Option Int}{Q:Option Int->M_->Prop}(p:QR v o)(h:Q o s):Nb (Ni prog w) A (Td v) Q E s:=by
 cases p with
 | none=>exact Te h
 | int i t=>exact slicePart_int h
theorem jf{sl:M9}{vl vu:M7}{lo hi:Option Int}{n:Nat}{Q:Int × Int × Nat->M_->Prop}(hs:s.heap.IsSliceOf sl vl vu .none)(pl:QR vl lo)(pu:QR vu hi)
  (h:Q (((sIx n 0 lo:Nat):Int),1,sIx n n hi - sIx n 0 lo) s):Nb (Ni prog w) A (Qy (.ref sl) (pure (n:Int))) Q E s:=by
 obtain⟨os,hos,hcs,hds⟩:=id hs
 unfold Qy Uh
 refine M6 (M6 (N_ hos hds (x:=vl) rfl (M6 (N_ hos hds (x:=vu) rfl (M6 (N_ hos hds (x:=.none) rfl (M' ?_)))))))
 refine M6 (Te ?_)
 show Nb _ _ (if((1:Int) == 0)=true then _ else _) _ _ s
 rw[if_neg (by decide)]
 refine M6 (lQ pl (M6 (lQ pu (M6 (M' ?_)))))
 show Nb _ _ (match Py lo hi 1 (n:Int)with | (lo,hi)=>pure (lo,(1:Int),OV lo hi 1)) _ _ s
 rw[tY lo hi n]
 show Nb _ _ (pure (((sIx n 0 lo:Nat):Int),(1:Int),OV ((sIx n 0 lo:Nat):Int) ((sIx n n hi:Nat):Int) 1)) _ _ s
 rw[tF]
 exact M' h
theorem zX(xs:Array M7)(i k:Nat):((m_ k).filterMap fun(m:Nat)=>xs[((i:Int) + (m:Int) * 1).toNat]?).toArray=((xs.toList.drop i).take k).toArray:=by
 have e:(fun(m:Nat)=>xs[((i:Int) + (m:Int) * 1).toNat]?)=fun m=>xs[i + m]?:=by
  funext m
  have:((i:Int) + (m:Int) * 1).toNat=i + m:=by lia
  rw[this]
 rw[e]
 have:=pick_run xs i k
 rw[List.filterMap_map]at this
 have e2:((fun x=>xs[x]?) ∘ fun x=>i + x)=fun m=>xs[i + m]?:=rfl
 rw[e2]at this
 rw[this]
theorem gS{t sl:M9}{items:Array M7}{vl vu:M7}{lo hi:Option Int}{Q:M7->M_->Prop}(ht:T6 s.heap t items)(hs:s.heap.IsSliceOf sl vl vu .none)(pl:QR vl lo)(pu:QR vu hi)
  (hw:¬(sIx items.size 0 lo=0/\sIx items.size items.size hi=items.size))
  (h:Q (.ref s.heap.objs.size) { s with heap:=s.heap.push { cls:=.type "tuple",data:=.seq ((items.toList.drop (sIx items.size 0 lo)).take (sIx items.size items.size hi - sIx items.size 0 lo)).toArray } })
  (hsz:items.size<=sizeLine):Nb (Ni prog w) A (Qm (.ref t) (.ref sl)) Q E s:=by
 have htake:sizeOk (.seq ((items.toList.drop (sIx items.size 0 lo)).take (sIx items.size items.size hi - sIx items.size 0 lo)).toArray):=by
  show((items.toList.drop (sIx items.size 0 lo)).take (sIx items.size items.size hi - sIx items.size 0 lo)).toArray.size<=sizeLine
  rw[p_,D',IS,gV]
  omega
 have hj:sIx items.size items.size hi<=items.size:=E5 _ _ (d_ _) hi
 obtain⟨os,hos,hcs,hds⟩:=id hs
 have hTs:s.TypeIs (.ref sl) "slice":=⟨os,hos,hcs⟩
 unfold Qm
 try with_reducible refine Ny ?_
 first | refine M6 (M' ?_) | skip
 refine M6 (wpAny_sequenceKey ht.typeIs (by decide) ?_)
 refine M6 (N2 (name:=N8 "__getitem__") ht.typeIs O9
  (Oc O9 ht.typeIs entry_tuple_getitem ?_ (args_tuple_getitem _ _)))
 show Nb _ _ (TL (.ref t) >>= _) _ _ s
 refine M6 (tupleItemsOf_ ht ?_)
 refine M6 (QS hTs ?_)
 rw[if_pos (by decide)]
 refine M6 (jf hs pl pu ?_)
 have hno:¬((((sIx items.size 0 lo:Nat):Int) == 0 && (1:Int) == 1 && (sIx items.size items.size hi - sIx items.size 0 lo) == items.size)=true):=by
  intro q
  rw[H_,H_]at q
  have q1:((sIx items.size 0 lo:Nat):Int)=0:=eq_of_beq q.1.1
  have q2:sIx items.size items.size hi - sIx items.size 0 lo=items.size:=eq_of_beq q.2
  exact hw ⟨by lia,by lia⟩
 show Nb _ _ (if(((sIx items.size 0 lo:Nat):Int) == 0 && (1:Int) == 1 && (sIx items.size items.size hi - sIx items.size 0 lo) == items.size)=true then _ else _) _ _ s
 rw[if_neg hno,zX]
 first
  | exact M6 (m:=O2 _) (ND (M' ⟨_,rfl,M' h⟩) htake)
  | exact M6 (m:=O2 _) (ND (M6 (M' (M' ⟨_,rfl,M' h⟩))) htake)
  | exact M6 (M6 (m:=O2 _) (ND (M' (M' ⟨_,rfl,M' h⟩)) htake))
  | exact M6 (M6 (m:=O2 _) (ND (M' ⟨_,rfl,M' h⟩) htake))
end
end HT
namespace L2
open PySem PySem.Spec PyProof.Rows
abbrev TO:=St->Hp->(Option Int->Hp->Prop)->Prop
noncomputable def PO(X:Cx)(e:Option Nn)(t:TO):Prop:=
 ∀(pins:List (M9 × Obj)) (s:M_) (σ:St) (H:Hp) (Q:Option Int->Hp->Prop),Inv X pins σ H s->t σ H Q->
  Nb (Ni X.prog X.w) X.A (evalPart e X.env) (fun u s'=>∃ o H',Inv X pins σ H' s'/\QR u o/\Q o H') X.xe s
def Ac:TO:=fun _ H Q=>Q none H
def Gs(t:TE):TO:=fun σ H Q=>t σ H fun x H1=>∃ i,x=.int i/\Q (some i) H1
theorem intsAre_of{ns:List Int}:∀ {us:List M7},Vals (ns.map V.int) us->IntsAre us ns:=by
 induction ns with
 | nil=>intro us r;rw[J9]at r;cases r;exact .nil
 | cons n ns ih=>
  intro us r
  rw[k_]at r
  cases r with
  | cons r1 r2=>
   obtain⟨t,e⟩:=r1
   subst e
   exact .cons n t (ih r2)
section
variable{X:Cx}{e:Nn}{te:TE}{lo hi:Option Nn}{tl th:TO}{pos p2:Pos}
theorem vz:PO X none Ac:=by
 intro pins s σ H Q I h
 rw[TM]
 exact M' ⟨none,H,I,.none,h⟩
theorem um(h:PE X e te):PO X (some e) (Gs te):=by
 intro pins s σ H Q I hw
 rw[evalPart_some]
 refine thn (h pins s σ H _ I hw) ?_
 rintro u s1 ⟨x,H1,I1,r1,q1⟩
 obtain⟨i,rfl,q⟩:=q1
 obtain⟨t,rfl⟩:=r1
 exact⟨some i,H1,I1,.int i t,q⟩
noncomputable def SlR(X:Cx)(r:V->Option Int->Option Int->Hp->VK->Prop):Prop:=
 ∀(pins:List (M9 × Obj)) (s:M_) (σ:St) (H:Hp) (x:V) (v vl vu:M7) (lo hi:Option Int) (sl:M9) (Q:VK),Inv X pins σ H s->RelV x v->s.heap.IsSliceOf sl vl vu .none->QR vl lo->QR vu hi->r x lo hi H Q->
  ∃ T id,typeLookup (.type T) "__getitem__"=pure (some (.builtin id))/\s.TypeIs v T/\Nb (Ni X.prog X.w) X.A (Qm v (.ref sl)) (EP X pins σ Q) X.xe s
noncomputable def tSl(r:V->Option Int->Option Int->Hp->VK->Prop)(te:TE)(tl th:TO):TE:=fun σ H Q=>te σ H fun x H1=>tl σ H1 fun l H2=>th σ H2 fun u H3=>r x l u H3 Q
theorem rq{r:V->Option Int->Option Int->Hp->VK->Prop}(hr:SlR X r)(he:PE X e te)(hl:PO X lo tl)(hu:PO X hi th):PE X (.Subscript e (.Slice lo hi none p2) pos) (tSl r te tl th):=by
 intro pins s σ H Q I h
 refine SO (thn (he pins s σ H _ I h) ?_)
 rintro v s1 ⟨x,H1,I1,r1,q1⟩
 refine wpAny_Slice (thn (hl pins s1 σ H1 _ I1 q1) fun vl s2 ⟨l,H2,I2,pl,q2⟩=>thn (hu pins s2 σ H2 _ I2 q2) ?_)
 rintro vu s3 ⟨u,H3,I3,pu,q3⟩
 rw[TM]
 refine M' ?_
 have I4:Inv X pins σ H3 { s3 with heap:=s3.heap.push { cls:=.type "slice",data:=.fields #[vl,vu,.none] } }:=I3.kept (t':=s3.toks) fun b ob q=>Na _ q
 obtain⟨T,id,hT,ht,hg⟩:=hr pins { s3 with heap:=s3.heap.push { cls:=.type "slice",data:=.fields #[vl,vu,.none] } } σ H3 x v vl vu l u s3.heap.objs.size Q I4 r1 (Vp ..) pl pu q3
 show Nb (Ni X.prog X.w) X.A (P' e (.Slice lo hi none p2) v (.ref s3.heap.objs.size)) (EP X pins σ Q) X.xe { s3 with heap:=s3.heap.push { cls:=.type "slice",data:=.fields #[vl,vu,.none] } }
 exact tail_any (ops:=[.ref s3.heap.objs.size,v]) ht hT hg (by with_unfolding_all rfl)
noncomputable def eF(xs:List V)(lo hi:Option Int):List V:=(xs.drop (HT.sIx xs.length 0 lo)).take (HT.sIx xs.length xs.length hi - HT.sIx xs.length 0 lo)
theorem jz(xs:List V)(lo hi:Option Int):(eF xs lo hi).length<=xs.length:=by
 unfold eF
 rw[D',IS]
 lia
noncomputable def HR(K:M8):V->Option Int->Option Int->Hp->VK->Prop:=fun x lo hi H Q=>∃ a xs,x=.ref a/\SqT K H a xs/\
 ¬(HT.sIx xs.length 0 lo=0/\HT.sIx xs.length xs.length hi=xs.length)/\∀ p,H p=none->Q (.ref p) (upd H p (.tup (eF xs lo hi)))
theorem Es:SlR X (HR X.K):=by
 intro pins s σ H x v vl vu lo hi sl Q I rx hs pl pu h
 obtain⟨a,xs,rfl,hx,hw,q⟩:=h
 cases rx
 obtain⟨its,r,ht,hz⟩:=I.tuple hx
 have hlen:its.toArray.size=xs.length:=by rw[p_];exact r.length.symm
 refine⟨"tuple",_,O9.lookup,ht.typeIs,?_⟩
 refine HT.gS ht hs pl pu (by rw[hlen];exact hw) ?_ (by rw[hlen];exact hz)
 rw[hlen]
 refine⟨.ref s.heap.objs.size,_,I.laid (t':=s.toks) (o:=.tup (eF xs lo hi)) (fun b ob q=>Na _ q) (d_ _) ?_,rfl,q _ (I.hok.fresh (d_ _))⟩
 exact⟨z_ (jz xs lo hi) hz,_,(r.drop (HT.sIx xs.length 0 lo)).take (HT.sIx xs.length xs.length hi - HT.sIx xs.length 0 lo),Tu _ _⟩
noncomputable def FV(K:M8):R2:=fun x y H Q=>∃ a b xs ys,x=.ref a/\y=.ref b/\SqT K H a xs/\SqT K H b ys/\xs≠[]/\xs.length + ys.length<=sizeLine/\
 (ys=[]->Q (.ref a) H)/\(ys≠[]->∀ p,H p=none->Q (.ref p) (upd H p (.tup (xs++ys))))
theorem Vals.o7 {xs:List V}{us:List M7}(r:Vals xs us):us=[]↔xs=[]:=by
 cases r with
 | nil=>simp
 | cons _ _=>simp
theorem C1:OpR X (NY .Add) (FV X.K):=by
 intro pins s σ H x y v u Q I rx ry h
 obtain⟨a,b,xs,ys,rfl,rfl,ha,hb,hx,hz,q1,q2⟩:=h
 cases rx
 cases ry
 obtain⟨its,r1,p1,_⟩:=I.tuple ha
 obtain⟨its2,r2,p2,_⟩:=I.tuple hb
 refine HT.Bf p1 p2 (fun z=>hx (r1.o7.mp z)) (fun z=>⟨.ref a,H,I,rfl,q1 (r2.o7.mp z)⟩) (fun z=>?_) (by rw[<-r1.length,<-r2.length];exact hz)
 refine⟨.ref s.heap.objs.size,_,I.laid (t':=s.toks) (o:=.tup (xs++ys)) (fun b ob q=>Na _ q) (d_ _) ?_,rfl,q2 (fun w=>z (r2.o7.mpr w)) _ (I.hok.fresh (d_ _))⟩
 exact⟨by rw[j_];exact hz,_,r1.append r2,Tu _ _⟩
end
noncomputable def ixN(n:Nat)(i:Int):Option Nat:=if 0<=i then(if i < n then some i.toNat else none)else if -(n:Int)<=i then some (i + n).toNat else none
def atI{α:Type}(xs:List α)(i:Int):Option α:=(ixN xs.length i).bind fun j=>xs[j]?
theorem p9{n:Nat}{i:Int}{j:Nat}(h:ixN n i=some j):Tv i n=some j/\j < n/\-(n:Int)<=i/\i < n:=by
 unfold ixN at h
 by_cases h0:0<=i
 ·rw[if_pos h0]at h
  by_cases h1:i < n
  ·rw[if_pos h1]at h
   have e:i.toNat=j:=v_ h
   exact⟨by rw[Sj h0 h1,e],by lia,by lia,h1⟩
  rw[if_neg h1]at h;cases h
 rw[if_neg h0]at h
 by_cases h1:-(n:Int)<=i
 ·rw[if_pos h1]at h
  have e:(i + n).toNat=j:=v_ h
  exact⟨by rw[RZ (by lia) h1,e],by lia,h1,by lia⟩
 rw[if_neg h1]at h;cases h
theorem oz{α:Type}{xs:List α}{i:Int}{v:α}(h:atI xs i=some v):∃ j,Tv i xs.length=some j/\xs[j]?=some v/\j < xs.length/\-(xs.length:Int)<=i/\i < xs.length:=by
 unfold atI at h
 cases e:ixN xs.length i with
 | none=>rw[e]at h;cases h
 | some j=>
  rw[e]at h
  obtain⟨h1,h2,h3,h4⟩:=p9 e
  exact⟨j,h1,h,h2,h3,h4⟩
theorem kM{α:Type}{xs:List α}{j:Nat}{v:α}(h:xs[j]?=some v):atI xs (j:Int)=some v:=by
 have hj:j < xs.length:=(c_.mp h).1
 have e:ixN xs.length (j:Int)=some j:=by
  unfold ixN
  rw[if_pos (by lia),if_pos (by lia)];simp
 unfold atI;rw[e];exact h
def p8(b:Nn):Prop:=∀ o i,Qp b false o i=U' [o,i] (Qm o i)
noncomputable def IxR(X:Cx)(r:R2):Prop:=
 ∀(value slice:Nn) (pins:List (M9 × Obj)) (s:M_) (σ:St) (H:Hp) (x y:V) (v u:M7) (Q:VK),Inv X pins σ H s->RelV x v->RelV y u->r x y H Q->
  Qp slice false v u=U' [v,u] (Qm v u)->Nb (Ni X.prog X.w) X.A (P' value slice v u) (EP X pins σ Q) X.xe s
noncomputable def MtR(X:Cx)(id:String)(r:V->List V->Hp->VK->Prop):Prop:=
 ∀(pins:List (M9 × Obj)) (s:M_) (σ:St) (H:Hp) (x:V) (xs:List V) (v:M7) (us:List M7) (Q:VK),Inv X pins σ H s->RelV x v->Vals xs us->r x xs H Q->
  Nb (Ni X.prog X.w) X.A (call (.builtin id) (v::us)) (EP X pins σ Q) X.xe s
section
variable{X:Cx}{a b:Nn}{ta tb:TE}{pos:Pos}
theorem IxR.or {r r':R2}(h:IxR X r)(h':IxR X r'):IxR X (fun x y H Q=>r x y H Q\/r' x y H Q):=by
 intro value slice pins s σ H x y v u Q I rx ry q hs
 rcases q with q | q
 ·exact h value slice pins s σ H x y v u Q I rx ry q hs
 exact h' value slice pins s σ H x y v u Q I rx ry q hs
theorem A3{r:R2}(hr:IxR X r)(ha:PE X a ta)(hb:PE X b tb)(hs:p8 b):PE X (.Subscript a b pos) (tOp r ta tb):=by
 intro pins s σ H Q I h
 exact SO (Fp ha hb I h fun v u s2 x y H2 I2 rx ry q=>hr a b pins s2 σ H2 x y v u Q I2 rx ry q (hs _ _))
def CT(K:M8):R2:=fun x y H Q=>∃ p xs i v,x=.ref p/\y=.int i/\SqL K H p xs/\atI xs i=some v/\Q v H
def Gy(K:M8):R2:=fun x y H Q=>∃ p xs i v,x=.ref p/\y=.int i/\SqT K H p xs/\atI xs i=some v/\Q v H
def FL:R2:=fun x y H Q=>∃ z i c,x=.str z/\y=.int i/\z.length<=sizeLine/\atI z.cps.toList i=some c/\Q (.str ⟨#[c]⟩) H
theorem oy:IxR X (CT X.K):=by
 intro value slice pins s σ H x y v u Q I rx ry h hs
 obtain⟨p,xs,i,z,rfl,rfl,hq,he,q⟩:=h
 cases rx
 obtain⟨t,rfl⟩:=ry
 obtain⟨its,r,pl,hz⟩:=I.list hq
 obtain⟨j,h1,h2,h3,h4,h5⟩:=oz he
 obtain⟨w,ew,rw'⟩:=r.get h2
 have hl:=r.length
 have hn:=gv
 have fin:EP X pins σ Q w s:=⟨z,H,I,rw',q⟩
 by_cases h0:0<=i
 ·have hj:i.toNat=j:=by
   rw[Sj h0 h5]at h1
   exact v_ h1
  exact item_listR pl.isList h0 (by lia) (by rw[hj];simpa using ew) fin hs
 have hj:(i + (its.toArray.size:Int)).toNat=j:=by
  rw[RZ (by lia) h4]at h1
  rw[p_,<-hl]
  exact v_ h1
 exact Rg (x:=w) pl.isList.typeIs slot_list_getitem.lookup
  (wpAny_getItem_list_neg (Q:=fun r s'=>r=w/\EP X pins σ Q r s') pl.isList (by lia) (by rw[p_] <;> lia) (by lia) (by rw[hj];simpa using ew) ⟨rfl,fin⟩) hs
theorem Ed:IxR X (Gy X.K):=by
 intro value slice pins s σ H x y v u Q I rx ry h hs
 obtain⟨p,xs,i,z,rfl,rfl,hq,he,q⟩:=h
 cases rx
 obtain⟨t,rfl⟩:=ry
 obtain⟨its,r,pl,hz⟩:=I.tuple hq
 obtain⟨j,h1,h2,h3,h4,h5⟩:=oz he
 obtain⟨w,ew,rw'⟩:=r.get h2
 have hl:=r.length
 have hn:=gv
 have fin:EP X pins σ Q w s:=⟨z,H,I,rw',q⟩
 exact Rg (x:=w) pl.typeIs slot_tuple_getitem.lookup
  (getItem_tuple (j:=j) (Q:=fun r s'=>r=w/\EP X pins σ Q r s') pl (by lia) (by lia) (by rw[p_,<-hl];exact h1) (by simpa using ew) ⟨rfl,fin⟩) hs
theorem yS:IxR X FL:=by
 intro value slice pins s σ H x y v u Q I rx ry h hs
 obtain⟨z,i,c,rfl,rfl,hz,he,q⟩:=h
 obtain⟨t,rfl⟩:=rx
 obtain⟨t',rfl⟩:=ry
 obtain⟨j,h1,h2,h3,h4,h5⟩:=oz he
 have hl:z.cps.toList.length=z.length:=by simp[Str.length]
 rw[hl]at h1 h4 h5
 have hn:=gv
 exact tail_any (typeIs_str s z t) slot_str_getitem.lookup (getItem_str (c:=c) (by
  have e1:decide (i < -(2 ^ 63:Int))=false:=decide_eq_false (by lia)
  have e2:decide (i>=2 ^ 63)=false:=decide_eq_false (by lia)
  rw[e1,e2,MQ]) (by rw[h1];simpa using h2) ⟨.str ⟨#[c]⟩,H,I.tok _,⟨_,rfl⟩,q⟩) hs
def rIx(K:M8):R2:=fun x y H Q=>CT K x y H Q\/Gy K x y H Q\/FL x y H Q
theorem EK:IxR X (rIx X.K):=oy.or (Ed.or yS)
theorem tS(its:List M7)(n j:Nat)(u:M7):NZ (·.setIfInBounds j u) { cls:=.type "list",data:=.seq its.toArray n }={ cls:=.type "list",data:=.seq (its.set j u).toArray n }:=by
 simp[NZ]
theorem Inv.lst {pins:List (M9 × Obj)}{σ:St}{H:Hp}{s:M_}{p:M9}{xs:List V}(I:Inv X pins σ H s)(h:H p=some (.lst xs)) :
  ∃(its:List M7) (n:Nat),Vals xs its/\s.heap.get? p=some { cls:=.type "list",data:=.seq its.toArray n }/\xs.length<=sizeLine:=by
 obtain⟨z,its,n,r,e⟩:=I.hok p _ h
 exact⟨its,n,r,e,z⟩
theorem Inv.CZ {pins:List (M9 × Obj)}{σ:St}{H:Hp}{s:M_}{p:M9}{xs ys:List V}{its its':List M7}{n n':Nat}{f:Obj->Obj}(I:Inv X pins σ H s)(h:H p=some (.lst xs))
  (ho:s.heap.get? p=some { cls:=.type "list",data:=.seq its.toArray n }) (hf:f { cls:=.type "list",data:=.seq its.toArray n }={ cls:=.type "list",data:=.seq its'.toArray n' }) (r:Vals ys its') (hz:ys.length<=sizeLine) (t:Nat) :
  Inv X pins σ (upd H p (.lst ys)) { s with heap:=s.heap.update p f,toks:=t }:=by
 have e:(s.heap.update p f).get? p=some { cls:=.type "list",data:=.seq its'.toArray n' }:=by
  rw[NK f ho (by rw[hf] <;> rfl),hf]
 refine I.write (x:=p) (e:=p) (by rw[h];trivial) (.inl rfl) (fun b u hb q=>(NF _ _ (Oi hb)).trans q) ⟨_,e⟩ ?_
 exact⟨hz,its',n',r,e⟩
noncomputable def G3:V->V->V->Hp->(Hp->Prop)->Prop:=fun o i v H Q=>∃ p xs k j,o=.ref p/\i=.int k/\H p=some (.lst xs)/\ixN xs.length k=some j/\Q (upd H p (.lst (xs.set j v)))
theorem set_list:sA X G3:=by
 intro pins s σ H o i v ov iv u Q I ro ri rv h
 obtain⟨p,xs,k,j,rfl,rfl,hp,hj,q⟩:=h
 cases ro
 obtain⟨t,rfl⟩:=ri
 obtain⟨its,n,r,ho,hz⟩:=I.lst hp
 obtain⟨h1,h2,h3,h4⟩:=p9 hj
 have hl:=r.length
 have hn:=gv
 have I':Inv X pins σ (upd H p (.lst (xs.set j v))) { s with heap:=s.heap.update p (NZ (·.setIfInBounds j u)) }:=
  I.CZ hp ho (tS its n j u) (r.set rv j) (by rw[IE];exact hz) s.toks
 by_cases h0:0<=k
 ·have hk:k.toNat=j:=by
   rw[Sj h0 h4]at h1
   exact v_ h1
  exact PySem.W.ki_setAt ho h0 (by lia) (by rw[p_,<-hl];exact h4) (by rw[hk];exact⟨_,I',q⟩)
 have hk:(k + (its.toArray.size:Int)).toNat=j:=by
  rw[RZ (by lia) h3]at h1
  rw[p_,<-hl]
  exact v_ h1
 exact PySem.W.ki_setBack ho (by lia) (by rw[p_,<-hl];exact h3) (by lia) (by rw[hk];exact⟨_,I',q⟩)
theorem ph(lo hi:Option Int)(n:Nat):(Pu lo hi none n).1=((HT.sIx n 0 lo:Nat):Int)/\(Pu lo hi none n).2.1=((HT.sIx n n hi:Nat):Int)/\(Pu lo hi none n).2.2=1:=by
 refine⟨?_,?_,rfl⟩
 ·cases lo with
  | none=>simp[Pu,HT.sIx]
  | some i=>
   simp only[Pu,HT.sIx,Mz,show(1:Int) > 0 by decide,if_true]
   by_cases h:i < 0
   ·simp only[h,if_true] <;> lia
   simp only[h,if_false] <;> lia
 cases hi with
 | none=>simp[Pu,HT.sIx]
 | some i=>
  simp only[Pu,HT.sIx,Mz,show(1:Int) > 0 by decide,if_true]
  by_cases h:i < 0
  ·simp only[h,if_true] <;> lia
  simp only[h,if_false] <;> lia
theorem md(its:List M7)(lo hi:Option Int):slicePick its.toArray lo hi none=((its.drop (HT.sIx its.length 0 lo)).take (HT.sIx its.length its.length hi - HT.sIx its.length 0 lo)).toArray:=by
 obtain⟨h1,h2,h3⟩:=ph lo hi its.toArray.size
 unfold slicePick
 rw[h1,h2,h3]
 simp only[sliceRange_one,pick_run,p_] <;> rfl
noncomputable def HP(K:M8):V->Option Int->Option Int->Hp->VK->Prop:=fun x lo hi H Q=>∃ a xs,x=.ref a/\SqL K H a xs/\∀ p,H p=none->Q (.ref p) (upd H p (.lst (eF xs lo hi)))
theorem vj:SlR X (HP X.K):=by
 intro pins s σ H x v vl vu lo hi sl Q I rx hs pl pu h
 obtain⟨a,xs,rfl,hx,q⟩:=h
 cases rx
 obtain⟨its,r,ht,hz⟩:=I.list hx
 have hlen:=r.length
 refine⟨"list",_,slot_list_getitem.lookup,ht.isList.typeIs,?_⟩
 refine wpAny_getItem_list_slice ht.isList hs pl pu .none (by simp) ?_ (by rw[p_] <;> lia)
 rw[md,<-hlen]
 refine⟨.ref s.heap.objs.size,_,I.laid (t':=s.toks) (o:=.lst (eF xs lo hi)) (fun b ob q=>Na _ q) (d_ _) ?_,rfl,q _ (I.hok.fresh (d_ _))⟩
 exact⟨z_ (jz xs lo hi) hz,_,0,(r.drop (HT.sIx xs.length 0 lo)).take (HT.sIx xs.length xs.length hi - HT.sIx xs.length 0 lo),Nf _ rfl⟩
theorem cD:cy X (.builtin "len") (fun xs H Q=>∃ p ys,xs=[.ref p]/\(SqL X.K H p ys\/SqT X.K H p ys)/\Q (.int ys.length) H):=by
 intro pins s σ H xs us Q I r h
 obtain⟨p,ys,rfl,hq,q⟩:=h
 obtain⟨u,rfl,rx⟩:=vals1 r
 cases rx
 have hn:=gv
 rcases hq with hq | hq
 ·obtain⟨its,r',pl,hz⟩:=I.list hq
  have hlen:=r'.length
  exact Calls.call_len_list pl.isList (by simp only[p_] <;> lia) ⟨.int ys.length,H,I.tok _,⟨s.toks + 1,by rw[p_,hlen]⟩,q⟩
 obtain⟨its,r',pl,hz⟩:=I.tuple hq
 have hlen:=r'.length
 exact len_tuple pl (by simp only[p_] <;> lia) ⟨.int ys.length,H,I.tok _,⟨s.toks + 1,by rw[p_,hlen]⟩,q⟩
theorem oD:cy X (.builtin "len") (fun xs H Q=>∃ z,xs=[.str z]/\z.length<=sizeLine/\Q (.int z.length) H):=by
 intro pins s σ H xs us Q I r h
 obtain⟨z,rfl,hz,q⟩:=h
 obtain⟨u,rfl,t,rfl⟩:=vals1 r
 have hn:=gv
 exact len_str (by lia) ⟨.int z.length,H,I.tok _,⟨_,rfl⟩,q⟩
theorem iE:cy X (.type "list") (fun xs H Q=>∃ p ys,xs=[.ref p]/\(SqL X.K H p ys\/SqT X.K H p ys)/\∀ l,H l=none->Q (.ref l) (upd H l (.lst ys))):=by
 intro pins s σ H xs us Q I r h
 obtain⟨p,ys,rfl,hq,q⟩:=h
 obtain⟨u,rfl,rx⟩:=vals1 r
 cases rx
 have fin:∀(its:List M7),Vals ys its->ys.length<=sizeLine->∀(h':Nr) (c':Nat),(∀ b o',s.heap.get? b=some o'->h'.get? b=some o')->
   h'.get? s.heap.objs.size=some { cls:=.type "list",dict:=none,data:=.seq its.toArray c',slots:=#[] }->EP X pins σ Q (.ref s.heap.objs.size) { s with heap:=h' }:=fun its r' hz h' c' kp e=>
  ⟨.ref s.heap.objs.size,_,I.laid (t':=s.toks) kp (d_ _) (show bj X.prog X.w _ h' _ (.lst ys)from⟨hz,its,c',r',e⟩),rfl,q _ (I.hok.fresh (d_ _))⟩
 rcases hq with hq | hq
 ·obtain⟨its,r',pl,hz⟩:=I.list hq
  have hlen:=r'.length
  obtain⟨o,ho,hc,n,hd⟩:=pl.isList
  exact TN p (.inl rfl) ho hc hd (fun h' c' kp e=>fin its r' hz h' c' kp e) (by simp only[p_] <;> lia)
 obtain⟨its,r',pl,hz⟩:=I.tuple hq
 have hlen:=r'.length
 obtain⟨o,ho,hc,n,hd⟩:=pl
 exact TN p (.inr rfl) ho hc hd (fun h' c' kp e=>fin its r' hz h' c' kp e) (by simp only[p_] <;> lia)
noncomputable def tyV(K:M8)(T:String)(x:V)(H:Hp):Prop:=match x with
 | .str _=>T="str"
 | .int _=>T="int"
 | .ref p=>(T="list"/\∃ xs,SqL K H p xs)\/(T="tuple"/\∃ o,K.lookup p=some o/\o.cls=.type "tuple"/\o.dict=none)\/
   (T="dict"/\((∃ kvs,H p=some (.dK kvs))\/∃ kvs,H p=some (.dT kvs)))\/(T="set"/\∃ S n,H p=some (.set S n))
 | _=>False
theorem zA{pins:List (M9 × Obj)}{σ:St}{H:Hp}{s:M_}{T:String}{x:V}{v:M7}(I:Inv X pins σ H s)(r:RelV x v)(ty:tyV X.K T x H) :
  s.TypeIs v T/\∀ a,v=.ref a->∃ ob,s.heap.get? a=some ob/\ob.dict=none:=by
 cases x with
 | str z=>
  obtain⟨t,rfl⟩:=r
  cases (show T="str" from ty)
  exact⟨typeIs_str s z t,fun _ e=>nomatch e⟩
 | int i=>
  obtain⟨t,rfl⟩:=r
  cases (show T="int" from ty)
  exact⟨QF s i t,fun _ e=>nomatch e⟩
 | ref p=>
  cases r
  rcases ty with⟨rfl,xs,hq⟩ | ⟨rfl,o,hk,hc,hd⟩ | ⟨rfl,hk⟩ | ⟨rfl,S,n,hk⟩
  ·obtain⟨its,_,pl,_⟩:=I.list hq
   refine⟨pl.isList.typeIs,fun a e=>?_⟩
   cases e
   obtain⟨o,n,e,c,hd,_⟩:=pl
   exact⟨o,e,hd⟩
  ·refine⟨⟨o,I.kIn p o hk,hc⟩,fun a e=>?_⟩
   cases e
   exact⟨o,I.kIn _ o hk,hd⟩
  ·have z:∃ o,s.heap.get? p=some o/\o.ExactDict:=by
    rcases hk with⟨kvs,hk⟩ | ⟨kvs,hk⟩
    ·obtain⟨_,_,_,_,o,_,_,e,ex,_⟩:=I.hok p _ hk
     exact⟨o,e,ex⟩
    obtain⟨_,_,_,_,o,_,_,e,ex,_⟩:=I.hok p _ hk
    exact⟨o,e,ex⟩
   obtain⟨o,e,ex⟩:=z
   refine⟨⟨o,e,ex.1⟩,fun a e2=>?_⟩
   cases e2
   exact⟨o,e,ex.2.1⟩
  ·obtain⟨o,_,_,_,e,ex,_⟩:=I.hok p _ hk
   refine⟨⟨o,e,ex.1⟩,fun a e2=>?_⟩
   cases e2
   exact⟨o,e,ex.2.1⟩
 | _=>exact Nu ty
def HQ(K:M8)(T:String)(r:V->List V->Hp->VK->Prop)(to:TE):TE:=fun σ H Q=>to σ H fun x H1=>tyV K T x H1/\r x [] H1 Q
noncomputable def tBM(K:M8)(T:String)(r:V->List V->Hp->VK->Prop)(to:TE)(t:TA):TE:=fun σ H Q=>to σ H fun x H1=>tyV K T x H1/\t σ H1 fun xs H2=>r x xs H2 Q
variable{o e:Nn}{es:List Nn}{to:TE}{t:TA}{name:Str}{apos cpos:Pos}{T id:String}{r:V->List V->Hp->VK->Prop}
theorem Dh(pa:PlainAttrs T)(slot:Tf T name id)(hty:SQ (.builtin id)=pure (.type "method_descriptor"))(hm:MtR X id r)(ho:PE X o to)
  (hbase:Qa o name X.env (NA o X.env)=NA o X.env:=by rfl) (hline:(apos.endLine == cpos.line)=true:=by rfl):PE X (.Call (.Attribute o name apos) [] [] cpos) (HQ X.K T r to):=by
 intro pins s σ H Q I h
 refine wpAny_Call_method0_late hbase hline (thn (ho pins s σ H _ I h) ?_)
 rintro v s1 ⟨x,H1,I1,r1,ty,q1⟩
 obtain⟨h1,h2⟩:=zA I1 r1 ty
 exact⟨T,id,pa,slot,hty,h1,h2,Rh rfl (PySem.evalArgs_none (hm pins s1 σ H1 x [] v [] Q I1 r1 .nil q1))⟩
theorem Ct(pa:PlainAttrs T)(slot:Tf T name id)(hty:SQ (.builtin id)=pure (.type "method_descriptor"))(hm:MtR X id r)(ho:PE X o to)(ha:PA X (e::es) t)
  (hbase:Qa o name X.env (NA o X.env)=NA o X.env:=by rfl)
  (hfew:((O1 cpos (Np (e::es) X.env)).all (fun x=>!x.1) && (UE cpos (Sl [] X.env)).all (fun x=>x.1.isSome)
   && decide ((e::es).length + ([]:List Rn).length + (if([]:List Rn).isEmpty then 0 else 1) < 30))=true:=by rfl)
  (hline:(apos.endLine == cpos.line)=true:=by rfl) (hs:Np (e::es) X.env=(false,NA e X.env)::Np es X.env:=by rfl) (hplain:(O1 cpos (Np es X.env)).any (·.1)=false:=by rfl) :
  PE X (.Call (.Attribute o name apos) (e::es) [] cpos) (tBM X.K T r to t):=by
 intro pins s σ H Q I h
 refine wpAny_Call_method_late hbase hfew hline rfl (thn (ho pins s σ H _ I h) ?_)
 rintro v s1 ⟨x,H1,I1,r1,ty,q1⟩
 obtain⟨h1,h2⟩:=zA I1 r1 ty
 refine⟨T,id,pa,slot,hty,h1,h2,?_⟩
 have hA:=ha cpos pins s1 σ H1 _ I1 q1
 rw[hs]at hA ⊢
 refine Rh (by show(false || (O1 cpos (Np es X.env)).any (·.1))=false;rw[hplain] <;> rfl) (Calls.evalArgs_plain ?_)
 exact thn hA fun us s2 ⟨vs,H2,I2,r2,q2⟩=>hm pins s2 σ H2 x vs v us Q I2 r1 r2 q2
end
noncomputable def MtM(X:Cx)(id:String)(r:V->List V->Hp->VK->Prop):Prop:=
 ∀(pins:List (M9 × Obj)) (s:M_) (σ:St) (H:Hp) (x:V) (xs:List V) (v:M7) (us:List M7) (Q:VK),Inv X pins σ H s->RelV x v->Vals xs us->r x xs H Q->
  Nb (Ni X.prog X.w) X.A (call (.builtin id) (v::us)) (EP X pins σ Q) X.xe s
theorem Vals.one:∀ {x:V} {us:List M7},Vals [x] us->∃ u,us=[u]/\RelV x u
 | _,_,.cons r .nil=>⟨_,rfl,r⟩
theorem Vals.zero:∀ {us:List M7},Vals [] us->us=[]
 | _,.nil=>rfl
theorem Vals.eraseIdx:∀ {xs:List V} {us:List M7} (i:Nat),Vals xs us->Vals (xs.eraseIdx i) (us.eraseIdx i)
 | _,_,_,.nil=>.nil
 | _,_,0,.cons _ t=>t
 | _,_,i + 1,.cons r t=>.cons r (Vals.eraseIdx i t)
theorem Vals.rep {xs:List V}{us:List M7}(h:Vals xs us):∀ k:Nat,Vals (w_ k xs).flatten (w_ k us).flatten
 | 0=>.nil
 | k + 1=>by
  rw[Jh,Jh,J6,J6]
  exact Vals.append h (Vals.rep h k)
theorem mS{α:Type}:∀(l:List α) (i:Nat),(l.eraseIdx i).length<=l.length
 | [],_=>d_ _
 | _::_,0=>JS _
 | _::r,i + 1=>K4 (mS r i)
theorem foldl_rep(its:List M7):∀(k:Nat) (acc:List M7),
  MD (fun x1 x2=>x1++x2) acc.toArray (w_ k its.toArray)=(acc++(w_ k its).flatten).toArray
 | 0,acc=>by simp
 | k + 1,acc=>by
  have e:acc.toArray++its.toArray=(acc++its).toArray:=by simp
  have e2:(acc++its)++(w_ k its).flatten=acc++(w_ (k + 1) its).flatten:=by
   rw[Jh,J6,h_]
  rw[<-e2,<-foldl_rep its k (acc++its),<-e,Jh,Kt]
section
variable{X:Cx}{pins:List (M9 × Obj)}{σ:St}{H:Hp}{s:M_}{l b:M9}{xs ys zs:List V}
theorem Inv.EH {its its':List M7}{n:Nat}{f:Array M7->Array M7}{t':Nat}(I:Inv X pins σ H s)(hH:H l=some (.lst xs))
  (e:s.heap.get? l=some { cls:=.type "list",data:=.seq its.toArray n }) (hf:f its.toArray=its'.toArray) (hv:Vals ys its') (hz:ys.length<=sizeLine) :
  Inv X pins σ (upd H l (.lst ys)) { s with heap:=s.heap.update l (NZ f),toks:=t' }:=by
 have q:=VD e f
 rw[hf]at q
 refine I.write (x:=l) (e:=l) (by rw[hH];exact trivial) (.inl rfl) (fun b' u hb hu=>(NF s.heap (NZ f) (Oi hb)).trans hu) ⟨_,q⟩ ?_
 exact⟨hz,its',_,hv,q⟩
theorem Inv.Gh {its:List M7}{t':Nat}(I:Inv X pins σ H s)(hv:Vals ys its)(hz:ys.length<=sizeLine) :
  Inv X pins σ (upd H s.heap.objs.size (.lst ys)) { s with heap:=s.heap.push { cls:=.type "list",data:=.seq its.toArray },toks:=t' }:=
 I.laid (fun _ _ q=>Na _ q) (d_ _) ⟨hz,its,0,hv,Nf _ rfl⟩
theorem Inv.fresh (I:Inv X pins σ H s):H s.heap.objs.size=none:=I.hok.fresh (d_ _)
theorem Inv.Bk (I:Inv X pins σ H s)(hH:H l=some (.lst xs)):xs.length<=sizeLine/\∃(its:List M7) (n:Nat),Vals xs its/\xs.length=its.length/\s.heap.get? l=some { cls:=.type "list",data:=.seq its.toArray n }:=by
 obtain⟨z,its,n,r,e⟩:=I.hok l _ hH
 exact⟨z,its,n,r,r.length,e⟩
theorem zR{n:Nat}(h:n<=sizeLine):PJ n=false:=by
 unfold PJ
 exact decide_eq_false (by lia)
end
section
variable{X:Cx}
noncomputable def AN:V->List V->Hp->VK->Prop:=fun x vs H Q=>∃ l xs y,x=.ref l/\vs=[y]/\H l=some (.lst xs)/\xs.length < sizeLine/\Q .non (upd H l (.lst (xs++[y])))
theorem fF:MtM X "list.append" AN:=by
 intro pins s σ H x vs v us Q I rx rv h
 obtain⟨l,xs,y,rfl,rfl,hH,hz,q⟩:=h
 cases rx
 obtain⟨u,rfl,ru⟩:=rv.one
 obtain⟨z,its,n,r,hl,e⟩:=I.Bk hH
 refine QG F.slot_list_append ⟨_,e,rfl⟩ F.entry_list_append (F.args_list_append_2 _ _) (PySem.list_append l its.toArray n u (by rw[p_];lia)) ⟨e,?_⟩
 refine⟨.non,_,I.EH (its':=its++[u]) hH e (by simp) (r.append (.cons ru .nil)) ?_,rfl,q⟩
 rw[j_,JK]
 lia
noncomputable def E8:V->List V->Hp->VK->Prop:=fun x vs H Q=>∃ l xs i k y,x=.ref l/\vs=[.int i]/\H l=some (.lst xs)/\-(2 ^ 63)<=i/\i < 2 ^ 63/\Tv i xs.length=some k/\xs[k]?=some y/\Q y (upd H l (.lst (xs.eraseIdx k)))
theorem zY:MtM X "list.pop" E8:=by
 intro pins s σ H x vs v us Q I rx rv h
 obtain⟨l,xs,i,k,y,rfl,rfl,hH,h1,h2,hk,hy,q⟩:=h
 cases rx
 obtain⟨u,rfl,ru⟩:=rv.one
 obtain⟨t,rfl⟩:=ru
 obtain⟨z,its,n,r,hl,e⟩:=I.Bk hH
 obtain⟨w,hw,rw'⟩:=r.get hy
 refine QG F.slot_list_pop ⟨_,e,rfl⟩ F.entry_list_pop (F.args_list_pop_2 _ _)
  (Vd l its.toArray n i t k w (Tg h1 h2) (by rw[p_,<-hl];exact hk) (by rw[<-fk];exact hw) (by rw[p_];lia)) ⟨e,?_⟩
 refine⟨y,_,I.EH (its':=its.eraseIdx k) hH e ?_ (r.eraseIdx k) ?_,rw',q⟩
 ·show its.toArray.eraseIdxIfInBounds k=(its.eraseIdx k).toArray
  rw[List.eraseIdxIfInBounds_toArray]
 have:=mS xs k
 lia
def F1:V->List V->Hp->VK->Prop:=fun x vs H Q=>∃ l xs,x=.ref l/\vs=[]/\H l=some (.lst xs)/\Q .non (upd H l (.lst []))
theorem ze:MtM X "list.clear" F1:=by
 intro pins s σ H x vs v us Q I rx rv h
 obtain⟨l,xs,rfl,rfl,hH,q⟩:=h
 cases rx
 have hus:=rv.zero
 subst hus
 obtain⟨z,its,n,r,hl,e⟩:=I.Bk hH
 refine QG F.slot_list_clear ⟨_,e,rfl⟩ F.entry_list_clear (F.args_list_clear_1 _) (TQ l its.toArray n (by rw[p_];lia)) ⟨e,?_⟩
 exact⟨.non,_,I.EH (its':=[]) (ys:=[]) hH e rfl .nil (F_ _),rfl,q⟩
noncomputable def Iw:R2:=fun x y H Q=>∃ l k xs,x=.ref l/\y=.int k/\H l=some (.lst xs)/\-(2 ^ 63)<=k/\k < 2 ^ 63/\xs.length * k.toNat<=sizeLine/\
 ∀ p,H p=none->Q (.ref p) (upd H p (.lst (w_ k.toNat xs).flatten))
theorem len_rep{α:Type}(xs:List α)(k:Nat):(w_ k xs).flatten.length=k * xs.length:=by
 induction k with
 | zero=>simp
 | succ k ih=>rw[Jh,J6,j_,ih,Nat.succ_mul,Nat.add_comm]
theorem Dl:OpR X (NY .Mult) Iw:=by
 intro pins s σ H x y v u Q I rx ry h
 obtain⟨l,k,xs,rfl,rfl,hH,h1,h2,hz,q⟩:=h
 cases rx
 obtain⟨t,rfl⟩:=ry
 obtain⟨z,its,n,r,hl,e⟩:=I.Bk hH
 have hlen:its.toArray.size * k.toNat<=sizeLine:=by rw[p_,<-hl];exact hz
 have hcap:¬ its.toArray.size * k.toNat >(2 ^ 63 - 1) / 8:=by
  have:(sizeLine:Nat)<=(2 ^ 63 - 1) / 8:=by decide
  lia
 have hfit:¬(!TR k)=true:=by
  rw[Tg h1 h2]
  exact G_
 have hlong:¬ PJ (its.toArray.size * k.toNat)=true:=by
  rw[zR hlen]
  exact G_
 have hnew:MD (fun x1 x2=>x1++x2) #[] (w_ (if its.toArray.isEmpty=true then 0 else k.toNat) its.toArray)=(w_ k.toNat its).flatten.toArray:=by
  have f0:∀ m:Nat,MD (fun x1 x2=>x1++x2) #[] (w_ m its.toArray)=(w_ m its).flatten.toArray:=fun m=>by
   have:=foldl_rep its m []
   rw[Ku]at this
   exact this
  rw[f0]
  cases its with
  | nil=>simp
  | cons a r'=>rw[if_neg (by simp)]
 refine wpAny_binaryOp_repeat_ref (T:="list") (U:="int") (by decide) ⟨_,e,rfl⟩ (fun s'=>QF s' k t) noFill_list_mul F.fills_int_mul SR repeat_list F.slot_int_index.lookup
  (QG SR (QF s k t) F.entry_int_rmul (F.args_int_rmul_2 _ _) (int___rmul___int_list k t l its.toArray n)
   ⟨e,rfl,⟨_,e,rfl⟩,QG F.slot_list_mul ⟨_,e,rfl⟩ F.entry_list_mul (F.args_list_mul_2 _ _) (Sm l its.toArray n k t hfit hcap hlong) ⟨e,?_⟩⟩)
 rw[hnew]
 exact⟨.ref _,_,I.Gh (t':=s.toks) (r.rep k.toNat) (by rw[len_rep,Nat.mul_comm];exact hz),rfl,q _ I.fresh⟩
end
section
variable{κ:Type}[DecidableEq κ]
def cw(kvs:List (κ × V))(k:κ):Option V:=(kvs.find? fun kv=>decide (kv.1=k)).map (·.2)
noncomputable def putK(kvs:List (κ × V))(k:κ)(v:V):List (κ × V):=
 if(kvs.any fun kv=>decide (kv.1=k))=true then kvs.map (fun kv=>if kv.1=k then(kv.1,v)else kv)else kvs++[(k,v)]
theorem lT{p:κ × V}{r:List (κ × V)}{k:κ}(e:p.1=k):cw (p::r) k=some p.2:=by simp[cw,IZ,e]
theorem m4{p:κ × V}{r:List (κ × V)}{k:κ}(e:¬ p.1=k):cw (p::r) k=cw r k:=by simp[cw,IZ,e]
theorem gW(k:κ):∀ kvs:List (κ × V),(kvs.any fun kv=>decide (kv.1=k))=(cw kvs k).isSome
 | []=>rfl
 | p::r=>by
  rw[JB]
  by_cases e:p.1=k
  ·simp only[lT e,decide_eq_true e,Bool.true_or,Ln]
  rw[m4 e,decide_eq_false e,Bool.false_or];exact gW k r
theorem dR(kvs:List (κ × V))(k:κ)(v:V):(putK kvs k v).length<=kvs.length + 1:=by
 unfold putK
 split
 ·rw[b_];lia
 rw[j_,o_,K8];lia
theorem iz{kvs:List (κ × V)}{k:κ}(v:V)(h:cw kvs k=none):putK kvs k v=kvs++[(k,v)]:=by
 unfold putK
 rw[gW,h]
 exact if_neg (by decide)
theorem mh.j4 {o:Option V}{u:Option M7}(r:mh o u):o.isSome=u.isSome:=by
 cases o with
 | none=>cases u with
  | none=>rfl
  | some _=>exact(show False from r).elim
 | some _=>cases u with
  | none=>exact(show False from r).elim
  | some _=>rfl
theorem KV.val {kvs:List (κ × V)}{vs:List (κ × M7)}(r:KV kvs vs)(k:κ):mh (cw kvs k) (QN vs k):=by
 unfold KV at r
 induction r with
 | nil=>exact OW
 | @cons p q ps qs h t ih=>
  obtain⟨h1,h2⟩:=h
  by_cases e:p.1=k
  ·have e':q.1=k:=h1.symm.trans e
   have b:QN (q::qs) k=some q.2:=by simp[QN,IZ,e']
   rw[lT e,b];exact h2
  have e':¬ q.1=k:=fun z=>e (h1.trans z)
  have b:QN (q::qs) k=QN qs k:=by simp[QN,IZ,e']
  rw[m4 e,b];exact ih
theorem KV.any {kvs:List (κ × V)}{vs:List (κ × M7)}(r:KV kvs vs)(k:κ):(kvs.any fun kv=>decide (kv.1=k))=vs.any fun kv=>decide (kv.1=k):=by
 unfold KV at r
 induction r with
 | nil=>rfl
 | cons h t ih=>rw[JB,JB,ih,h.1]
theorem KV.DY {kvs:List (κ × V)}{vs:List (κ × M7)}(r:KV kvs vs)(k:κ){y:V}{u:M7}(ry:RelV y u) :
  KV (kvs.map fun kv=>if kv.1=k then(kv.1,y)else kv) (vs.map fun kv=>if kv.1=k then(kv.1,u)else kv):=by
 unfold KV at r ⊢
 induction r with
 | nil=>exact .nil
 | @cons p q ps qs h t ih=>
  rw[k_,k_]
  refine .cons ?_ ih
  obtain⟨h1,h2⟩:=h
  by_cases e:p.1=k
  ·rw[if_pos e,if_pos (h1.symm.trans e)];exact⟨h1,ry⟩
  rw[if_neg e,if_neg (fun z=>e (h1.trans z))];exact⟨h1,h2⟩
theorem KV.put {kvs:List (κ × V)}{vs:List (κ × M7)}(r:KV kvs vs)(k:κ){y:V}{u:M7}(ry:RelV y u):KV (putK kvs k y) (stored vs k u):=by
 unfold putK stored
 rw[r.any k]
 by_cases e:(vs.any fun kv=>decide (kv.1=k))=true
 ·rw[if_pos e,if_pos e];exact r.DY k ry
 rw[if_neg e,if_neg e];exact U3 r ⟨rfl,ry⟩
theorem KV.length {kvs:List (κ × V)}{vs:List (κ × M7)}(r:KV kvs vs):kvs.length=vs.length:=P_ r
end
theorem r6{P:Nl}{w:Nq}{k:Key}{u:M7}(r:RelV (kV k) u):(ba P w).is k u=true:=by
 rcases k with i | _ | x
 ·obtain⟨t,e⟩:=(show ∃ t,u=PD i t from r);subst e;exact qN P w i t
 ·cases r;rfl
 obtain⟨t,e⟩:=(show ∃ t,u=RT x t from r);subst e;exact pT P w x t
theorem nG{P:Nl}{w:Nq}:∀ {ks:List Key} {us:List M7},Vals (ks.map kV) us->ItemsAre (ba P w) ks us
 | [],_,r=>by rw[J9]at r;cases r;exact .nil
 | k::ks,_,r=>by
  rw[k_]at r
  cases r with
  | cons h t=>exact .cons (r6 h) (nG t)
abbrev KT(H:Hp):List (List Key × V)->List (List Key × M9 × M7)->Prop:=Ri fun p q=>p.1=q.1/\H q.2.1=some (.tup (p.1.map kV))/\RelV p.2 q.2.2
theorem KT.val {H:Hp}{kvs:List (List Key × V)}{xs:List (List Key × M9 × M7)}(r:KT H kvs xs)(k:List Key):mh (cw kvs k) ((Q7 xs k).map (·.2)):=by
 induction r with
 | nil=>exact OW
 | @cons p q ps qs h t ih=>
  obtain⟨h1,_,h2⟩:=h
  by_cases e:p.1=k
  ·have e':q.1=k:=h1.symm.trans e
   have b:Q7 (q::qs) k=some q.2:=by simp[Q7,IZ,e']
   rw[lT e,b];exact h2
  have e':¬ q.1=k:=fun z=>e (h1.trans z)
  have b:Q7 (q::qs) k=Q7 qs k:=by simp[Q7,IZ,e']
  rw[m4 e,b];exact ih
theorem KT.DY {H:Hp}{kvs:List (List Key × V)}{xs:List (List Key × M9 × M7)}(r:KT H kvs xs)(k:List Key){y:V}{u:M7}(ry:RelV y u) :
  KT H (kvs.map fun kv=>if kv.1=k then(kv.1,y)else kv) (xs.map (putAt k u)):=by
 induction r with
 | nil=>exact .nil
 | @cons p q ps qs h t ih=>
  rw[k_,k_]
  refine .cons ?_ ih
  obtain⟨h1,h2,h3⟩:=h
  unfold putAt
  by_cases e:p.1=k
  ·rw[if_pos e,if_pos (h1.symm.trans e)];exact⟨h1,h2,ry⟩
  rw[if_neg e,if_neg (fun z=>e (h1.trans z))];exact⟨h1,h2,h3⟩
theorem KT.put {H:Hp}{kvs:List (List Key × V)}{xs:List (List Key × M9 × M7)}(r:KT H kvs xs)(k:List Key){b:M9}{y:V}{u:M7}(hb:H b=some (.tup (k.map kV)))(ry:RelV y u) :
  KT H (putK kvs k y) (storedH xs k b u):=by
 have e:(kvs.any fun kv=>decide (kv.1=k))=(Q7 xs k).isSome:=by
  rw[gW,(r.val k).j4,Mr]
 unfold putK storedH
 rw[e]
 by_cases q:(Q7 xs k).isSome=true
 ·rw[if_pos q,if_pos q];exact r.DY k ry
 rw[if_neg q,if_neg q];exact U3 r ⟨rfl,hb,ry⟩
theorem KT.keeps {H H':Hp}{kvs:List (List Key × V)}{xs:List (List Key × M9 × M7)}(r:KT H kvs xs)(ht:∀ b ys,H b=some (.tup ys)->H' b=some (.tup ys)):KT H' kvs xs:=
 Paired.EU r fun _ _ z=>⟨z.1,ht _ _ z.2.1,z.2.2⟩
section
variable{P:Nl}{w:Nq}{H:Hp}{h:Nr}{a:M9}
theorem Ck{u:HO}(ok:HOk P w H h)(e:Rd H a u):bj P w H h a u:=e.ok ok
theorem rO{kvs:List (Key × V)}(ok:HOk P w H h)(e:Rd H a (.dK kvs)):kvs.length<=sizeLine/\(a == Ou)=false/\∃ vs,KV kvs vs/\h.DictOf (ba P w) a vs:=
 show bj P w H h a (.dK kvs)from Ck ok e
theorem Cv{kvs:List (Key × V)}(ok:HOk P w H h)(e:H a=some (.dK kvs)):kvs.length<=sizeLine/\(a == Ou)=false/\∃ vs,KV kvs vs/\h.DictOf (ba P w) a vs:=rO ok (.inl e)
theorem nP{ks:List Key}(ok:HOk P w H h)(e:H a=some (.tup (ks.map kV))):(Q4 (ba P w)).is h ks a:=by
 obtain⟨_,its,r,o,h1,h2,n,h3⟩:=(show bj P w H h a (.tup (ks.map kV))from ok a _ e)
 exact⟨o,its.toArray,n,h1,h2,h3,by simpa using nG r⟩
theorem qF{kvs:List (List Key × V)}(ok:HOk P w H h)(e:Rd H a (.dT kvs)):kvs.length<=sizeLine/\(a == Ou)=false/\
  ∃ xs,KT H kvs xs/\h.DictOfH (Q4 (ba P w)) a xs:=by
 obtain⟨z,y,xs,r,o,es,ep,h1,h2,h3,h4,h5⟩:=(show bj P w H h a (.dT kvs)from Ck ok e)
 refine⟨z,y,xs,r,o,es,ep,h1,h2,h3,h4,fun x hx=>?_,h5⟩
 have all:∀ {l:List (List Key × V)} {m:List (List Key × M9 × M7)},KT H l m->∀ x∈m,(Q4 (ba P w)).is h x.1 x.2.1:=by
  intro l m q
  induction q with
  | nil=>intro x hx;exact nomatch hx
  | @cons p q ps qs hq t ih=>
   intro x hx
   rcases u_.mp hx with e | hx
   ·subst e
    exact nP ok (by rw[<-hq.1];exact hq.2.1)
   exact ih x hx
 exact all r x hx
theorem Gq{kvs:List (List Key × V)}(ok:HOk P w H h)(e:H a=some (.dT kvs)):kvs.length<=sizeLine/\(a == Ou)=false/\
  ∃ xs,KT H kvs xs/\h.DictOfH (Q4 (ba P w)) a xs:=qF ok (.inl e)
end
noncomputable def jo(H:Hp)(a:M9)(y:V)(r:Option V):Prop:=
 (∃ kvs k,Rd H a (.dK kvs)/\y=kV k/\r=cw kvs k)\/∃ kvs k b,Rd H a (.dT kvs)/\y=.ref b/\H b=some (.tup (k.map kV))/\r=cw kvs k
noncomputable def vS(H:Hp)(a:M9)(y v:V)(H':Hp):Prop:=
 (∃ kvs k,H a=some (.dK kvs)/\y=kV k/\kvs.length < sizeLine/\H'=upd H a (.dK (putK kvs k v)))\/
 ∃ kvs k b,H a=some (.dT kvs)/\y=.ref b/\H b=some (.tup (k.map kV))/\kvs.length < sizeLine/\H'=upd H a (.dT (putK kvs k v))
theorem jo.k {H:Hp}{a:M9}{kvs:List (Key × V)}{k:Key}(e:H a=some (.dK kvs)):jo H a (kV k) (cw kvs k):=.inl ⟨kvs,k,.inl e,rfl,rfl⟩
theorem vS.k {H:Hp}{a:M9}{kvs:List (Key × V)}{k:Key}{v:V}(e:H a=some (.dK kvs))(hl:kvs.length < sizeLine):vS H a (kV k) v (upd H a (.dK (putK kvs k v))):=.inl ⟨kvs,k,e,rfl,hl,rfl⟩
section
variable{X:Cx}{pins:List (M9 × Obj)}{σ:St}{H:Hp}{s:M_}{a:M9}{y v:V}{u r:M7}{o:Option V}{A:Nw}{E:M7->M_->Prop}
theorem Inv.big (I:Inv X pins σ H s):Ou < s.heap.objs.size:=by
 have h:N9 < s.heap.objs.size:=(I.mod.glob.keeps I.bk).lt
 exact K9 (by decide) h
theorem n6{Q:M7->M_->Prop}(hu:A.units + 1 < cLine)(I:Inv X pins σ H s)(g:jo H a y (some v))(ry:RelV y u)(h:∀ w' s',Inv X pins σ H s'->RelV v w'->Q w' s') :
  Nb (Ni X.prog X.w) A (Qm (.ref a) u) Q E s:=by
 rcases g with⟨kvs,k,e,ey,l⟩ | ⟨kvs,k,b,e,ey,eb,l⟩
 ·subst ey
  obtain⟨z,hd,vs,rel,dd⟩:=rO I.hok e
  obtain⟨w',hw,rw'⟩:=mh.some_of (v:=v) (o:=QN vs k) (by rw[l];exact rel.val k)
  exact wpAny_getItem_of (r6 ry) dd.mapOf hw (h w' _ (I.tok _) rw')
 subst ey
 cases (show u=N1 b from ry)
 obtain⟨z,hd,xs,rel,dd⟩:=qF I.hok e
 obtain⟨w',hw,rw'⟩:=mh.some_of (v:=v) (o:=(Q7 xs k).map (·.2)) (by rw[l];exact rel.val k)
 obtain⟨p,hp,hp2⟩:=KW.mp hw
 refine wpAny_getItem_heap (Qs hu) (nP I.hok eb) dd hp ?_
 rw[hp2]
 exact h w' _ (I.tok _) rw'
theorem Gk{Q:M7->M_->Prop}(hu:A.units + 1 < cLine)(I:Inv X pins σ H s)(g:jo H a y o)(ry:RelV y u)(h:∀ s',Inv X pins σ H s'->Q (.bool o.isSome) s') :
  Nb (Ni X.prog X.w) A (NP .In u (.ref a)) Q E s:=by
 rcases g with⟨kvs,k,e,ey,l⟩ | ⟨kvs,k,b,e,ey,eb,l⟩
 ·subst ey
  obtain⟨z,hd,vs,rel,dd⟩:=rO I.hok e
  refine wpAny_in_of (r6 ry) hd dd.mapOf ?_
  rw[<-(rel.val k).j4,<-l]
  exact h _ (I.tok _)
 subst ey
 cases (show u=N1 b from ry)
 obtain⟨z,hd,xs,rel,dd⟩:=qF I.hok e
 refine wpAny_in_heap (Qs hu) (nP I.hok eb) hd dd ?_
 have q:=(rel.val k).j4
 rw[Mr]at q
 rw[<-q,<-l]
 exact h _ (I.tok _)
theorem oK{h':Nr}{t':Nat}{ob:HO}(I:Inv X pins σ H s)(mu:Mut (H a))(hs:NX a s.heap h')(he:∃ q,h'.get? a=some q)(new:bj X.prog X.w (upd H a ob) h' a ob) :
  Inv X pins σ (upd H a ob) { s with heap:=h',toks:=t' }:=
 I.write (x:=a) (e:=a) mu (.inl rfl) (fun b q hb z=>(hs.2 b hb).trans z) he new
theorem xY{P:Nl}{w:Nq}{H':Hp}{h':Nr}{kvs:List (Key × V)}{vs:List (Key × M7)}(z:kvs.length<=sizeLine)(hd:(a == Ou)=false)(rel:KV kvs vs)(dd:h'.DictOf (ba P w) a vs) :
  bj P w H' h' a (.dK kvs):=⟨z,hd,vs,rel,dd⟩
theorem iI{H':Hp}{Q:Unit->M_->Prop}(hu:A.units + 1 < cLine)(I:Inv X pins σ H s)(g:vS H a y v H')(ry:RelV y u)(rv:RelV v r)(h:∀ s',Inv X pins σ H' s'->Q () s') :
  Nb (Ni X.prog X.w) A (Tb (.ref a) u r) Q E s:=by
 rcases g with⟨kvs,k,e,ey,l,eH⟩ | ⟨kvs,k,b,e,ey,eb,l,eH⟩
 ·subst ey eH
  obtain⟨z,hd,vs,rel,dd⟩:=Cv I.hok e
  have hz:vs.length<=sizeLine:=by rw[<-rel.length];exact z
  have hl:(putK kvs k v).length<=sizeLine:=by have:=dR kvs k v;lia
  refine wpAny_setItem_pairs (hsz:=hz) (r6 ry) dd fun h' dd' hs=>h _ ?_
  have he:∃ q,h'.get? a=some q:=let ⟨q,_,_,hq,_⟩:=dd';⟨q,hq⟩
  exact oK I (by rw[e];exact OW) hs he (xY hl hd (rel.put k rv) dd')
 subst ey eH
 cases (show u=N1 b from ry)
 obtain⟨z,hd,xs,rel,dd⟩:=Gq I.hok e
 have hz:xs.length<=sizeLine:=by rw[<-P_ rel];exact z
 have hl:(putK kvs k v).length<=sizeLine:=by have:=dR kvs k v;lia
 refine wpAny_setItem_heap (hsz:=hz) (Qs hu) (nP I.hok eb) dd fun h' dd' hs=>h _ ?_
 obtain⟨q,es,ep,hq,h2,h3,h4,_,h5⟩:=dd'
 refine oK I (by rw[e];exact OW) hs ⟨q,hq⟩ ⟨hl,hd,_,(rel.put k eb rv).keeps fun c ys ec=>?_,q,es,ep,hq,h2,h3,h4,h5⟩
 rw[av (Cs ec e (fun z=>nomatch z))]
 exact ec
end
section
variable{X:Cx}{pins:List (M9 × Obj)}{σ:St}{H:Hp}{s:M_}{a:M9}{kvs:List (Key × V)}{k:Key}{u:M7}{A:Nw}{E:M7->M_->Prop}
theorem GU{Q:M7->M_->Prop}(I:Inv X pins σ H s)(e:Rd H a (.dK kvs))(h:∀ t s',Inv X pins σ H s'->Q (.int kvs.length t) s'):Nb (Ni X.prog X.w) A (call (.builtin "len") [.ref a]) Q E s:=by
 obtain⟨z,hd,vs,rel,dd⟩:=rO I.hok e
 refine call_len_dict hd dd (by rw[<-rel.length];rw[NI]at z;lia) ?_
 rw[<-rel.length]
 exact h _ _ (I.tok _)
end
def Ho(i:Nn):Prop:=∀ ov iv,Qp i false ov iv=U' [ov,iv] (Qm ov iv)
theorem Al{prog:Nl}{w:Nq}{A:Nw}{E:M7->M_->Prop}{s:M_}{env:Env}{value slice:Nn}{pos:Pos}{T id:String}{Q:M7->M_->Prop}
  (hl:typeLookup (.type T) "__getitem__"=pure (some (.builtin id))) (hs:Ho slice)
  (h:Nb (Ni prog w) A (NA value env) (fun o s₁=>Nb (Ni prog w) A (NA slice env) (fun i s₂=>s₂.TypeIs o T/\Nb (Ni prog w) A (Qm o i) Q E s₂) E s₁) E s) :
  Nb (Ni prog w) A (NA (.Subscript value slice pos) env) Q E s:=by
 refine SO (Nz h (fun o s₁ h₁=>Nz h₁ (fun i s₂ h₂=>?_) fun _ _ x=>x) fun _ _ x=>x)
 obtain⟨hT,h₂⟩:=h₂
 unfold P'
 refine M6 ?_
 rw[Ro hT.not_modules]
 refine M6 (Pz hT hl ?_)
 have fin:Nb (Ni prog w) A (Qp slice false o i) (fun r s₃=>Nb (Ni prog w) A (Ti value o r >>= fun _=>pure r) Q E s₃) E s₂:=by
  rw[hs o i]
  exact SS (Nz h₂ (fun r s₃ h₃=>M6 (RB (M' h₃))) fun _ _ x=>x)
 first
  | exact M' (M6 fin)
  | exact M6 (M' (M6 fin))
  | exact M6 fin
theorem ju{X:Cx}{pins:List (M9 × Obj)}{σ:St}{H:Hp}{s:M_}{a:M9}{y:V}{o:Option V}(I:Inv X pins σ H s)(g:jo H a y o):s.TypeIs (.ref a) "dict":=by
 rcases g with⟨kvs,k,e,_,_⟩ | ⟨kvs,k,b,e,_,_,_⟩
 ·obtain⟨_,_,vs,_,dd⟩:=rO I.hok e
  exact dd.typeIs
 obtain⟨_,_,xs,_,dd⟩:=qF I.hok e
 exact dd.typeIs
def Hs(td ty:TE):TE:=fun σ H Q=>td σ H fun x H1=>ty σ H1 fun y H2=>∃ a v,x=.ref a/\jo H2 a y (some v)/\Q v H2
noncomputable def FX(td ty tv:TE):TS:=fun D σ H=>tv σ H fun v H1=>td σ H1 fun x H2=>ty σ H2 fun y H3=>∃ a H4,x=.ref a/\vS H3 a y v H4/\D.nx σ H4
section
variable{X:Cx}{o i e value:Nn}{pos pos' tpos:Pos}{td ty tv:TE}
theorem k6(hu:X.A.units + 1 < cLine)(ho:PE X o td)(hi:PE X i ty)(hs:Ho i):PE X (.Subscript o i pos) (Hs td ty):=by
 intro pins s σ H Q I h
 refine Al QH.lookup hs (thn (ho pins s σ H _ I h) fun u s1 ⟨x,H1,I1,rx,q1⟩=>thn (hi pins s1 σ H1 _ I1 q1) ?_)
 rintro iv s2 ⟨y,H2,I2,ry,a,v,ex,g,q2⟩
 subst ex
 obtain rfl:u=N1 a:=rx
 exact⟨ju I2 g,n6 hu I2 g ry fun w' s3 I3 rw'=>⟨v,H2,I3,rw',q2⟩⟩
theorem BZ(hu:X.A.units + 1 < cLine)(ho:PE X o td)(hi:PE X i ty)(hv:PE X value tv)(hs:Pa value (some (.Subscript o i pos')) pos.line X.env=pure false) :
  PS X (.Assign [.Subscript o i pos'] value pos) (FX td ty tv):=by
 intro pins s σ H D I h
 refine wpAny_Assign_Subscript (thn (hv pins s σ H _ I h) fun r s1 ⟨v,H1,I1,rv,q1⟩=>thn (ho pins s1 σ H1 _ I1 q1) fun u s2 ⟨x,H2,I2,rx,q2⟩=>thn (hi pins s2 σ H2 _ I2 q2) fun iv s3 ⟨y,H3,I3,ry,a,H4,ex,g,q3⟩=>?_) hs
 subst ex
 obtain rfl:u=N1 a:=rx
 exact iI hu I3 g ry rv fun s4 I4=>⟨σ,H4,I4,q3⟩
end
theorem xq{P:Nl}{w:Nq}{H:Hp}(h:Nr)(hb:Ou < h.objs.size):bj P w H (h.push { cls:=.type "dict",data:=.dict #[] }) h.objs.size (.dK []):=
 ⟨F_ _,beq_eq_false_iff_ne.mpr (Oi (q_ hb)),[],.nil,VJ h⟩
theorem zS{P:Nl}{w:Nq}{H:Hp}(h:Nr)(hb:Ou < h.objs.size):bj P w H (h.push { cls:=.type "dict",data:=.dict #[] }) h.objs.size (.dT []):=
 ⟨F_ _,beq_eq_false_iff_ne.mpr (Oi (q_ hb)),[],.nil,_,#[],0,Nf _ rfl,⟨rfl,rfl,rfl⟩,rfl,rfl,J_⟩
def EA:TE:=fun _ H Q=>∀ p,H p=none->Q (.ref p) (upd H p (.dT []))
section
variable{X:Cx}{pos:Pos}
theorem yx:PE X (.Dict [] [] pos) EA:=fun pins s σ H Q I h=>
 wpAny_Dict_empty ⟨.ref s.heap.objs.size,_,I.laid (a:=s.heap.objs.size) (o:=.dT []) (t':=s.toks) (fun _ _ q=>Na _ q) (d_ _) (zS s.heap I.big),rfl,h _ (I.hok.fresh (d_ _))⟩
end
noncomputable def tU:List (TE × TE)->St->Hp->(List (V × V)->Hp->Prop)->Prop
 | [],_,H,Q=>Q [] H
 | (tk,tv)::r,σ,H,Q=>tk σ H fun x H1=>tv σ H1 fun y H2=>tU r σ H2 fun ps H3=>Q ((x,y)::ps) H3
abbrev VV:List (V × V)->List (M7 × M7)->Prop:=Ri fun p q=>RelV p.1 q.1/\RelV p.2 q.2
noncomputable def PPs(X:Cx)(pos:Pos)(keys:List (Option Nn))(values:List Nn)(trs:List (TE × TE)):Prop:=
 ∀(pins:List (M9 × Obj)) (s:M_) (σ:St) (H:Hp) (Q:List (V × V)->Hp->Prop),Inv X pins σ H s->tU trs σ H Q->
  Nb (Ni X.prog X.w) X.A (evalPairs (pairTrees keys values X.env pos)) (fun vs s'=>∃ ps H',Inv X pins σ H' s'/\VV ps vs/\Q ps H') X.xe s
theorem BC{X:Cx}{pos:Pos}:PPs X pos [] [] []:=fun pins s σ H Q I h=>pairTrees_nil_walk ⟨[],H,I,.nil,h⟩
theorem rM{X:Cx}{pos:Pos}{k v:Nn}{ks:List (Option Nn)}{vs:List Nn}{tk tv:TE}{trs:List (TE × TE)}(hk:PE X k tk)(hv:PE X v tv)(hr:PPs X pos ks vs trs) :
  PPs X pos (some k::ks) (v::vs) ((tk,tv)::trs):=fun pins s σ H Q I h=>
 pairTrees_cons_walk (thn (hk pins s σ H _ I h) fun u s1 ⟨x,H1,I1,rx,q1⟩=>thn (hv pins s1 σ H1 _ I1 q1) fun w2 s2 ⟨y,H2,I2,ry,q2⟩=>
  thn (hr pins s2 σ H2 _ I2 q2) fun ws s3 ⟨ps,H3,I3,rel,q3⟩=>⟨(x,y)::ps,H3,I3,.cons ⟨rx,ry⟩ rel,q3⟩)
def dQ(kvs more:List (Key × V)):List (Key × V):=more.foldl (fun acc kv=>putK acc kv.1 kv.2) kvs
theorem KV.merge:∀ {more:List (Key × V)} {rs:List (Key × M7)} {kvs:List (Key × V)} {vs:List (Key × M7)},KV more rs->KV kvs vs->KV (dQ kvs more) (merged vs rs):=by
 intro more rs kvs vs r
 unfold KV at r
 induction r generalizing kvs vs with
 | nil=>intro q;exact q
 | @cons p q ps qs h t ih=>
  intro r0
  have e:KV (putK kvs p.1 p.2) (stored vs q.1 q.2):=by
   have:=r0.put p.1 h.2
   rw[<-h.1];exact this
  exact ih e
theorem fL:∀(more kvs:List (Key × V)),(dQ kvs more).length<=kvs.length + more.length
 | [],kvs=>by show kvs.length<=kvs.length + 0;lia
 | p::r,kvs=>by
  have h1:=fL r (putK kvs p.1 p.2)
  have h2:=dR kvs p.1 p.2
  show(dQ (putK kvs p.1 p.2) r).length<=_
  rw[o_];lia
theorem lH{P:Nl}{w:Nq}:∀ {kvs:List (Key × V)} {ws:List (M7 × M7)},VV (kvs.map fun kv=>(kV kv.1,kv.2)) ws->∃ rs,Carries (ba P w) ws rs/\KV kvs rs
 | [],_,r=>by rw[J9]at r;cases r;exact⟨[],OW,.nil⟩
 | p::kvs,_,r=>by
  rw[k_]at r
  cases r with
  | @cons a b as bs h t=>
   obtain⟨rs,c,q⟩:=lH (P:=P) (w:=w) t
   obtain⟨b1,b2⟩:=b
   exact⟨(p.1,b2)::rs,⟨r6 h.1,rfl,c⟩,.cons ⟨rfl,h.2⟩ q⟩
noncomputable def Hg(trs:List (TE × TE)):TE:=fun σ H Q=>∀ p,H p=none->tU trs σ (upd H p (.dK [])) fun ps H2=>H2 p=some (.dK [])/\∃ kvs:List (Key × V),ps=kvs.map (fun kv=>(kV kv.1,kv.2))/\kvs.length<=15/\Q (.ref p) (upd H2 p (.dK (dQ [] kvs)))
theorem B2{X:Cx}{pos:Pos}{keys:List (Option Nn)}{values:List Nn}{trs:List (TE × TE)}(h:PPs X pos keys values trs)(hall:keys.all (·.isSome)=true)(hl:keys.length=values.length)(h0:keys≠[])
  (h15:keys.length<=15):PE X (.Dict keys values pos) (Hg trs):=by
 intro pins s σ H Q I q
 have hn:=I.hok.fresh (d_ s.heap.objs.size)
 have I1:=I.laid (a:=s.heap.objs.size) (o:=.dK []) (h':=s.heap.push { cls:=.type "dict",data:=.dict #[] }) (t':=s.toks) (fun _ _ q=>Na _ q) (d_ _) (xq s.heap I.big)
 refine wpAny_Dict_walk (knd:=ba X.prog X.w) hall hl h0 h15 (thn (h pins _ σ _ _ I1 (q _ hn)) ?_)
 rintro ws s2 ⟨ps,H2,I2,rel,e,kvs,ep,lk,q2⟩
 subst ep
 obtain⟨rs,c,rk⟩:=lH (P:=X.prog) (w:=X.w) rel
 obtain⟨z,hd,vs0,r0,dd⟩:=Cv I2.hok e
 cases r0
 refine⟨rs,c,dd,fun h' dd' hs=>⟨.ref s.heap.objs.size,_,?_,rfl,q2⟩⟩
 have hz:(dQ [] kvs).length<=sizeLine:=by
  have h1:=fL kvs []
  rw[K8]at h1
  rw[NI];lia
 have he:∃ q,h'.get? s.heap.objs.size=some q:=let ⟨q,_,_,hq,_⟩:=dd';⟨q,hq⟩
 exact oK I2 (by rw[e];exact OW) hs he (xY hz hd (rk.merge .nil) dd')
end L2
namespace Att
open PySem PySem.W PySem.Calls PyProof.Rows
theorem jG{P:QT}{h:Nr}:∀(ns:List Int) (vs:List M7),WellAll P h vs (ns.map WData.int)->IntsAre vs ns:=by
 intro ns
 induction ns with
 | nil=>
  intro vs w
  rw[J9]at w
  cases w
  exact .nil
 | cons n ns ih=>
  intro vs w
  rw[k_]at w
  cases w with
  | cons a b=>
   cases a
   exact .cons _ _ (ih _ b)
theorem vF{l:OpenLaw}{n:Nat}(hn:l.most=some n){P:QT}{h:Nr}{args:List WData}{vals:List M7}
  (hpre:l.row.toRowW.claim.pre args=true) (hwl:WellAll P h vals args) :
  ∃ a vs ns,vals=[N1 a]/\args=[WData.list (ns.map WData.int)]/\h.get? a=some { cls:=.type "list",data:=.seq vs.toArray }/\IntsAre vs ns/\ns.length<=n:=by
 have hsh:WShape.hasAll [] args [.list .int]=true:=(pre_splitW hpre).1
 have hc:l.pre.holds [] { args:=args }=true:=(pre_splitW hpre).2
 obtain⟨d,r,rfl,h1,h2⟩:=hasAllW_cons hsh
 obtain rfl:=hasAllW_nil h2
 obtain⟨xs,rfl,h3⟩:=hasW_list h1
 obtain⟨ns,rfl⟩:=items_int h3
 have hlen:ns.length<=n:=by
  unfold OpenLaw.pre at hc
  have h4:(WTm.not (.lt (.lit (.int (n:Int))) (.len (.arg 0)))).holds [] { args:=[.list (ns.map .int)] }=true:=by
   have h4:=(holds_andW hc).1
   rw[hn]at h4
   exact h4
  have h5:=condW_of h4 (w_not (w_lt w_lit (w_len_list (w_arg rfl))))
  rw[b_]at h5
  refine IU fun q=>?_
  have q':(n:Int) < ((ns.length:Nat):Int):=by lia
  first
   | (rw[decide_eq_true q']at h5;exact absurd h5 (by decide))
   | (simp at h5;omega)
 cases hwl with
 | cons w1 w2=>
  cases w2
  cases w1 with
  | list ho hall=>exact⟨_,_,ns,rfl,rfl,ho,jG ns _ hall,hlen⟩
theorem vE(l:OpenLaw)(args:List WData):l.row.toRowW.claim.post args (.bool true) args=true:=
 postW_of (r:=l.row.toRowW) (X:=(true == true))
  (show WShape.has [] (.bool true) .bool=true by first | rfl | decide | simp[WShape.has,WShape.arms,WShape.armsAll])
  (show(WTm.eq .res (.lit (.bool true))).value [] { args:=args,res:=some (.bool true),after:=args }=some (.bool (true == true))from w_eq_bool (w_res rfl) w_lit) rfl
theorem pY{l:OpenLaw}{n:Nat}{q:Nl}{loose:List Str}{XP:(Str->Option M7)->Nr->Prop}{YP:Nq->Nr->Prop}{d:DefRec}
  (hn:l.most=some n) (hdf:d.params.defaults=[])
  (call:∀(w:Nq) (s₀ s₁:M_) (mg mb:Str->Option M7) (fa:M9) (o:Obj) (pm cd doc:M7) (a:M9) (vs:List M7) (ns:List Int),
   Ground q loose [] XP w s₀ mg mb s₁.heap->YP w s₁.heap->
   s₁.heap.get? fa=some o->o.data=.func (docDef d.name d.params d.body d.scope pm cd doc)->s₁.heap.CodeRec cd d.name->mg d.name=some (.ref fa)->
   s₁.heap.get? a=some { cls:=.type "list",data:=.seq vs.toArray }->IntsAre vs ns->ns.length<=n->s₁.gens=#[]->
   Om (Ni l.prog w) QO (.call (.ref fa) ⟨[.ref a],[]⟩) (fun r s'=>r=.ok (.ret (.bool true))/\OldK s₁.heap s'.heap/\s'.os=s₁.os/\Qc s'.gens) s₁) :
  WalkO q loose XP YP l.row.toRowW d [] (fun f vs=>SU f vs):=by
 intro w s₀ s₁ mg mb G Y fa o pm cd doc dV kV ho hd hcd hD hmg hg args vals as hpre hlay hrd hwl hlo
 obtain rfl:dV=.none:=Dflts.none hD hdf
 obtain rfl:kV=.none:=Dflts.noKw hD
 obtain⟨a,vs,ns,rfl,rfl,hobj,hints,hlen⟩:=vF hn hpre hwl
 refine enter_call (OF (call w s₀ s₁ mg mb fa o pm cd doc a vs ns G Y ho (fd_plain hd) hcd hmg hobj hints hlen hg) fun r s' hq=>?_)
 obtain⟨rfl,h2,h3,h4⟩:=hq
 exact⟨.inl ⟨.bool true,.bool true,[],rfl,fun _=>rfl,.bool true,vE l _,fun _=>⟨KP,fun _ hm=>(nomatch hm)⟩⟩,h2,h3,h4⟩
section
variable{prog:Nl}{w:Nq}{A:Nw}{E:M7->M_->Prop}{s:M_}{K:Frag}
noncomputable def ledger(h:Nr)(L d:M9):List (M9 × Obj):=(m_ h.objs.size).filterMap fun a=>if a=L\/a=d then none else(h.get? a).map fun o=>(a,o)
end
end Att
namespace L2
open PySem PySem.Spec PyProof.Rows
theorem mL:∀ {vs:List M7} {ns:List Int},IntsAre vs ns->Vals (ns.map V.int) vs
 | _,_,.nil=>.nil
 | _,_,.cons n t h=>.cons ⟨t,rfl⟩ (mL h)
def Fq(H:Hp):Prop:=∀ b,H b=none\/∃ o xs,H b=some (.frz o (.lst xs))
theorem zK{P:Nl}{w:Nq}{K:M8}{mg mb:Str->Option M7}{CX:CXT}{k:Nat}{fa a:M9}{fd:NB}{x:Str}{sp:Sp}{s₁:M_}{vs:List M7}{ns:List Int}
  (KX:K.In s₁.heap) (hns:s₁.heap.Ns N9 mg) (hb:s₁.heap.Ns QE mb) (hbb:∀ x:Str,x≠"__name__"->mb x=O0 x) (hlim:s₁.heap.NoLimit) (hg:s₁.gens=#[])
  (ha:s₁.heap.get? a=some { cls:=.type "list",data:=.seq vs.toArray }) (hi:IntsAre vs ns) (hl:ns.length<=sizeLine) (hr:Room k QO)
  (F:∀ base:Nr,K.In base->base.Ns N9 mg->FnOk P w K mg base CX k fa fd [x] sp) (hbind:∀(s:M_) (u:M7),Rm s fd ⟨[u],[]⟩ [(x,u)])
  (hsp:∀ H:Hp,Fq H->SqL K H a (ns.map V.int)->sp [.ref a] H (fun v _=>v=.bl true) fun _ _ _=>False)
  (hCX:∀ H e s',CX [] H s₁ (fun _ _ _=>False) e s'->False) :
  Om (Ni P w) QO (.call (.ref fa) ⟨[.ref a],[]⟩) (fun r s'=>r=.ok (.ret (.bool true))/\OldK s₁.heap s'.heap/\s'.os=s₁.os/\Qc s'.gens) s₁:=by
 have rv:=mL hi
 have lenV:=hi.length
 have core:∀ H:Hp,Fq H->SqL K H a (ns.map V.int)->HOk P w H s₁.heap->(∀ b,H b≠none->b=a)->(H a≠none->K.lookup a=none)->
   Om (Ni P w) QO (.call (.ref fa) ⟨[.ref a],[]⟩) (fun r s'=>r=.ok (.ret (.bool true))/\OldK s₁.heap s'.heap/\s'.os=s₁.os/\Qc s'.gens) s₁:=by
  intro H hO hS hok hA hK
  have base_of:∀ {b:M9} {o:Obj},s₁.heap.get? b=some o->H b=none->(og s₁.heap H).get? b=some o:=fun e n=>yV e n
  have noA:∀ {b:M9} {o:Obj} {es:Array Tw} {ep:Nat},s₁.heap.get? b=some o->o.data=.dict es ep->H b=none:=fun{b o es ep} e d=>by
   cases q:H b with
   | none=>rfl
   | some u=>
    have e':b=a:=hA b (by rw[q];simp)
    subst e'
    rw[ha]at e;cases e
    have d':UG vs.toArray _=Data.dict es ep:=d
    cases d'
  have nsK:∀ {b:M9} {m:Str->Option M7},s₁.heap.Ns b m->(og s₁.heap H).Ns b m:=fun{b m} ⟨o,es,ep,e,d,r⟩=>⟨o,es,ep,base_of e (noA e d),d,r⟩
  have hKb:K.In (og s₁.heap H):=fun b o e=>base_of (KX b o e) (by
   cases q:H b with
   | none=>rfl
   | some u=>
    have e':b=a:=hA b (by rw[q];simp)
    subst e'
    rw[hK (by rw[q];simp)]at e;cases e)
  have hM:Mod K mg (og s₁.heap H):=⟨hKb,nsK hns,⟨mb,nsK hb,hbb⟩,let ⟨mc,h1,h2⟩:=hlim;⟨mc,nsK h1,h2⟩⟩
  have e0:Env0 P w K mg (og s₁.heap H) QO [] s₁ H:=⟨rfl,hM,fun b o e=>C3 e,Kz (wz _ _),trivial,fun b hb=>absurd (show b∈([]:List M9)from hb) (by simp),hok,.of_eq hg⟩
  refine OF ((F _ hKb (nsK hns)).run QO [] s₁ H ⟨[.ref a],[]⟩ [.ref a] [.ref a] _ _ hr e0 (hbind s₁ (.ref a)) (.cons rfl .nil) (hsp H hO hS)) fun r s' h=>?_
  cases r with
  | error e=>exact(hCX H e s' h).elim
  | ok fl=>
   cases fl with
   | next=>exact Nu h
   | brk=>exact Nu h
   | cont=>exact Nu h
   | ret u=>
    obtain⟨v,H',os,bare,un,hok',r',q⟩:=h
    have q':v=.bl true:=q
    subst q'
    obtain rfl:u=SF true:=r'
    refine⟨rfl,OldK.of_keep fun b o e=>?_,os,bare⟩
    cases q:H b with
    | none=>exact un.keep b o e q (by intro z;exact absurd (show b∈([]:List M9)from z) (by simp)) (by simp)
    | some u=>
     rcases hO b with z | ⟨ob,xs,z⟩
     ·rw[q]at z;cases z
     have z2:=un.frzs b ob _ z
     obtain⟨e1,_⟩:=hok b _ z
     obtain⟨e2,_⟩:=hok' b _ z2
     rw[e]at e1;cases e1
     exact e2
 cases hk:K.lookup a with
 | some o=>
  have e:=KX a o hk
  rw[ha]at e
  cases e
  refine core (fun _=>none) (fun _=>.inl rfl) (.inr ⟨_,vs.toArray,_,hk,rfl,rfl,rfl,by rw[p_,lenV];exact hl,by simpa using rv⟩) (fun b u z=>by have z':(none:Option HO)=some u:=z;cases z') (fun b z=>absurd rfl z) fun z=>absurd rfl z
 | none=>
  refine core (fun b=>if b=a then some (.frz { cls:=.type "list",data:=.seq vs.toArray } (.lst (ns.map V.int)))else none) (fun b=>?_) (.inl (.inr ⟨{ cls:=.type "list",data:=.seq vs.toArray },if_pos rfl⟩)) (fun b u z=>?_) (fun b z=>?_) fun _=>hk
  ·by_cases hb:b=a
   ·exact .inr ⟨_,_,if_pos hb⟩
   exact .inl (if_neg hb)
  ·by_cases hb:b=a
   ·have z':=(if_pos hb).symm.trans z
    cases z'
    subst hb
    exact⟨ha,by rw[b_];exact hl,vs,_,rv,ha⟩
   have z':=(if_neg hb).symm.trans z
   cases z'
  by_cases hb:b=a
  ·exact hb
  exact absurd (if_neg hb) z
theorem Bm{l:Q8}{n k:Nat}{q:Nl}{loose:List Str}{XP:(Str->Option M7)->Nr->Prop}{YP:Nq->Nr->Prop}{d:DefRec}{K:QT->M8}{CX:Nq->CXT}{sp:Nq->Sp}{x:Str}
  (hn:l.most=some n) (hn2:n<=sizeLine) (hdf:d.params.defaults=[]) (hr:Room k QO)
  (hY:∀(w:Nq) (h:Nr),YP w h->(K w.params).In h)
  (F:∀(w:Nq) (mg:Str->Option M7) (fa:M9) (h:Nr),(K w.params).In h->h.Ns N9 mg->mg d.name=some (.ref fa)->
   ∃ fd:NB,(∀(s:M_) (u:M7),Rm s fd ⟨[u],[]⟩ [(x,u)])/\
    ∀ base:Nr,(K w.params).In base->base.Ns N9 mg->FnOk l.prog w (K w.params) mg base (CX w) k fa fd [x] (sp w))
  (hsp:∀(w:Nq) (H:Hp) (a:M9) (ns:List Int),ns.length<=n->Fq H->SqL (K w.params) H a (ns.map V.int)->sp w [.ref a] H (fun v _=>v=.bl true) fun _ _ _=>False)
  (hCX:∀(w:Nq) (H:Hp) (s:M_) (e:M7) (s':M_),CX w [] H s (fun _ _ _=>False) e s'->False) :
  TU q loose XP YP l.row.toRowW d [] (fun f vs=>SU f vs):=by
 refine Att.pY hn hdf fun w s₀ s₁ mg mb fa o pm cd doc a vs ns G Y ho hd hcd hmg hobj hints hlen hg=>?_
 have KX:=hY w _ Y
 obtain⟨fd,hb,hF⟩:=F w mg fa _ KX G.T.g hmg
 exact zK KX G.T.g G.T.b G.T.builtins G.T.nolimit hg hobj hints (z_ hlen hn2) hr hF hb (fun H hO hS=>hsp w H a ns hlen hO hS) fun H e s'=>hCX w H s₁ e s'
noncomputable def cM(s:NN):Arguments:=match s with
 | .FunctionDef _ a _ _ _ _ _ _ _ _=>a
 | _=>{ posonlyargs:=[],args:=[],vararg:=none,kwonlyargs:=[],kw_defaults:=[],kwarg:=none,defaults:=[] }
def cg(s:NN):List NN:=match s with
 | .FunctionDef _ _ b _ _ _ _ _ _ _=>b
 | _=>[]
noncomputable def ak(s:NN):NO:=match s with
 | .FunctionDef _ _ _ _ _ _ sc _ _ _=>sc
 | _=>{ kind:=.function,names:=[],isGenerator:=false,isCoroutine:=false }
abbrev CX0:CXT:=fun _ _ _ _ _ _=>False
abbrev E0:XK:=fun _ _ _=>False
theorem GY{X:Cx}:Passes CX0 X E0:=fun _ _ _ _ _ _ _ h=>h.elim
structure Fun (K:M8) (x qual:Str) (st:NN) (f:M9) (fd:NB):Prop where
 ex:∃(oc:M7) (od:Option M9) (kV doc pm:M7) (an:Option M9) (cdv ct:M7) (osl:Array (Option M7)),
  fd=OG x qual (cM st) (cg st) (ak st) .none kV doc pm an cdv ct/\K.lookup f=some ⟨oc,od,.func fd,osl⟩/\Ql K cdv qual=true
 kp:PR K (.ref f)=true
section
variable{P:Nl}{w:Nq}{K:M8}{mg:Str->Option M7}{base:Nr}
theorem Fun.ok {x qual:Str}{st:NN}{f:M9}{fd:NB}{N ps:List Str}{k:Nat}{sp:Sp}(F:Fun K x qual st f fd)(S:FnScope N ps (ak st))(len:∀ vs H Q E,sp vs H Q E->vs.length=ps.length)
  (hbody:∀(cdv:M7) (A:Nw) (outer:List Env) (s:M_) (H:Hp) (vs:List V) (Q:VK) (E:XK),Room k (A.deeper (Qf qual (ak st) s.heap.objs.size f cdv))->sp vs H Q E->
   ∃ t,PSs (tq CX0 P w K mg base N qual (ak st) f cdv A outer s H E).nox (cg st) t/\t { nx:=fun _ H'=>Q .non H',rt:=Q } (start N vs) H):FnOk P w K mg base CX0 (k + 1) f fd ps sp:=by
 obtain⟨oc,od,kV,doc,pm,an,cdv,ct,osl,rfl,lk,hcd⟩:=F.ex
 refine Hj lk hcd S len fun A outer s H vs Q E hr hsp=>?_
 obtain⟨t,h,q⟩:=hbody cdv A outer s H vs Q E hr hsp
 exact⟨t,h.nox,q⟩
theorem Fun.binds {x qual:Str}{st:NN}{f:M9}{fd:NB}{ps:List Str}(F:Fun K x qual st f fd)
  (h:∀(kV doc pm:M7) (an:Option M9) (cdv ct:M7) (us:List M7),us.length=ps.length->UC (OG x qual (cM st) (cg st) (ak st) .none kV doc pm an cdv ct) ⟨us,[]⟩=pure (ps.zip us)):Binds K fd ps []:=by
 obtain⟨oc,od,kV,doc,pm,an,cdv,ct,osl,rfl,lk,hcd⟩:=F.ex
 exact .all (h kV doc pm an cdv ct)
theorem tJ{x qual:Str}{st:NN}{f:M9}{oc:M7}{od an:Option M9}{osl:Array (Option M7)}{kV doc pm cdv ct:M7}(l:K.lookup f=some ⟨oc,od,.func (OG x qual (cM st) (cg st) (ak st) .none kV doc pm an cdv ct),osl⟩)
  (c:Ql K cdv qual=true) (k:PR K (.ref f)=true):Fun K x qual st f (OG x qual (cM st) (cg st) (ak st) .none kV doc pm an cdv ct):=⟨⟨oc,od,kV,doc,pm,an,cdv,ct,osl,rfl,l,c⟩,k⟩
end
theorem jx{A:Nw}{k:Nat}(hr:Room k A):A.units + 1 < cLine:=Je (Kq (by decide:1<=64) _) hr.units
section
variable{X:Cx}
theorem pv(i:Nat){x:Str}{pos:Pos}(hN:X.N[i]?=some x:=by rfl)(hv:Vis X.env.scope x:=by first | exact f' rfl | exact i_ (f' rfl) | exact i_ (i_ rfl))(hd:(x ==("__debug__":Str))=false:=by decide)
  (hcd:(x ==("__classdict__":Str))=false:=by decide):PE X (.Name x pos) (AQ i):=cU hN hv hd hcd
end
theorem Hl{A B:Prop}(h:B):if false=true then A else B:=by
 rw[if_neg G_]
 exact h
theorem DE{A B:Prop}(h:A):if true=true then A else B:=by
 rw[if_pos rfl]
 exact h
def aN(H H':Hp):Prop:=∀ b o,H b=some o->H' b=some o
theorem aN.seq {K:M8}{H H':Hp}{a:M9}{xs:List V}(e:aN H H')(h:SqL K H a xs):SqL K H' a xs:=by
 rcases h with (h | ⟨o,h⟩) | h
 ·exact .inl (.inl (e _ _ h))
 ·exact .inl (.inr ⟨o,e _ _ h⟩)
 exact .inr h
end L2
namespace ZG
open PySem
def Sq(b:Bool)(h:Nr)(l:M9)(xs:Array M7):Prop:=match b with
 | true=>h.IsTuple l xs
 | false=>h.IsList l xs
def Dr(b:Bool)(h:Nr)(i l:M9)(k:Nat):Prop:=match b with
 | true=>h.IsTupleIter i l k
 | false=>h.IsListIter i l k
theorem Sq.ext {b:Bool}{h h':Nr}{l c:M9}{xs:Array M7}(x:Sq b h l xs)(k:P8 c h h')(n:l≠c):Sq b h' l xs:=by
 cases b with
 | true=>exact Vj (show h.IsTuple l xs from x) k n
 | false=>exact Vq (show h.IsList l xs from x) k n
theorem Dr.ext {b:Bool}{h h':Nr}{i l c:M9}{k:Nat}(x:Dr b h i l k)(e:P8 c h h')(n:i≠c):Dr b h' i l k:=by
 cases b with
 | true=>exact UT (show h.IsTupleIter i l k from x) e n
 | false=>exact U4 (show h.IsListIter i l k from x) e n
theorem Dr.some {b:Bool}{h:Nr}{i l:M9}{k:Nat}(x:Dr b h i l k):∃ o,h.get? i=some o/\∀ v,o.data≠.cell v:=by
 cases b with
 | true=>obtain⟨o,e,_,d⟩:=(show h.IsTupleIter i l k from x);exact⟨o,e,fun v z=>by rw[d]at z;cases z⟩
 | false=>obtain⟨o,e,_,d⟩:=(show h.IsListIter i l k from x);exact⟨o,e,fun v z=>by rw[d]at z;cases z⟩
theorem Dr.at {b:Bool}{h h':Nr}{i l:M9}{k:Nat}(x:Dr b h i l k)(e:∀ o,h.get? i=L5 o->h'.get? i=L5 o):Dr b h' i l k:=by
 cases b with
 | true=>obtain⟨o,q,r⟩:=(show h.IsTupleIter i l k from x);exact⟨o,e o q,r⟩
 | false=>obtain⟨o,q,r⟩:=(show h.IsListIter i l k from x);exact⟨o,e o q,r⟩
theorem Sq.at {b:Bool}{h h':Nr}{l:M9}{xs:Array M7}(x:Sq b h l xs)(e:∀ o,h.get? l=L5 o->h'.get? l=L5 o):Sq b h' l xs:=by
 cases b with
 | true=>obtain⟨o,q,r⟩:=(show h.IsTuple l xs from x);exact⟨o,e o q,r⟩
 | false=>obtain⟨o,q,r⟩:=(show h.IsList l xs from x);exact⟨o,e o q,r⟩
section
variable{prog:Nl}{w:Nq}{A:Nw}{E:M7->M_->Prop}{s:M_}
theorem B1{i l:M9}{k:Nat}{xs:Array M7}{v:M7}{Q:M7->M_->Prop}(d:s.heap.IsTupleIter i l k)(q:s.heap.IsTuple l xs)(hv:xs[k]?=some v)
  (r:∀ g,g.IsTupleIter i l (k + 1)->NX i s.heap g->Q v { s with heap:=g }):Nb (Ni prog w) A (NL (.ref i)) Q E s:=by
 obtain⟨oi,hoi,ci,di⟩:=id d
 obtain⟨ol,hol,_,nl,dl⟩:=q
 unfold NL
 refine M6 (N2 (name:=N8 "__next__") d.typeIs OO (Oc OO d.typeIs Qt ?_ (Qn _)))
 show Nb _ _ (RC (.ref i) 0 >>= _) _ _ s
 refine M6 (N_ hoi di (x:=.ref l) rfl ?_)
 show Nb _ _ (if(N1 l == NR)=true then _ else _) _ _ s
 rw[if_neg (show ¬((N1 l == NR)=true)from G_)]
 show Nb _ _ (RC (.ref i) 1 >>= _) _ _ s
 refine M6 (N_ hoi di (x:=.int k 0) rfl ?_)
 show Nb _ _ (PK (.ref l) >>= _) _ _ s
 refine M6 (N4 hol dl ?_)
 simp only[F',hv]
 refine M6 (OB hoi di (by simp) (M' ⟨v,rfl,M' (r _ ?_ (N0 ..))⟩))
 exact⟨_,NK _ hoi (OM (NQ di _)),(P4 ..).trans ci,by rw[NQ di];simp[Oq]⟩
theorem ED{i l:M9}{k:Nat}{xs:Array M7}{Q:M7->M_->Prop}(hh:A.handled=none)(d:s.heap.IsTupleIter i l k)(q:s.heap.IsTuple l xs)(hv:xs[k]?=none)
  (r:∀ g e,P8 i s.heap g->(∃ o,g.get? e=some o/\o.cls=.type "StopIteration")->E (.ref e) { s with heap:=g }):Nb (Ni prog w) A (NL (.ref i)) Q E s:=by
 obtain⟨oi,hoi,ci,di⟩:=id d
 obtain⟨ol,hol,_,nl,dl⟩:=q
 unfold NL
 refine M6 (N2 (name:=N8 "__next__") d.typeIs OO (Oc OO d.typeIs Qt ?_ (Qn _)))
 show Nb _ _ (RC (.ref i) 0 >>= _) _ _ s
 refine M6 (N_ hoi di (x:=.ref l) rfl ?_)
 show Nb _ _ (if(N1 l == NR)=true then _ else _) _ _ s
 rw[if_neg (show ¬((N1 l == NR)=true)from G_)]
 show Nb _ _ (RC (.ref i) 1 >>= _) _ _ s
 refine M6 (N_ hoi di (x:=.int k 0) rfl ?_)
 show Nb _ _ (PK (.ref l) >>= _) _ _ s
 refine M6 (N4 hol dl ?_)
 simp only[F',hv]
 refine M6 (OD (M6 (OB hoi di (by simp) ?_)))
 show Nb _ _ (R0 (.type "StopIteration") [] >>= _) _ _ _
 refine M6 ?_
 simp only[R0,UH]
 refine M6 (ND ?_ (by size_fits))
 refine M6 (m:=Ph _ _) (Pc (a:=NR) (by first | rfl | (simp only[Ph];rfl)) ?_)
 refine ND ?_ (by size_fits)
 simp only[UI]
 refine M6 (RL ?_)
 first | rw[show A.in1.handled=none from hh] | rw[hh]
 refine M6 (M' (Sn ?_))
 exact r _ _ (((N0 ..).extBut.push _).push _) ⟨_,Nf _ rfl,rfl⟩
theorem pM{b:Bool}{i l:M9}{k:Nat}{xs:Array M7}{v:M7}{Q:M7->M_->Prop}(d:Dr b s.heap i l k)(q:Sq b s.heap l xs)(hv:xs[k]?=some v)
  (r:∀ g,Dr b g i l (k + 1)->NX i s.heap g->Q v { s with heap:=g }):Nb (Ni prog w) A (NL (.ref i)) Q E s:=by
 cases b with
 | true=>exact B1 d q hv r
 | false=>exact wpAny_nextOf_list_item d q hv r
theorem y6{b:Bool}{i l:M9}{k:Nat}{xs:Array M7}{Q:M7->M_->Prop}(hh:A.handled=none)(d:Dr b s.heap i l k)(q:Sq b s.heap l xs)(hv:xs[k]?=none)
  (r:∀ g e,P8 i s.heap g->(∃ o,g.get? e=some o/\o.cls=.type "StopIteration")->E (.ref e) { s with heap:=g }):Nb (Ni prog w) A (NL (.ref i)) Q E s:=by
 cases b with
 | true=>exact ED hh d q hv r
 | false=>exact wpAny_nextOf_list_end hh d q hv r
theorem E7{b:Bool}{l:M9}{xs:Array M7}{Q:M7->M_->Prop}(q:Sq b s.heap l xs)(r:∀ g,Dr b g s.heap.objs.size l 0->g.objs.size=s.heap.objs.size + 1->(∀ c o,s.heap.get? c=some o->g.get? c=some o)->Q (.ref s.heap.objs.size) { s with heap:=g }) :
  Nb (Ni prog w) A (P6 (.ref l)) Q E s:=by
 cases b with
 | true=>exact Oa q (r _ ⟨_,Nf _ rfl,rfl,rfl⟩ (NG ..) fun c o e=>Na _ e)
 | false=>exact Of q (r _ ⟨_,Nf _ rfl,rfl,rfl⟩ (NG ..) fun c o e=>Na _ e)
structure Off (z TI TO i1 i2 l1 l2:M9):Prop where
 a1:TI≠z
 a2:TO≠z
 a3:i1≠z
 a4:i2≠z
 a5:TI≠TO
 a6:TI≠i1
 a7:TI≠i2
 a8:TO≠i1
 a9:TO≠i2
 b1:i1≠i2
 c1:l1≠z
 c2:l1≠TO
 c3:l1≠i1
 c4:l1≠i2
 e1:l2≠z
 e2:l2≠TO
 e3:l2≠i1
 e4:l2≠i2
theorem FU{b1 b2:Bool}{z TI TO i1 i2 l1 l2:M9}{k:Nat}{xs ys:Array M7}{x y a b:M7}{Q:M7->M_->Prop}(D:Off z TI TO i1 i2 l1 l2)
  (hz:Pj s.heap z TI TO .none) (hi:Ot s.heap TI (.ref i1) (.ref i2)) (ho:Ot s.heap TO a b)
  (d1:Dr b1 s.heap i1 l1 k) (d2:Dr b2 s.heap i2 l2 k) (q1:Sq b1 s.heap l1 xs) (q2:Sq b2 s.heap l2 ys) (hx:xs[k]?=some x) (hy:ys[k]?=some y)
  (r:∀ g,Pj g z TI TO (Oq s.heap.objs.size)->Ot g TO x y->Dr b1 g i1 l1 (k + 1)->Dr b2 g i2 l2 (k + 1)->Ot g s.heap.objs.size x y->g.objs.size=s.heap.objs.size + 1->
   (∀ c o,c≠z->c≠TO->c≠i1->c≠i2->s.heap.get? c=some o->g.get? c=some o)->Q (.ref s.heap.objs.size) { s with heap:=g }) :
  Nb (Ni prog w) A (Oy.«zip.__next__» ⟨[.ref z],[]⟩) (fun fin s'=>∃ v,fin=.done (.ret v)/\Q v s') E s:=by
 show Nb _ _ (RC (.ref z) 2 >>= _) _ _ _
 refine M6 (N_ hz rfl (x:=.bool false) rfl ?_)
 show Nb _ _ (RC (.ref z) 3 >>= _) _ _ _
 refine M6 (N_ hz rfl (x:=.ref TI) rfl (M6 (N4 hi rfl ?_)))
 show Nb _ _ (Ol (.ref z) >>= _) _ _ _
 refine M6 ?_
 unfold Ol
 refine M6 (N_ hz rfl (x:=.none) rfl (M' ?_))
 simp only[if_true]
 refine M6 (OD (M6 (N_ hz rfl (x:=.ref TO) rfl (M6 (OH hz (by simp) fun g1 z1 s1=>?_)))))
 have z1:Pj g1 z TI TO .ellipsis:=z1
 refine M6 ?_
 simp only[LH,ME,LZ,Lj]
 refine M6 (M6 (Qz ?_))
 show Nb _ _ (NL (.ref i1) >>= _) _ _ _
 refine M6 (pM (d1.ext s1.extBut D.a3) (q1.ext s1.extBut D.c1) hx fun g2 w2 s2=>M' ?_)
 have o2:Ot g2 TO a b:=s2.extBut _ _ D.a8 (s1.extBut _ _ D.a2 ho)
 refine M6 (N4 o2 rfl (M6 (Qg o2 fun g3 o3 s3=>?_)))
 have o3:Ot g3 TO x b:=o3
 refine M6 (OY (M' (M6 (M6 (Qz ?_)))))
 show Nb _ _ (NL (.ref i2) >>= _) _ _ _
 refine M6 (pM (((d2.ext s1.extBut D.a4).ext s2.extBut D.b1.symm).ext s3.extBut D.a9.symm) (((q2.ext s1.extBut D.e1).ext s2.extBut D.e3).ext s3.extBut D.e2) hy fun g4 w4 s4=>M' ?_)
 have o4:Ot g4 TO x b:=s4.extBut _ _ D.a9 o3
 refine M6 (N4 o4 rfl (M6 (Qg o4 fun g5 o5 s5=>?_)))
 have o5:Ot g5 TO x y:=o5
 refine M6 (OY (M' (M' (M6 (N4 o5 rfl (M6 (Tj ?_)))))))
 have sz:g5.objs.size=s.heap.objs.size:=by rw[s5.1,s4.1,s3.1,s2.1,s1.1]
 have z5:Pj g5 z TI TO .ellipsis:=s5.extBut _ _ D.a2.symm (s4.extBut _ _ D.a4.symm (s3.extBut _ _ D.a2.symm (s2.extBut _ _ D.a3.symm z1)))
 have k5:∀ c o,c≠z->c≠TO->c≠i1->c≠i2->s.heap.get? c=some o->g5.get? c=some o:=fun c o n1 n2 n3 n4 e=>
  s5.extBut _ _ n2 (s4.extBut _ _ n4 (s3.extBut _ _ n2 (s2.extBut _ _ n3 (s1.extBut _ _ n1 e))))
 have w15:Dr b1 g5 i1 l1 (k + 1):=((w2.ext s3.extBut D.a8.symm).ext s4.extBut D.b1).ext s5.extBut D.a8.symm
 have w25:Dr b2 g5 i2 l2 (k + 1):=w4.ext s5.extBut D.a9.symm
 have zlt:z < g5.objs.size:=Ng z5
 show Nb _ _ (PN (.ref z) (.ref g5.objs.size) >>= _) _ _ _
 refine M6 ?_
 unfold PN
 have z6:Pj (g5.push { cls:=.type "tuple",data:=.seq #[x,y] }) z TI TO .ellipsis:=Na _ z5
 refine M6 (OH z6 (by simp) fun g7 z7 s7=>?_)
 have z7:Pj g7 z TI TO (Oq g5.objs.size):=z7
 refine OH z7 (by simp) fun g8 z8 s8=>?_
 have z8:Pj g8 z TI TO (Oq g5.objs.size):=z8
 have up:∀ c o,c≠z->g5.get? c=some o->g8.get? c=some o:=fun c o n e=>s8.extBut _ _ n (s7.extBut _ _ n (Na _ e))
 have t8:Ot g8 g5.objs.size x y:=s8.extBut _ _ (JE zlt) (s7.extBut _ _ (JE zlt) (Nf _ rfl))
 have e8:g8.objs.size=g5.objs.size + 1:=by rw[s8.1,s7.1,NG]
 rw[sz]at z8 t8 e8
 refine M' ⟨_,rfl,?_⟩
 show Q (.ref g5.objs.size) _
 rw[sz]
 exact r g8 z8 (up _ _ D.a2 o5) (w15.at fun o e=>up _ o D.a3 e) (w25.at fun o e=>up _ o D.a4 e) t8 e8 fun c o n1 n2 n3 n4 e=>up c o n1 (k5 c o n1 n2 n3 n4 e)
theorem zEnd{b1 b2:Bool}{z TI TO i1 i2 l1 l2:M9}{k:Nat}{xs ys:Array M7}{a b:M7}{Q:Fin->M_->Prop}(hh:A.handled=none)(D:Off z TI TO i1 i2 l1 l2)
  (hz:Pj s.heap z TI TO .none) (hi:Ot s.heap TI (.ref i1) (.ref i2)) (ho:Ot s.heap TO a b)
  (d1:Dr b1 s.heap i1 l1 k) (d2:Dr b2 s.heap i2 l2 k) (q1:Sq b1 s.heap l1 xs) (q2:Sq b2 s.heap l2 ys) (hn:xs[k]?=none\/ys[k]?=none)
  (r:∀ g e,(∀ c o,c≠z->c≠TO->c≠i1->c≠i2->s.heap.get? c=some o->g.get? c=some o)->(∃ o,g.get? e=some o/\o.cls=.type "StopIteration")->E (.ref e) { s with heap:=g }) :
  Nb (Ni prog w) A (Oy.«zip.__next__» ⟨[.ref z],[]⟩) Q E s:=by
 show Nb _ _ (RC (.ref z) 2 >>= _) _ _ _
 refine M6 (N_ hz rfl (x:=.bool false) rfl ?_)
 show Nb _ _ (RC (.ref z) 3 >>= _) _ _ _
 refine M6 (N_ hz rfl (x:=.ref TI) rfl (M6 (N4 hi rfl ?_)))
 show Nb _ _ (Ol (.ref z) >>= _) _ _ _
 refine M6 ?_
 unfold Ol
 refine M6 (N_ hz rfl (x:=.none) rfl (M' ?_))
 simp only[if_true]
 refine M6 (OD (M6 (N_ hz rfl (x:=.ref TO) rfl (M6 (OH hz (by simp) fun g1 z1 s1=>?_)))))
 have z1:Pj g1 z TI TO .ellipsis:=z1
 refine M6 ?_
 simp only[LH,ME,LZ,Lj]
 refine M6 (M6 (Qz ?_))
 show Nb _ _ (NL (.ref i1) >>= _) _ _ _
 cases hx:xs[k]? with
 | none=>
  refine M6 (y6 hh (d1.ext s1.extBut D.a3) (q1.ext s1.extBut D.c1) hx fun g2 e s2 he=>?_)
  obtain⟨oe,hoe,ce⟩:=he
  have z2:Pj g2 z TI TO .ellipsis:=s2 _ _ D.a3.symm z1
  have ne:e≠z:=fun q=>by subst q;rw[z2]at hoe;cases hoe;simp at ce
  exact OH z2 (by simp) fun g3 _ s3=>r g3 e (fun c o n1 _ n3 _ q=>s3.extBut _ _ n1 (s2 _ _ n3 (s1.extBut _ _ n1 q))) ⟨oe,s3.extBut _ _ ne hoe,ce⟩
 | some x=>
  have hy:ys[k]?=none:=by
   rcases hn with h | h
   ·rw[hx]at h;cases h
   exact h
  refine M6 (pM (d1.ext s1.extBut D.a3) (q1.ext s1.extBut D.c1) hx fun g2 w2 s2=>M' ?_)
  have o2:Ot g2 TO a b:=s2.extBut _ _ D.a8 (s1.extBut _ _ D.a2 ho)
  refine M6 (N4 o2 rfl (M6 (Qg o2 fun g3 o3 s3=>?_)))
  refine M6 (OY (M' (M6 (M6 (Qz ?_)))))
  show Nb _ _ (NL (.ref i2) >>= _) _ _ _
  refine M6 (y6 hh (((d2.ext s1.extBut D.a4).ext s2.extBut D.b1.symm).ext s3.extBut D.a9.symm) (((q2.ext s1.extBut D.e1).ext s2.extBut D.e3).ext s3.extBut D.e2) hy fun g4 e s4 he=>?_)
  obtain⟨oe,hoe,ce⟩:=he
  have z4:Pj g4 z TI TO .ellipsis:=s4 _ _ D.a4.symm (s3.extBut _ _ D.a2.symm (s2.extBut _ _ D.a3.symm z1))
  have ne:e≠z:=fun q=>by subst q;rw[z4]at hoe;cases hoe;simp at ce
  exact OH z4 (by simp) fun g5 _ s5=>r g5 e (fun c o n1 n2 n3 n4 q=>s5.extBut _ _ n1 (s4 _ _ n4 (s3.extBut _ _ n2 (s2.extBut _ _ n3 (s1.extBut _ _ n1 q))))) ⟨oe,s5.extBut _ _ ne hoe,ce⟩
theorem rE{b1 b2:Bool}{z TI TO i1 i2 l1 l2:M9}{k:Nat}{xs ys:Array M7}{x y a b:M7}{Q:Option M7->M_->Prop}(D:Off z TI TO i1 i2 l1 l2)
  (hz:Pj s.heap z TI TO .none) (hi:Ot s.heap TI (.ref i1) (.ref i2)) (ho:Ot s.heap TO a b)
  (d1:Dr b1 s.heap i1 l1 k) (d2:Dr b2 s.heap i2 l2 k) (q1:Sq b1 s.heap l1 xs) (q2:Sq b2 s.heap l2 ys) (hx:xs[k]?=some x) (hy:ys[k]?=some y)
  (r:∀ g,Pj g z TI TO (Oq s.heap.objs.size)->Ot g TO x y->Dr b1 g i1 l1 (k + 1)->Dr b2 g i2 l2 (k + 1)->Ot g s.heap.objs.size x y->g.objs.size=s.heap.objs.size + 1->
   (∀ c o,c≠z->c≠TO->c≠i1->c≠i2->s.heap.get? c=some o->g.get? c=some o)->Q (some (.ref s.heap.objs.size)) { s with heap:=g }) :
  Nb (Ni prog w) A (OR (.ref z)) Q E s:=by
 have hT:s.TypeIs (.ref z) "zip":=⟨_,hz,rfl⟩
 unfold OR
 refine M6 (OP (N2 (name:=N8 "__next__") hT Qh (Oc Qh hT Sv ?_ (R_ _))))
 exact FU D hz hi ho d1 d2 q1 q2 hx hy fun g p1 p2 p3 p4 p5 p6 p7=>M' (r g p1 p2 p3 p4 p5 p6 p7)
theorem t6{b1 b2:Bool}{z TI TO i1 i2 l1 l2:M9}{k:Nat}{xs ys:Array M7}{a b:M7}{Q:Option M7->M_->Prop}(hh:A.handled=none)(D:Off z TI TO i1 i2 l1 l2)
  (hz:Pj s.heap z TI TO .none) (hi:Ot s.heap TI (.ref i1) (.ref i2)) (ho:Ot s.heap TO a b)
  (d1:Dr b1 s.heap i1 l1 k) (d2:Dr b2 s.heap i2 l2 k) (q1:Sq b1 s.heap l1 xs) (q2:Sq b2 s.heap l2 ys) (hn:xs[k]?=none\/ys[k]?=none)
  (r:∀ g,(∀ c o,c≠z->c≠TO->c≠i1->c≠i2->s.heap.get? c=some o->g.get? c=some o)->Q none { s with heap:=g }):Nb (Ni prog w) A (OR (.ref z)) Q E s:=by
 have hT:s.TypeIs (.ref z) "zip":=⟨_,hz,rfl⟩
 unfold OR
 refine M6 (OP (N2 (name:=N8 "__next__") hT Qh (Oc Qh hT Sv (zEnd hh D hz hi ho d1 d2 q1 q2 hn fun g e k he=>?_) (R_ _))))
 obtain⟨o,he,hc⟩:=he
 exact M6 (Pl (T:="StopIteration") (b:=true) ⟨o,he,hc⟩ Rq (M' (r _ k)))
end
def nm(b:Bool):String:=if b=true then "tuple_iterator" else "list_iterator"
abbrev Z1(h:Nr)(b1:Bool)(l1:M9):Nr:=h.push { cls:=.type (nm b1),data:=.fields #[.ref l1,.int 0 0] }
abbrev Z2(h:Nr)(b1 b2:Bool)(l1 l2:M9):Nr:=(Z1 h b1 l1).push { cls:=.type (nm b2),data:=.fields #[.ref l2,.int 0 0] }
abbrev Z3(h:Nr)(b1 b2:Bool)(l1 l2:M9):Nr:=(Z2 h b1 b2 l1 l2).push { cls:=.type "tuple",data:=.seq #[.ref h.objs.size,.ref (Z1 h b1 l1).objs.size] }
abbrev Z4(h:Nr)(b1 b2:Bool)(l1 l2:M9):Nr:=(Z3 h b1 b2 l1 l2).push { cls:=.type "tuple",data:=.seq #[.none,.none] }
abbrev Z5(h:Nr)(b1 b2:Bool)(l1 l2:M9):Nr:=(Z4 h b1 b2 l1 l2).push { cls:=.type "zip",data:=.fields #[.none,.bool false,.bool false,.ref (Z2 h b1 b2 l1 l2).objs.size,.ref (Z3 h b1 b2 l1 l2).objs.size] }
set_option maxHeartbeats 4000000 in
theorem An(b1 b2:Bool)(l1 l2:M9)(xs ys:Array M7) :
  Meets (Oy.«zip.__new__» ⟨[.type "zip",.ref l1,.ref l2],[]⟩) (fun _ R s=>Sq b1 s.heap l1 xs/\Sq b2 s.heap l2 ys/\R (.ok (.ret (.ref (Z4 s.heap b1 b2 l1 l2).objs.size))) { s with heap:=Z5 s.heap b1 b2 l1 l2 }):=
 .of_wp fun prog w A R s h=>by
  obtain⟨hp,g,d,tk,os⟩:=s
  obtain⟨q1,q2,h⟩:=h
  have hsub:=sub_zip
  cases b1 with
  | false=>
   have p1:So (Pw ⟨hp,g,d,tk,os⟩) l1 xs:=q1
   cases b2 with
   | false=>
    have p2:So (Pw ⟨hp.push { cls:=.type "list_iterator",data:=.fields #[.ref l1,.int 0 0] },g,d,tk,os⟩) l2 ys:=Sw q2 _
    wp_walk using Of p1,Of p2
    exact⟨_,rfl,h⟩
   | true=>
    have p2:QU (Pw ⟨hp.push { cls:=.type "list_iterator",data:=.fields #[.ref l1,.int 0 0] },g,d,tk,os⟩) l2 ys:=R' q2 _
    wp_walk using Of p1,Oa p2
    exact⟨_,rfl,h⟩
  | true=>
   have p1:QU (Pw ⟨hp,g,d,tk,os⟩) l1 xs:=q1
   cases b2 with
   | false=>
    have p2:So (Pw ⟨hp.push { cls:=.type "tuple_iterator",data:=.fields #[.ref l1,.int 0 0] },g,d,tk,os⟩) l2 ys:=Sw q2 _
    wp_walk using Oa p1,Of p2
    exact⟨_,rfl,h⟩
   | true=>
    have p2:QU (Pw ⟨hp.push { cls:=.type "tuple_iterator",data:=.fields #[.ref l1,.int 0 0] },g,d,tk,os⟩) l2 ys:=R' q2 _
    wp_walk using Oa p1,Oa p2
    exact⟨_,rfl,h⟩
section
variable{prog:Nl}{w:Nq}{A:Nw}{E:M7->M_->Prop}{s:M_}
theorem xM{b1 b2:Bool}{l1 l2:M9}{xs ys:Array M7}{Q:M7->M_->Prop}(q1:Sq b1 s.heap l1 xs)(q2:Sq b2 s.heap l2 ys)
  (r:∀ g,Pj g (s.heap.objs.size + 4) (s.heap.objs.size + 2) (s.heap.objs.size + 3) .none->Ot g (s.heap.objs.size + 2) (.ref s.heap.objs.size) (.ref (s.heap.objs.size + 1))->Ot g (s.heap.objs.size + 3) .none .none->
    Dr b1 g s.heap.objs.size l1 0->Dr b2 g (s.heap.objs.size + 1) l2 0->g.objs.size=s.heap.objs.size + 5->(∀ c o,s.heap.get? c=some o->g.get? c=some o)->Q (.ref (s.heap.objs.size + 4)) { s with heap:=g }) :
  Nb (Ni prog w) A (call (.type "zip") [.ref l1,.ref l2]) Q E s:=by
 refine UJ F.called_zip (by decide) (F.typeCall_zip_2 _ _) (F.newCall_zip_2 _ _) (fun obj=>F.args_object_init_3 obj _ _) F.entry_zip_new (An b1 b2 l1 l2 xs ys) ⟨q1,q2,?_⟩
 have z1:(Z1 s.heap b1 l1).objs.size=s.heap.objs.size + 1:=NG ..
 have z2:(Z2 s.heap b1 b2 l1 l2).objs.size=s.heap.objs.size + 2:=by rw[NG,z1]
 have z3:(Z3 s.heap b1 b2 l1 l2).objs.size=s.heap.objs.size + 3:=by rw[NG,z2]
 have z4:(Z4 s.heap b1 b2 l1 l2).objs.size=s.heap.objs.size + 4:=by rw[NG,z3]
 have z5:(Z5 s.heap b1 b2 l1 l2).objs.size=s.heap.objs.size + 5:=by rw[NG,z4]
 have u5:∀ c o,(Z4 s.heap b1 b2 l1 l2).get? c=some o->(Z5 s.heap b1 b2 l1 l2).get? c=some o:=fun c o e=>Na _ e
 have u4:∀ c o,(Z3 s.heap b1 b2 l1 l2).get? c=some o->(Z5 s.heap b1 b2 l1 l2).get? c=some o:=fun c o e=>u5 c o (Na _ e)
 have u3:∀ c o,(Z2 s.heap b1 b2 l1 l2).get? c=some o->(Z5 s.heap b1 b2 l1 l2).get? c=some o:=fun c o e=>u4 c o (Na _ e)
 have u2:∀ c o,(Z1 s.heap b1 l1).get? c=some o->(Z5 s.heap b1 b2 l1 l2).get? c=some o:=fun c o e=>u3 c o (Na _ e)
 have g5:(Z5 s.heap b1 b2 l1 l2).get? (Z4 s.heap b1 b2 l1 l2).objs.size=some _:=Nf _ rfl
 have g4:=u5 (Z3 s.heap b1 b2 l1 l2).objs.size _ (Nf _ rfl)
 have g3:=u4 (Z2 s.heap b1 b2 l1 l2).objs.size _ (Nf _ rfl)
 have g2:=u3 (Z1 s.heap b1 l1).objs.size _ (Nf _ rfl)
 have g1:=u2 s.heap.objs.size _ (Nf _ rfl)
 show _/\_
 rw[z2,z3,z4]at g5
 rw[z1,z2]at g3
 rw[z3]at g4
 rw[z1]at g2
 rw[z4]
 refine⟨⟨_,g5,rfl⟩,r _ g5 g3 g4 ?_ ?_ z5 fun c o e=>u2 c o (Na _ e)⟩
 ·cases b1 with
  | true=>exact⟨_,g1,rfl,rfl⟩
  | false=>exact⟨_,g1,rfl,rfl⟩
 cases b2 with
 | true=>exact⟨_,g2,rfl,rfl⟩
 | false=>exact⟨_,g2,rfl,rfl⟩
end
end ZG
namespace L2
open PySem PySem.Spec PyProof.Rows
noncomputable def bL(env:Env):List (Str × Oz)->List (Str × M9)->List (Str × M9)
 | [],cs=>cs
 | x::r,cs=>bL env r (if(x.2 == Od)=true then(x.1,(env.cells.lookup x.1).getD 0)::cs else cs)
theorem kT{env:Env}(f:Str × Oz->List (Str × M9)->Sem (ForInStep (List (Str × M9))))(hf:∀ n k cs,f (n,k) cs=if(k == Od)=true then(do let a <-cellOf env n;pure (Nv ((n,a)::cs)))else pure (Nv cs)) :
  ∀(names:List (Str × Oz)) (cs:List (Str × M9)),(∀ x∈names,x.2=.free->∃ c,env.cells.lookup x.1=some c)->forIn names cs f=pure (bL env names cs)
 | [],cs,_=>by rw[Lj];rfl
 | (n,k)::r,cs,h=>by
  rw[LZ,hf]
  have hr:∀ x∈r,x.2=.free->∃ c,env.cells.lookup x.1=some c:=fun x hx=>h x (l_ _ hx)
  by_cases e:(k == Od)=true
  ·obtain⟨c,hc⟩:=h (n,k) r_ (by simpa using e)
   have hc':env.cells.lookup n=some c:=hc
   rw[if_pos e]
   have q:cellOf env n=pure c:=by unfold cellOf;rw[hc']
   rw[q,pure_bind,pure_bind]
   show forIn r ((n,c)::cs) f=pure (bL env ((n,k)::r) cs)
   rw[kT f hf r _ hr]
   unfold bL
   rw[if_pos e,hc']
   cases r <;> rfl
  rw[if_neg e,pure_bind]
  show forIn r cs f=pure (bL env ((n,k)::r) cs)
  rw[kT f hf r _ hr]
  conv=>rhs;unfold bL
  rw[if_neg e]
theorem g9{sc:NO}{env:Env}(h:∀ x∈sc.names,x.2=.free->∃ c,env.cells.lookup x.1=some c):closureFor sc env=pure (bL env sc.names []):=by
 unfold closureFor
 show(forIn sc.names [] _ >>= fun cs=>pure cs)=_
 rw[kT (env:=env) _ (fun n k cs=>by cases e:k == Od <;> simp[e]) sc.names [] h]
 rfl
theorem l4{env:Env}:∀ {names:List (Str × Oz)} {cs:List (Str × M9)} {x:Str} {c:M9},(∀ y∈names,y.2=.free->∃ c,env.cells.lookup y.1=some c)->(bL env names cs).lookup x=some c->
  (env.cells.lookup x=some c/\(x,Od)∈names)\/cs.lookup x=some c
 | [],cs,x,c,_,h=>.inr h
 | (n,k)::r,cs,x,c,hn,h=>by
  unfold bL at h
  have hr:∀ y∈r,y.2=.free->∃ c,env.cells.lookup y.1=some c:=fun y hy=>hn y (l_ _ hy)
  have hh:=l4 hr h
  clear h
  rcases hh with⟨h1,h2⟩ | h
  ·exact .inl ⟨h1,l_ _ h2⟩
  by_cases e:(k == Od)=true
  ·rw[if_pos e]at h
   obtain⟨c',hc⟩:=hn (n,k) r_ (by simpa using e)
   have hc':env.cells.lookup n=some c':=hc
   rw[hc',Js]at h
   by_cases ex:(x == n)=true
   ·rw[ex]at h
    have ex':x=n:=by simpa using ex
    have ek:k=Od:=by simpa using e
    subst ex' ek
    have h':c'=c:=v_ h
    subst h'
    exact .inl ⟨hc',r_⟩
   have ex':(x == n)=false:=by simpa using ex
   rw[ex']at h
   exact .inr h
  rw[if_neg e]at h
  exact .inr h
theorem rS{env:Env}:∀ {names:List (Str × Oz)} {cs:List (Str × M9)} {x:Str} {c:M9},(∀ y∈names,y.2=.free->∃ c,env.cells.lookup y.1=some c)->env.cells.lookup x=some c->cs.lookup x=some c->(bL env names cs).lookup x=some c
 | [],cs,x,c,_,_,h=>h
 | (n,k)::r,cs,x,c,hn,he,h=>by
  unfold bL
  refine rS (fun y hy=>hn y (l_ _ hy)) he ?_
  by_cases e:(k == Od)=true
  ·rw[if_pos e,Js]
   by_cases ex:(x == n)=true
   ·rw[ex]
    have ex':x=n:=by simpa using ex
    subst ex'
    show some ((env.cells.lookup x).getD 0)=some c
    rw[he];rfl
   have ex':(x == n)=false:=by simpa using ex
   rw[ex']
   exact h
  rw[if_neg e]
  exact h
theorem jQ{env:Env}:∀ {names:List (Str × Oz)} {cs:List (Str × M9)} {x:Str} {c:M9},(∀ y∈names,y.2=.free->∃ c,env.cells.lookup y.1=some c)->env.cells.lookup x=some c->(x,Od)∈names->(bL env names cs).lookup x=some c
 | (n,k)::r,cs,x,c,hn,he,hm=>by
  have hr:∀ y∈r,y.2=.free->∃ c,env.cells.lookup y.1=some c:=fun y hy=>hn y (l_ _ hy)
  unfold bL
  rcases u_.mp hm with e | hm
  ·obtain⟨rfl,rfl⟩:=Prod.mk.inj e
   rw[if_pos (by rfl)]
   refine rS hr he ?_
   rw[Js,beq_self_eq_true]
   show some ((env.cells.lookup x).getD 0)=some c
   rw[he];rfl
  exact jQ hr he hm
noncomputable def dJ(env:Env)(sc:NO):NO:={ sc with names:=sc.names.map fun x=>if(x.2 == .free && env.scope.kind == .function && env.kindOf x.1 == some .cell)=true then(x.1,.cell)else(x.1,x.2) }
theorem iB{f:Str × Oz->Bool}(x:Str):∀ names:List (Str × Oz),(names.map fun y=>if f y=true then(y.1,Po)else(y.1,y.2)).lookup x=(names.lookup x).map fun k=>if f (x,k)=true then .cell else k
 | []=>rfl
 | (n,k)::r=>by
  rw[k_]
  by_cases ex:(x == n)=true
  ·have ex':x=n:=by simpa using ex
   subst ex'
   cases e:f (x,k) <;> simp[e,Js]
  have ex':(x == n)=false:=by simpa using ex
  have ih:=iB (f:=f) x r
  cases e:f (n,k) <;> simp only[e,if_true,if_false,Jf,Js,ex',ih]
theorem cL(env:Env)(sc:NO)(x:Str):(dJ env sc).names.lookup x=(sc.names.lookup x).map fun k=>if(k == .free && env.scope.kind == .function && env.kindOf x == some .cell)=true then .cell else k:=
 iB (f:=fun y=>(y.2 == .free && env.scope.kind == .function && env.kindOf y.1 == some .cell)) x sc.names
noncomputable def compEnv(env:Env)(sc:NO)(L:M9):Env:={ newEnv sc L env.globals (bL env sc.names []) env.qual none .none (some env) QE with scope:=dJ env sc }
section
variable{M:Pf}{A:Nw}{E:M7->M_->Prop}{s:M_}{env:Env}
theorem jj{e:Nn}{scope:NO}{pos:Pos}{newAcc first:Sem M7}{g:Pp}{gs:List Pp}{Q:M7->M_->Prop}
  (hcl:Tx e=g::gs) (hs:∀ x,NJ g.iter env x=pure x)
  (hc:∀ x∈scope.names,x.2≠.cell) (hfr:∀ x∈scope.names,x.2=.free->∃ c,env.cells.lookup x.1=some c) (hkind:scope.kind=.function) (hnames:∀ x∈scope.names,x.2=.local->scope.names.lookup x.1=some .local)
  (h:Nb M A first (fun x s₁=>Nb M A (P6 x) (fun it s₂=>Nb M A newAcc (fun acc s₃=>
   ∀ h4,h4.Ns s₃.heap.objs.size (fun _=>none)->(∀ b o,s₃.heap.get? b=some o->h4.get? b=some o)->
    Om M A (.compStart e 0 it acc (compEnv env scope s₃.heap.objs.size)) (fun r s'=>∃ m,s'.heap.Ns s₃.heap.objs.size m/\∀ h',NX s₃.heap.objs.size s'.heap h'->
     match r with | .ok _=>Q acc { s' with heap:=h' } | .error x=>False) { s₃ with heap:=h4 }) E s₂) E s₁) E s) :
  Nb M A (OQ e scope env pos newAcc false first) Q E s:=by
 unfold OQ
 rw[g9 hfr,hcl]
 refine M6 (Nz h (fun x s₁ h₁=>M6 (ON (M6 (Pc (hs x) (M6 (Ny (Nz h₁ (fun it s₂ h₂=>
  RM (M6 (Nz h₂ (fun acc s₃ h₃=>M6 (M' (M6 ?_))) fun _ _ h'=>h')))
   fun _ _ h'=>h'))))))) fun _ _ h'=>h')
 refine RD hc (fun x hx=>nomatch hx) (fun h4 hn4 hs4=>?_) hkind
 have h₄:=h₃ h4 hn4 fun b o e=>hs4.extBut b o (q_ (Ng e)) (Na _ e)
 dsimp only
 have hv:∀ x∈(scope.names.filter fun x=>(x.2 == .local || x.2 == .cell) && x.1 !=(".0":Str)).reverse,x.2=.local->
   QI (compEnv env scope s₃.heap.objs.size) x.1=some .local:=fun x hx hl=>by
  show(dJ env scope).names.lookup x.1=some .local
  rw[cL,hnames x (Jd.mp (Ke.mp hx)).1 hl]
  rfl
 refine Ny (M6 (OP (Ny (Tz (OF h₄ fun r s' hr=>?_)))))
 obtain⟨m,hn,hr⟩:=hr
 cases r with
 | ok f=>exact M6 (Ny (QV (cenv:=compEnv env scope s₃.heap.objs.size) hkind _ s' m hv hn fun h' m' _ hs'=>M' (hr h' hs')))
 | error x=>exact(hr s'.heap (.refl ..)).elim
end
section
variable{prog:Nl}{w:Nq}{A:Nw}{R:RX->M_->Prop}{s:M_}
theorem dZ{elt target iter:Nn}{ifs:List Nn}{scope:NO}{pos:Pos}{it acc:M7}{env:Env}(I:Nat->M_->Prop)
  (turn:∀ n s,I n s->Nb (Ni prog w) A (OR it) (fun r s₁=>match r with
   | none=>R (.ok .next) s₁
   | some v=>Nb (Ni prog w) A (Qe target it v) (fun _ s₁'=>Nb (Ni prog w) A (Pn target env v) (fun _ s₂=>
     Nb (Ni prog w) A (forIn ifs true fun c r=>if r=true then do let ok <-Rj c env (NA c env);pure (Nv ok)else pure (Nv r)) (fun ok s₃=>
      if ok=true then Nb (Ni prog w) A (NA elt env) (fun x s₄=>
       Nb (Ni prog w) A (call (.builtin "list.append") [acc,x]) (fun _ s₅=>∃ m,m < n/\I m s₅) (fun _ _=>False) s₄) (fun _ _=>False) s₃
      else ∃ m,m < n/\I m s₃) (fun _ _=>False) s₂) (fun _ _=>False) s₁') (fun _ _=>False) s₁) (fun _ _=>False) s)
  (n:Nat) (h:I n s) :
  Om (Ni prog w) A (.compLoop (.ListComp elt [⟨target,iter,ifs,0⟩] scope pos) 0 it acc env) R s:=by
 refine codeAny_loop rfl I (fun n s hI=>?_) n h
 show Nb _ A ((compTurn (.ListComp elt [⟨target,iter,ifs,0⟩] scope pos) 0 it acc env).onRaise (fun x=>do noteFrame x env;theTreesLotGoes x)) _ _ s
 refine wpAny_noted ?_
 rw[compTurn_list]
 refine M6 (ON (M6 (Nz (turn n s hI) (fun r s₁ h₁=>?_) fun _ _ h'=>h'.elim)))
 cases r with
 | none=>exact M' h₁
 | some v=>
  refine M6 (Nz h₁ (fun _ s₁' h₁'=>?_) fun _ _ h'=>h'.elim)
  refine M6 (Nz h₁' (fun _ s₂ h₂=>M6 (Nz h₂ (fun ok s₃ h₃=>?_) fun _ _ h'=>h'.elim)) fun _ _ h'=>h'.elim)
  cases ok with
  | false=>exact M' ⟨rfl,h₃⟩
  | true=>
   exact M6 (M6 (Nz h₃ (fun x s₄ h₄=>M6 (Nz h₄ (fun _ s₅ h₅=>M' (M' ⟨rfl,h₅⟩)) fun _ _ h'=>h'.elim)) fun _ _ h'=>h'.elim))
end
noncomputable def aB(X:Cx)(N':List Str)(sc:NO)(s3:M_)(H3:Hp)(fp:List M9):Cx where
 prog:=X.prog
 w:=X.w
 K:=X.K
 mg:=X.mg
 base:=X.base
 A:=X.A
 N:=N'
 s₀:=s3
 H₀:=H3
 env:=compEnv X.env sc s3.heap.objs.size
 outer:=X.stack
 stack:=X.stack
 ex:=fp
 calm:=true
 fn:=fun _=>false
 pn:=[]
 xe:=fun _ _=>False
noncomputable def dE(N:List Str)(esc sc:NO)(N':List Str)(fr:List (Option Nat)):Bool:=
 sc.kind == .function && esc.kind == .function
 && sc.names.all (fun y=>(y.2 != .cell) && (y.2 != .free || esc.names.lookup y.1 == some .cell) && (y.2 != .local || sc.names.lookup y.1 == some .local))
 && fr.length == N'.length
 && (m_ N'.length).all (fun i=>match fr[i]? with
  | some (some j)=>match N'[i]? with
   | some x=>N[j]? == some x && sc.names.lookup x == some .free
   | none=>false
  | _=>true)
structure CompOk (N:List Str) (esc sc:NO) (N':List Str) (fr:List (Option Nat)):Prop where
 kind:sc.kind=.function
 ekind:esc.kind=.function
 nocell:∀ x∈sc.names,x.2≠.cell
 free:∀ x∈sc.names,x.2=.free->esc.names.lookup x.1=some .cell
 names:∀ x∈sc.names,x.2=.local->sc.names.lookup x.1=some .local
 len:fr.length=N'.length
 at_:∀(i j:Nat) (x:Str),fr[i]?=some (some j)->N'[i]?=some x->N[j]?=some x/\sc.names.lookup x=some .free
theorem nF{N:List Str}{esc sc:NO}{N':List Str}{fr:List (Option Nat)}(h:dE N esc sc N' fr=true):CompOk N esc sc N' fr:=by
 unfold dE at h
 simp only[H_,beq_iff_eq,Kf,IQ]at h
 obtain⟨⟨⟨⟨h1,h2⟩,h3⟩,h4⟩,h5⟩:=h
 refine⟨h1,h2,fun x hx=>?_,fun x hx e=>?_,fun x hx e=>?_,h4,fun i j x e1 e2=>?_⟩
 ·have:=(h3 x hx).1.1
  simpa using this
 ·have:=(h3 x hx).1.2
  rw[e]at this
  simpa using this
 ·have:=(h3 x hx).2
  rw[e]at this
  simpa using this
 have hi:i < N'.length:=(c_.mp e2).1
 have q:=h5 i hi
 rw[e1,e2]at q
 simpa using q
def bg(fr:List (Option Nat))(σ:St):St:=fr.map fun o=>match o with
 | some j=>(σ[j]?).join
 | none=>none
theorem rb{X:Cx}{pins:List (M9 × Obj)}{σ:St}{H3:Hp}{s3:M_}{sc:NO}{N':List Str}{fr:List (Option Nat)}{fp:List M9}{h4:Nr}(I:Inv X pins σ H3 s3)(C:CompOk X.N X.env.scope sc N' fr)(hc:X.calm=true)
  (hfp:∀ b∈fp,eE X pins H3 b) (hfo:∀ b∈fp,∃ o,s3.heap.get? b=some o) (hn:h4.Ns s3.heap.objs.size (fun _=>none)) (hk:∀ b o,s3.heap.get? b=some o->h4.get? b=some o) :
  Inv (aB X N' sc s3 H3 fp) [] (bg fr σ) H3 { s3 with heap:=h4 }:=by
 have hfr:∀ x∈sc.names,x.2=.free->∃ c,X.env.cells.lookup x.1=some c:=fun x hx e=>I.ok.has x.1 (.inl (C.free x hx e))
 have clo:∀ {x c},(bL X.env sc.names []).lookup x=some c->X.env.cells.lookup x=some c:=fun{x c} e=>by
  rcases l4 hfr e with⟨h1,_⟩ | h
  ·exact h1
  cases h
 have nfs:∀ b∈fp,b ∉ frs X.stack:=fun b hb z=>by
  obtain⟨_,h1,h2,_⟩:=hfp b hb
  rcases u_.mp (I.o9 b z)with e | e
  ·exact h1 e
  exact h2 e
 have hfresh:H3 s3.heap.objs.size=none:=I.hok.fresh (d_ _)
 refine⟨⟨I.ok.mod,C.kind,I.ok.glob,I.ok.blt,d_ _,fun x y c e1 e2=>I.ok.inj x y c (clo e1) (clo e2),fun x hx=>?_,fun x c z=>(nomatch z),fun _=>I.ok.hd hc,I.ok.frames,.inl rfl,fun b hb=>⟨?_,fun x c e=>?_⟩,fun b o e=>I.bs b o e,z_ I.ok.bsz I.sz,fun b o e hb=>?_,nfs,I.stack,I.oQ⟩,
  rfl,I.bare,Un.kept hk,⟨_,hn,fun i x v e1 e2 e3=>?_⟩,fun x c e=>?_,hfresh,fun x c e=>I.freeC x c (clo e),fun p hp=>(nomatch hp),I.hok.kept hk,?_⟩
 ·have hx:(dJ X.env sc).names.lookup x=some .cell\/(dJ X.env sc).names.lookup x=some .free:=hx
  rw[cL]at hx
  cases e:sc.names.lookup x with
  | none=>rw[e]at hx;rcases hx with z | z <;> cases z
  | some k=>
   have hm:(x,k)∈sc.names:=NM e
   have hk:k=.free:=by
    rw[e]at hx
    cases k with
    | free=>rfl
    | cell=>exact absurd rfl (C.nocell _ hm)
    | _=>rcases hx with z | z <;>(simp at z)
   subst hk
   obtain⟨c,hc'⟩:=hfr _ hm rfl
   exact⟨c,jQ hfr hc' hm⟩
 ·obtain⟨o,ho⟩:=hfo b hb
  exact q_ (Ng ho)
 ·exact(hfp b hb).2.2.2.2.1 x c (clo e)
 ·obtain⟨e1,_⟩:=I.ok.bs b o e
  rcases(hfp b hb).2.2.2.1 with z | z
  ·exact I.ok.noex b o e z
  exact absurd (x_ (Ng e1) z) (Jc _)
 ·have e2:(bg fr σ)[i]?=some (some v):=e2
  unfold bg at e2
  rw[B']at e2
  cases ef:fr[i]? with
  | none=>rw[ef]at e2;cases e2
  | some o=>
   rw[ef]at e2
   cases o with
   | none=>cases e2
   | some j=>
    have e2':(σ[j]?).join=some v:=by simpa using e2
    have e2'':σ[j]?=some (some v):=by
     cases q:σ[j]? with
     | none=>rw[q]at e2';cases e2'
     | some z=>rw[q]at e2';exact congrArg some e2'
    obtain⟨hN,hfrx⟩:=C.at_ i j x ef e1
    have hm:(x,Od)∈sc.names:=NM hfrx
    have hcell:=C.free _ hm rfl
    obtain⟨m,_,hl⟩:=I.loc
    obtain⟨u,r,l⟩:=hl j x v hN e2'' (.inr (.inl hcell))
    refine⟨u,r,.inr ⟨.inl ?_,?_⟩⟩
    ·show(dJ X.env sc).names.lookup x=some .cell
     rw[cL,hfrx]
     have h1:X.env.kindOf x=some .cell:=hcell
     have h2:X.env.scope.kind=.function:=C.ekind
     simp[h1,h2]
    rcases l with⟨k,_⟩ | ⟨_,c,ec,ic⟩
    ·have h1:X.env.kindOf x=some .cell:=hcell
     rw[h1]at k;cases k
    obtain⟨o,ho,hd⟩:=ic
    exact⟨c,jQ hfr ec hm,o,hk c o ho,hd⟩
 ·obtain⟨v,o,ho,hd⟩:=I.cell x c (clo e)
  exact⟨v,o,hk c o ho,hd⟩
 unfold bg
 rw[b_]
 exact C.len
noncomputable def PTs(X:Cx)(ifs:List Nn)(t:TT):Prop:=
 ∀(pins:List (M9 × Obj)) (s:M_) (σ:St) (H:Hp) (Q:Bool->Hp->Prop),Inv X pins σ H s->t σ H Q->
  Nb (Ni X.prog X.w) X.A (forIn ifs true fun c r=>if r=true then do let ok <-Rj c X.env (NA c X.env);pure (Nv ok)else pure (Nv r)) (TP X pins σ Q) X.xe s
def Ec:TT:=fun _ H Q=>Q true H
theorem uQ{X:Cx}:PTs X [] Ec:=fun pins s σ H Q I h=>wpAny_tests_nil ⟨H,I,h⟩
theorem Ab{X:Cx}{c:Nn}{t:TT}(h:PT X c t):PTs X [c] t:=fun pins s σ H Q I q=>wpAny_tests_one (h pins s σ H Q I q)
noncomputable def Cw(J:It)(fr:List (Option Nat))(g:M_->Hp->List M9->TG)(tt:M_->Hp->List M9->TT)(te:M_->Hp->List M9->TE)(σ:St)(H1:Hp)(Q:VK):Prop:=∀ p,H1 p=none->∀ s3 H3' fp,∃ W:Nat->Nat->St->Hp->Prop,(∃ m,W 0 m (bg fr σ) (upd H1 p (.lst [])))/\∀ i m σ' H',W i m σ' H'->
 (J.stop i H'/\Q (.ref p) H')\/(J.go i H'/\∀ x H2,J.yld i H' x H2->g s3 H3' fp x σ' H2 fun σ2 H3=>tt s3 H3' fp σ2 H3 fun b H4=>
  if b=true then te s3 H3' fp σ2 H4 fun v H5=>∃ ys,H5 p=some (.lst ys)/\ys.length < sizeLine/\∃ m',m' < m/\W (i + 1) m' σ2 (upd H5 p (.lst (ys++[v])))else ∃ m',m' < m/\W (i + 1) m' σ2 H4)
noncomputable def rL(wi:TI)(fr:List (Option Nat))(g:M_->Hp->List M9->TG)(tt:M_->Hp->List M9->TT)(te:M_->Hp->List M9->TE):TE:=fun σ H Q=>wi σ H fun J H1=>Cw J fr g tt te σ H1 Q
theorem uv{X:Cx}(N':List Str)(fr:List (Option Nat)){elt target iter:Nn}{ifs:List Nn}{sc:NO}{pos:Pos}{wi:TI}{g:M_->Hp->List M9->TG}{tt:M_->Hp->List M9->TT}{te:M_->Hp->List M9->TE}(hc:X.calm=true)(C:dE X.N X.env.scope sc N' fr=true)
  (hi:PI X target iter wi) (hg:∀ s3 H3 fp,PG (aB X N' sc s3 H3 fp) target (g s3 H3 fp)) (ht:∀ s3 H3 fp,PTs (aB X N' sc s3 H3 fp) ifs (tt s3 H3 fp)) (he:∀ s3 H3 fp,PE (aB X N' sc s3 H3 fp) elt (te s3 H3 fp))
  (hs:∀ x,NJ iter X.env x=pure x:=by intro _;rfl):PE X (.ListComp elt [⟨target,iter,ifs,0⟩] sc pos) (rL wi fr g tt te):=by
 have C:=nF C
 intro pins s σ H Q I h
 rw[eval_ListComp]
 have hfr:∀ x∈sc.names,x.2=.free->∃ c,X.env.cells.lookup x.1=some c:=fun x hx e=>I.ok.has x.1 (.inl (C.free x hx e))
 refine jj (g:=⟨target,iter,ifs,0⟩) (gs:=[]) rfl hs C.nocell hfr C.kind C.names ?_
 show Nb _ _ (NA iter X.env) _ _ s
 refine thn (hi pins s σ H _ I h) fun v s1 h1=>thn h1 fun itv s2 h2=>?_
 obtain⟨it,fp,tn,J,H2,e,I2,T,st2,f2,k2⟩:=h2
 subst e
 refine Qb ?_ (by show 0<=sizeLine;decide)
 have hf:H2 s2.heap.objs.size=none:=I2.hok.fresh (d_ _)
 obtain⟨W,⟨m0,w0⟩,turn⟩:=k2 _ hf { s2 with heap:=s2.heap.push { cls:=.type "list",data:=.seq ([]:List M7).toArray } } (upd H2 s2.heap.objs.size (.lst [])) fp
 have kp:∀ b u,s2.heap.get? b=some u->(s2.heap.push { cls:=.type "list",data:=.seq ([]:List M7).toArray }).get? b=some u:=fun b u e=>Na _ e
 have I3:Inv X pins σ (upd H2 s2.heap.objs.size (.lst [])) { s2 with heap:=s2.heap.push { cls:=.type "list",data:=.seq ([]:List M7).toArray } }:=
  I2.laid (t':=s2.toks) kp (d_ _) ⟨F_ _,[],0,.nil,Nf _ rfl⟩
 have obj2:=T.obj 0 s2.heap st2
 have fpne:∀ b∈fp,b≠s2.heap.objs.size:=fun b hb=>by
  obtain⟨o,ho,_⟩:=obj2 b hb
  exact q_ (Ng ho)
 have f3:∀ b∈fp,eE X pins (upd H2 s2.heap.objs.size (.lst [])) b:=fun b hb=>⟨by rw[av (fpne b hb)];exact(f2 b hb).1,(f2 b hb).2⟩
 have st3:=T.keep 0 s2.heap _ st2 fun b hb o e=>kp b o e
 have obj3:=T.obj 0 _ st3
 intro h4 hn4 hk4
 have st4:=T.keep 0 _ h4 st3 fun b hb o e=>hk4 b o e
 have I4:=rb (N':=N') (fr:=fr) (fp:=fp) I3 C hc f3 (fun b hb=>let ⟨o,ho,_⟩:=obj3 b hb;⟨o,ho⟩) hn4 hk4
 have stat:∀ {H':Hp},(∀ b∈fp,H' b=none)->∀ b∈fp,eE (aB X N' sc { s2 with heap:=s2.heap.push { cls:=.type "list",data:=.seq ([]:List M7).toArray } } (upd H2 s2.heap.objs.size (.lst [])) fp) [] H' b:=fun hn b hb=>
  ⟨hn b hb,(I4.ok.exf b hb).1,I4.ok.exfs b hb,.inl hb,(I4.ok.exf b hb).2,fun p hp=>(nomatch hp)⟩
 have loop:Om (Ni X.prog X.w) X.A (.compLoop (.ListComp elt [⟨target,iter,ifs,0⟩] sc pos) 0 (.ref it) (.ref s2.heap.objs.size) (compEnv X.env sc (s2.heap.push { cls:=.type "list",data:=.seq ([]:List M7).toArray }).objs.size))
   (fun r s'=>∃ m,s'.heap.Ns (s2.heap.push { cls:=.type "list",data:=.seq ([]:List M7).toArray }).objs.size m/\∀ h',NX (s2.heap.push { cls:=.type "list",data:=.seq ([]:List M7).toArray }).objs.size s'.heap h'->
    match r with | .ok _=>EP X pins σ Q (.ref s2.heap.objs.size) { s' with heap:=h' } | .error x=>False) { s2 with heap:=h4 }:=by
  refine dZ (fun n s'=>∃ i σ' H',Inv (aB X N' sc { s2 with heap:=s2.heap.push { cls:=.type "list",data:=.seq ([]:List M7).toArray } } (upd H2 s2.heap.objs.size (.lst [])) fp) [] σ' H' s'/\tn i s'.heap/\(∀ b∈fp,H' b=none)/\W i n σ' H') ?_ m0
   ⟨0,_,_,I4,st4,fun b hb=>(f3 b hb).1,w0⟩
  rintro n s5 ⟨i,σ5,H5,I5,st5,fr5,w5⟩
  rcases turn i n σ5 H5 w5 with⟨stop,q⟩ | ⟨go,step⟩
  ·refine thn (T.done (aB X N' sc _ _ fp) rfl rfl rfl rfl i [] s5 σ5 H5 (fun _ _=>False) I5 (stat fr5) st5 stop) ?_
   rintro r s6 ⟨hr,I6⟩
   subst hr
   obtain⟨m6,hn6,_⟩:=id I6.loc
   refine⟨m6,hn6,fun h' hs'=>?_⟩
   have hL:H5 (s2.heap.push { cls:=.type "list",data:=.seq ([]:List M7).toArray }).objs.size=none:=I6.free
   have hok':HOk X.prog X.w H5 h':=fun b u e=>by
    refine(I6.hok b u e).gI (fun c v hc q=>(hs'.2 c ?_).trans q) (fun _ q=>q) fun _ _ q=>q
    rintro rfl
    rcases hc with rfl | hc
    ·rw[hL]at e;cases e
    rw[hL]at hc;cases hc
   have ub:=I6.base
   have lt:∀ b o,(s2.heap.push { cls:=.type "list",data:=.seq ([]:List M7).toArray }).get? b=some o->b≠(s2.heap.push { cls:=.type "list",data:=.seq ([]:List M7).toArray }).objs.size:=fun b o e=>q_ (Ng e)
   have un:Un (frs X.stack) fp (upd H2 s2.heap.objs.size (.lst [])) H5 (s2.heap.push { cls:=.type "list",data:=.seq ([]:List M7).toArray }) h':=
    ⟨fun b o e n hb hx=>(hs'.2 b (lt b o e)).trans (ub.keep b o e n hb hx),fun b o e n hb hx=>let ⟨sl,z⟩:=ub.slot b o e n hb hx;⟨sl,(hs'.2 b (lt b o e)).trans z⟩,ub.free,
     fun b o e hx=>let ⟨o',z⟩:=ub.there b o e hx;⟨o',(hs'.2 b (lt b o e)).trans z⟩,ub.tups,ub.frzs,ub.tbls⟩
   refine⟨.ref s2.heap.objs.size,H5,I3.zM (s':={ s6 with heap:=h' }) (ch:=fp) I6.os un hok' I6.bare (fun b hb=>?_),rfl,q⟩
   obtain⟨_,g1,g2,g3,g4,g5⟩:=f3 b hb
   exact⟨g3,g1,g4,g5⟩
  refine thn (T.item (aB X N' sc _ _ fp) rfl rfl rfl rfl i [] s5 σ5 H5 (fun _ _=>False) I5 (stat fr5) st5 go) ?_
  rintro r s6 ⟨u,hr,h6⟩
  subst hr
  refine thn h6 ?_
  rintro _ s7 ⟨x,H7,I7,r7,y7,st7,fr7⟩
  have I7':=I7.pinned (stat fr7) (T.obj _ _ st7)
  have again:∀ {σ8:St} {H8:Hp} {s8:M_},Inv (aB X N' sc { s2 with heap:=s2.heap.push { cls:=.type "list",data:=.seq ([]:List M7).toArray } } (upd H2 s2.heap.objs.size (.lst [])) fp) ([]++gb fp s7.heap) σ8 H8 s8->(∃ m',m' < n/\W (i + 1) m' σ8 H8)->
    ∃ m,m < n/\∃ i σ' H',Inv (aB X N' sc { s2 with heap:=s2.heap.push { cls:=.type "list",data:=.seq ([]:List M7).toArray } } (upd H2 s2.heap.objs.size (.lst [])) fp) [] σ' H' s8/\tn i s8.heap/\(∀ b∈fp,H' b=none)/\W i m σ' H':=fun{σ8 H8 s8} I8 ⟨m',hm,w8⟩=>by
   refine⟨m',hm,i + 1,σ8,H8,I8.d6,T.keep _ _ _ st7 fun b hb o e=>(I8.pin (b,o) (n_ _ (n_ _ (bu hb e)))).1,fun b hb=>?_,w8⟩
   obtain⟨o,e,d⟩:=T.obj _ _ st7 b hb
   exact(I8.pin (b,o) (n_ _ (n_ _ (bu hb e)))).2.1
  refine thn (hg _ _ fp _ s7 σ5 H7 x u _ I7' r7 (step x H7 y7)) ?_
  rintro _ s8 ⟨σ8,H8,I8,q8⟩
  refine thn (ht _ _ fp _ s8 σ8 H8 _ I8 q8) ?_
  rintro ok s9 ⟨H9,I9,q9⟩
  cases ok with
  | false=>exact again I9 q9
  | true=>
   refine thn (he _ _ fp _ s9 σ8 H9 _ I9 q9) ?_
   rintro y s10 ⟨v,H10,I10,r10,ys,hys,hl,q10⟩
   refine thn (fF _ s10 σ8 H10 (.ref s2.heap.objs.size) [v] (.ref s2.heap.objs.size) [y] (fun _ H'=>∃ m',m' < n/\W (i + 1) m' σ8 H') I10 rfl (.cons r10 .nil) ⟨_,ys,v,rfl,rfl,hys,hl,q10⟩) ?_
   rintro z s11 ⟨_,H11,I11,_,q11⟩
   exact again I11 q11
 refine P9 loop ?_
 exact T.self X.A 0 _ _ _ st4 loop
def SqG(b:Bool)(K:M8)(H:Hp)(a:M9)(xs:List V):Prop:=match b with
 | true=>SqT K H a xs
 | false=>SqL K H a xs
section
variable{X:Cx}{pins:List (M9 × Obj)}{σ:St}{H:Hp}{s:M_}
theorem Inv.sq (I:Inv X pins σ H s){b:Bool}{a:M9}{xs:List V}(h:SqG b X.K H a xs):∃ its:List M7,Vals xs its/\ZG.Sq b s.heap a its.toArray/\xs.length<=sizeLine:=by
 cases b with
 | true=>exact I.tuple h
 | false=>
  obtain⟨its,r,p,z⟩:=I.list h
  exact⟨its,r,p.isList,z⟩
theorem Inv.sg (I:Inv X pins σ H s){b:Bool}{a:M9}{xs ys:List V}(h:SqG b X.K H a xs)(h':SqG b X.K H a ys):xs=ys:=by
 cases b with
 | true=>exact I.iX h h'
 | false=>exact I.kU h h'
theorem Inv.Ce (I:Inv X pins σ H s){a b:M9}{u:HO}(h:Rd H a u)(f:eE X pins H b):a≠b:=by
 rintro rfl
 rcases h with h | ⟨o,h⟩
 ·rw[f.1]at h;cases h
 rw[f.1]at h;cases h
theorem Inv.HD (I:Inv X pins σ H s){a b:M9}{o:Obj}(h:X.K.lookup a=some o)(f:eE X pins H b):a≠b:=by
 rintro rfl
 have e:X.base.get? a=some o:=I.ok.mod.kin a o h
 rcases f.2.2.2.1 with z | z
 ·exact I.ok.noex a o e z
 exact absurd (x_ (Ng (I.ok.bs a o e).1) z) (Jc _)
theorem Inv.bU (I:Inv X pins σ H s){b:Bool}{a c:M9}{xs:List V}(h:SqG b X.K H a xs)(f:eE X pins H c):a≠c:=by
 cases b with
 | true=>
  rcases h with h | ⟨o,its,n,hk,_⟩
  ·exact I.Ce h f
  ·exact I.HD hk f
 | false=>
  rcases h with h | ⟨o,its,n,hk,_⟩
  ·exact I.Ce h f
  exact I.HD hk f
end
noncomputable def Itz(K:M8)(b1:Bool)(a1:M9)(b2:Bool)(a2:M9):It:=
  ⟨fun i H=>∃ xs ys x y,SqG b1 K H a1 xs/\SqG b2 K H a2 ys/\xs[i]?=some x/\ys[i]?=some y,
   fun i H v H'=>∃ p x y,H p=none/\v=.ref p/\H'=upd H p (.tup [x,y])/\(∀ xs,SqG b1 K H a1 xs->xs[i]?=some x)/\∀ ys,SqG b2 K H a2 ys->ys[i]?=some y,
   fun i H=>∃ xs ys,SqG b1 K H a1 xs/\SqG b2 K H a2 ys/\(xs.length<=i\/ys.length<=i)⟩
structure Off5 (z TI TO i1 i2:M9):Prop where
 a1:TI≠z
 a2:TO≠z
 a3:i1≠z
 a4:i2≠z
 a5:TI≠TO
 a6:TI≠i1
 a7:TI≠i2
 a8:TO≠i1
 a9:TO≠i2
 b1:i1≠i2
theorem yN{P:Nl}{w:Nq}{K:M8}{es:List Nn}{x1:Nat}{tp:Pos}(b1:Bool)(a1:M9)(b2:Bool)(a2 z TI TO i1 i2:M9)(D:Off5 z TI TO i1 i2) :
  Turn P w K (.Tuple es x1 tp) (Itz K b1 a1 b2 a2) [z,TI,TO,i1,i2] z (fun i h=>Pj h z TI TO .none/\Ot h TI (.ref i1) (.ref i2)/\(∃ a b,Ot h TO a b)/\ZG.Dr b1 h i1 a1 i/\ZG.Dr b2 h i2 a2 i) where
 mem:=by simp
 obj:=fun i h st b hb=>by
  obtain⟨hz,hi,⟨a,c,ho⟩,d1,d2⟩:=st
  have hb:b=z\/b=TI\/b=TO\/b=i1\/b=i2:=by simpa using hb
  rcases hb with rfl | rfl | rfl | rfl | rfl
  ·exact⟨_,hz,fun v e=>by cases (show Q_ _=Qr v from e)⟩
  ·exact⟨_,hi,fun v e=>by cases (show UG _ _=Qr v from e)⟩
  ·exact⟨_,ho,fun v e=>by cases (show UG _ _=Qr v from e)⟩
  ·exact d1.some
  exact d2.some
 keep:=fun i h h' st k=>by
  obtain⟨hz,hi,⟨a,c,ho⟩,d1,d2⟩:=st
  exact⟨k z (by simp) _ hz,k TI (by simp) _ hi,⟨a,c,k TO (by simp) _ ho⟩,d1.at fun o e=>k i1 (by simp) o e,d2.at fun o e=>k i2 (by simp) o e⟩
 item:=by
  intro X hP hw hK hc i pins s σ H E I hf st hg
  subst hP hw hK
  obtain⟨xs,ys,x,y,q1,q2,hx,hy⟩:=hg
  obtain⟨its,rv,p1,z1⟩:=I.sq q1
  obtain⟨jts,sv,p2,z2⟩:=I.sq q2
  obtain⟨u,hu,ru⟩:=rv.get hx
  obtain⟨v,hv,rw'⟩:=sv.get hy
  obtain⟨hz,hi,⟨a,c,ho⟩,d1,d2⟩:=st
  have fz:=hf z (by simp)
  have fTI:=hf TI (by simp)
  have fTO:=hf TO (by simp)
  have f1:=hf i1 (by simp)
  have f2:=hf i2 (by simp)
  have DD:ZG.Off z TI TO i1 i2 a1 a2:=⟨D.a1,D.a2,D.a3,D.a4,D.a5,D.a6,D.a7,D.a8,D.a9,D.b1,I.bU q1 fz,I.bU q1 fTO,I.bU q1 f1,I.bU q1 f2,I.bU q2 fz,I.bU q2 fTO,I.bU q2 f1,I.bU q2 f2⟩
  refine ZG.rE DD hz hi ho d1 d2 p1 p2 (by simpa using hu) (by simpa using hv) fun g gz gO g1 g2 gT gs gk=>⟨_,rfl,?_⟩
  refine wpAny_letOwnedTupleGo_zip (s:={ s with heap:=g }) gz fun h' hz' hs'=>?_
  have hfresh:H s.heap.objs.size=none:=I.hok.fresh (d_ _)
  have zT:s.heap.objs.size≠z:=JE (Ng hz)
  have kp:∀ b o,b ∉ [z,TI,TO,i1,i2]->s.heap.get? b=some o->h'.get? b=some o:=fun b o hb e=>by
   have n:b≠z/\b≠TI/\b≠TO/\b≠i1/\b≠i2:=by simpa using hb
   exact hs'.extBut _ _ n.1 (gk b o n.1 n.2.2.1 n.2.2.2.1 n.2.2.2.2 e)
  have hT:h'.get? s.heap.objs.size=some { cls:=.type "tuple",data:=.seq #[u,v] }:=hs'.extBut _ _ zT gT
  have notfp:∀ b o,H b=some o->b ∉ [z,TI,TO,i1,i2]:=fun b o e hb=>by
   have:=(hf b hb).1
   rw[e]at this;cases this
  have ne:∀ b o,s.heap.get? b=some o->b≠s.heap.objs.size:=fun b o e=>q_ (Ng e)
  have nt:∀ b o,H b=some o->b≠s.heap.objs.size:=fun b o e=>b6 e hfresh
  have I1:Inv X pins σ (upd H s.heap.objs.size (.tup [x,y])) { s with heap:=h' }:=by
   refine I.step (g':=s.gens) (d':=s.drawn) (t':=s.toks) (ch:=[z,TI,TO,i1,i2]) (fun b hb=>?_) (fun b o _ _ hc e _=>kp b o hc e) (fun b o _ _ hc e _=>⟨o.slots,kp b o hc e⟩)
    (fun b o _ e n=>by rw[av (ne b o e)];exact n) (fun b o hc e=>⟨o,kp b o hc e⟩) (fun b zs e=>by rw[av (nt b _ e)];exact e) (fun b o u e=>by rw[av (nt b _ e)];exact e)
    (fun b ps e=>⟨#[],by rw[av (nt b _ e),e];simp⟩) (fun m hm=>?_) (fun b o e=>?_) I.bare
   ·obtain⟨g0,g1,g2,g3,g4,g5⟩:=hf b hb
    exact⟨g3,g1,g4,g5⟩
   ·obtain⟨o,es,ep,ho',r⟩:=hm
    exact⟨o,es,ep,kp _ o (fun hb=>(hf _ hb).2.1 rfl) ho',r⟩
   by_cases hb:b=s.heap.objs.size
   ·subst hb
    rw[ay]at e
    cases e
    exact⟨by show 2<=sizeLine;decide,[u,v],.cons ru (.cons rw' .nil),_,hT,rfl,_,rfl⟩
   rw[av hb]at e
   refine(I.hok b o e).gI (fun c' w' hc' q=>kp c' w' ?_ q) (fun c' q=>by rw[av (nt c' _ q)];exact q) fun c' zs q=>by rw[av (nt c' _ q)];exact q
   rcases hc' with rfl | hc'
   ·exact notfp _ _ e
   exact notfp _ _ hc'
  refine⟨.ref s.heap.objs.size,_,I1,rfl,⟨s.heap.objs.size,x,y,hfresh,rfl,rfl,fun zs hq=>by rw[I.sg hq q1];exact hx,fun zs hq=>by rw[I.sg hq q2];exact hy⟩,?_,fun b hb=>?_⟩
  ·exact⟨hz',hs'.extBut _ _ D.a1 (gk _ _ D.a1 D.a5 D.a6 D.a7 hi),⟨_,_,hs'.extBut _ _ D.a2 gO⟩,g1.ext hs'.extBut D.a3,g2.ext hs'.extBut D.a4⟩
  have hb0:=(hf b hb).1
  have hb':b=z\/b=TI\/b=TO\/b=i1\/b=i2:=by simpa using hb
  have hlt:∃ o,s.heap.get? b=some o:=by
   rcases hb' with rfl | rfl | rfl | rfl | rfl
   ·exact⟨_,hz⟩
   ·exact⟨_,hi⟩
   ·exact⟨_,ho⟩
   ·obtain⟨o,e,_⟩:=d1.some;exact⟨o,e⟩
   obtain⟨o,e,_⟩:=d2.some;exact⟨o,e⟩
  obtain⟨o,e⟩:=hlt
  rw[av (ne b o e)]
  exact hb0
 done:=by
  intro X hP hw hK hc i pins s σ H E I hf st hg
  subst hP hw hK
  obtain⟨xs,ys,q1,q2,hn⟩:=hg
  obtain⟨its,rv,p1,z1⟩:=I.sq q1
  obtain⟨jts,sv,p2,z2⟩:=I.sq q2
  obtain⟨hz,hi,⟨a,c,ho⟩,d1,d2⟩:=st
  have fz:=hf z (by simp)
  have fTI:=hf TI (by simp)
  have fTO:=hf TO (by simp)
  have f1:=hf i1 (by simp)
  have f2:=hf i2 (by simp)
  have DD:ZG.Off z TI TO i1 i2 a1 a2:=⟨D.a1,D.a2,D.a3,D.a4,D.a5,D.a6,D.a7,D.a8,D.a9,D.b1,I.bU q1 fz,I.bU q1 fTO,I.bU q1 f1,I.bU q1 f2,I.bU q2 fz,I.bU q2 fTO,I.bU q2 f1,I.bU q2 f2⟩
  have l1:=rv.length
  have l2:=sv.length
  refine ZG.t6 (I.ok.hd hc) DD hz hi ho d1 d2 p1 p2 (hn.elim (fun z=>.inl (by simp;omega)) fun z=>.inr (by simp;omega)) fun g gk=>⟨rfl,?_⟩
  have kp:∀ b o,b ∉ [z,TI,TO,i1,i2]->s.heap.get? b=some o->g.get? b=some o:=fun b o hb e=>by
   have n:b≠z/\b≠TI/\b≠TO/\b≠i1/\b≠i2:=by simpa using hb
   exact gk b o n.1 n.2.2.1 n.2.2.2.1 n.2.2.2.2 e
  have notfp:∀ b o,H b=some o->b ∉ [z,TI,TO,i1,i2]:=fun b o e hb=>by
   have:=(hf b hb).1
   rw[e]at this;cases this
  refine I.step (g':=s.gens) (d':=s.drawn) (t':=s.toks) (ch:=[z,TI,TO,i1,i2]) (fun b hb=>?_) (fun b o _ _ hc e _=>kp b o hc e) (fun b o _ _ hc e _=>⟨o.slots,kp b o hc e⟩)
   (fun b o _ e n=>n) (fun b o hc e=>⟨o,kp b o hc e⟩) (fun b zs e=>e) (fun b o u e=>e) (fun b ps e=>⟨#[],by rw[e];simp⟩) (fun m hm=>?_) (fun b o e=>?_) I.bare
  ·obtain⟨g0,g1,g2,g3,g4,g5⟩:=hf b hb
   exact⟨g3,g1,g4,g5⟩
  ·obtain⟨o,es,ep,ho',r⟩:=hm
   exact⟨o,es,ep,kp _ o (fun hb=>(hf _ hb).2.1 rfl) ho',r⟩
  refine(I.hok b o e).gI (fun c' w' hc' q=>kp c' w' ?_ q) (fun c' q=>q) fun c' zs q=>q
  rcases hc' with rfl | hc'
  ·exact notfp _ _ e
  exact notfp _ _ hc'
 self:=fun _ _ _ _ _ st h=>Sx st.1 h
noncomputable def Ic(K:M8)(ta:TA):TI:=fun σ H R=>ta σ H fun vs H1=>∃ b1 a1 b2 a2,vs=[.ref a1,.ref a2]/\(∃ xs,SqG b1 K H1 a1 xs)/\(∃ ys,SqG b2 K H1 a2 ys)/\R (Itz K b1 a1 b2 a2) H1
theorem D8{X:Cx}{es:List Nn}{x1:Nat}{tp:Pos}{a b:Nn}{ta:TA}{p pos:Pos}(hg:Gl X "zip")(hm:X.mg "zip"=none)(ha:PA X [a,b] ta)(hs:Np [a,b] X.env=[(false,NA a X.env),(false,NA b X.env)]:=by rfl)(hs2:Np [b] X.env=[(false,NA b X.env)]:=by rfl) :
  PI X (.Tuple es x1 tp) (.Call (.Name "zip" p) [a,b] [] pos) (Ic X.K ta):=by
 intro pins s σ H R I h
 refine Vc (bT I hg hm boot_zip (OE (thn (ha pos pins s σ H _ I h) fun us s1 ⟨vs,H1,I1,r1,q1⟩=>?_) (by rw[hs,hs2]) (by rw[hs2];rfl)))
 obtain⟨b1,a1,b2,a2,e,⟨xs,q1⟩,⟨ys,q2⟩,q⟩:=q1
 subst e
 cases r1 with
 | cons r rr=>
  cases rr with
  | cons r' rr=>
   cases rr
   cases r
   cases r'
   obtain⟨its,rv,p1,z1⟩:=I1.sq q1
   obtain⟨jts,sv,p2,z2⟩:=I1.sq q2
   refine ZG.xM p1 p2 fun g gz gi go g1 g2 gs gk=>Sx (s:={ s1 with heap:=g }) gz ?_
   have I2:Inv X pins σ H1 { s1 with heap:=g }:=I1.kept (t':=s1.toks) gk
   refine⟨_,_,_,_,H1,rfl,I2,yN b1 a1 b2 a2 _ (s1.heap.objs.size + 2) (s1.heap.objs.size + 3) s1.heap.objs.size (s1.heap.objs.size + 1) ?_,⟨gz,gi,⟨_,_,go⟩,g1,g2⟩,fun b hb=>?_,q⟩
   ·constructor <;>(show(_:Nat)≠_) <;> omega
   have hb':s1.heap.objs.size<=b:=by
    have z:b=s1.heap.objs.size + 4\/b=s1.heap.objs.size + 2\/b=s1.heap.objs.size + 3\/b=s1.heap.objs.size\/b=s1.heap.objs.size + 1:=by simpa using hb
    rcases z with z | z | z | z | z <;> rw[z] <;>(show(_:Nat)<=_) <;> omega
   exact I1.tu hb' (I1.hok.fresh hb')
def bools(bs:List Bool):List V:=bs.map V.bl
theorem mI{bs:List Bool}{us:List M7}(r:Vals (bools bs) us){i:Nat}{u:M7}(h:us[i]?=some u):∃ b,bs[i]?=some b/\u=.bool b:=by
 have hl:=r.length
 have hi:i < us.length:=(c_.mp h).1
 have hb:i < bs.length:=by rw[<-hl]at hi;simpa[bools]using hi
 have e:(bools bs)[i]?=some (.bl bs[i]):=by unfold bools;rw[B',a_ hb];rfl
 obtain⟨u',h',ru⟩:=r.get e
 rw[h]at h'
 cases h'
 exact⟨bs[i],a_ hb,ru⟩
theorem tQ(bs:List Bool):((m_ bs.length).all fun i=>(bs[i]?).getD true)=bs.all id:=by
 have e:bs=(m_ bs.length).map fun i=>(bs[i]?).getD true:=by
  apply MA
  ·simp
  intro i h1 h2;simp[h1]
 conv=>rhs;rw[e,K_]
 rfl
theorem tf(bs:List Bool):((m_ bs.length).any fun i=>(bs[i]?).getD true)=bs.any id:=by
 have e:bs=(m_ bs.length).map fun i=>(bs[i]?).getD true:=by
  apply MA
  ·simp
  intro i h1 h2;simp[h1]
 conv=>rhs;rw[e,K']
 rfl
section
variable{X:Cx}
theorem A4(hc:X.calm=true):cy X (.builtin "all") (fun xs H Q=>∃ a bs,xs=[.ref a]/\SqL X.K H a (bools bs)/\Q (.bl (bs.all id)) H):=by
 intro pins s σ H xs us Q I r h
 obtain⟨a,bs,rfl,hq,q⟩:=h
 obtain⟨u,rfl,ru⟩:=vals1 r
 cases ru
 obtain⟨its,rv,p,z⟩:=I.list hq
 have hl:=p.isList
 have hlt:a < s.heap.objs.size:=by obtain⟨_,e,_⟩:=hl;exact Ng e
 have hlen:its.toArray.size=bs.length:=by rw[p_,<-rv.length];simp[bools]
 refine call_all_walk (Of hl ⟨s.heap.objs.size,[s.heap.objs.size,a],[s.heap.objs.size],its.toArray.size,_,_,fun i=>(bs[i]?).getD true,rfl,QJ (A:=X.A.in1) (I.ok.hd hc) _ a (q_ hlt) its.toArray,⟨⟨_,Nf _ rfl,rfl,rfl⟩,hl.push _⟩,fun i v s' Q' E' hP hQ=>?_,fun h' tk hk=>?_⟩)
 ·obtain⟨b,e,rfl⟩:=mI rv (i:=i) (u:=v) (by simpa using hP)
  simp only[e,MB]at hQ
  exact Oe hQ
 rw[hlen,tQ]
 exact⟨.bl (bs.all id),H,I.kept (t':=tk) (TV hk),rfl,q⟩
theorem zE(hc:X.calm=true):cy X (.builtin "any") (fun xs H Q=>∃ a bs,xs=[.ref a]/\SqL X.K H a (bools bs)/\Q (.bl (bs.any id)) H):=by
 intro pins s σ H xs us Q I r h
 obtain⟨a,bs,rfl,hq,q⟩:=h
 obtain⟨u,rfl,ru⟩:=vals1 r
 cases ru
 obtain⟨its,rv,p,z⟩:=I.list hq
 have hl:=p.isList
 have hlt:a < s.heap.objs.size:=by obtain⟨_,e,_⟩:=hl;exact Ng e
 have hlen:its.toArray.size=bs.length:=by rw[p_,<-rv.length];simp[bools]
 refine call_any_walk (Of hl ⟨s.heap.objs.size,[s.heap.objs.size,a],[s.heap.objs.size],its.toArray.size,_,_,fun i=>(bs[i]?).getD true,rfl,QJ (A:=X.A.in1) (I.ok.hd hc) _ a (q_ hlt) its.toArray,⟨⟨_,Nf _ rfl,rfl,rfl⟩,hl.push _⟩,fun i v s' Q' E' hP hQ=>?_,fun h' tk hk=>?_⟩)
 ·obtain⟨b,e,rfl⟩:=mI rv (i:=i) (u:=v) (by simpa using hP)
  simp only[e,MB]at hQ
  exact Oe hQ
 rw[hlen,tf]
 exact⟨.bl (bs.any id),H,I.kept (t':=tk) (TV hk),rfl,q⟩
end
inductive Ty where
 | non | bl | int | str | lst | tup | dct
 deriving DecidableEq
noncomputable def Ty.nm:Ty->String
 | .non=>"NoneType"
 | .bl=>"bool"
 | .int=>"int"
 | .str=>"str"
 | .lst=>"list"
 | .tup=>"tuple"
 | .dct=>"dict"
def isA(t c:Ty):Bool:=decide (t=c) || (decide (t=.bl) && decide (c=.int))
inductive TyG (K:M8) (H:Hp):V->Ty->Prop where
 | non:TyG K H .non .non
 | bl (b:Bool):TyG K H (.bl b) .bl
 | int (i:Int):TyG K H (.int i) .int
 | str (x:Str):TyG K H (.str x) .str
 | lst {a:M9} {xs:List V} (h:SqL K H a xs):TyG K H (.ref a) .lst
 | tup {a:M9} {xs:List V} (h:SqT K H a xs):TyG K H (.ref a) .tup
 | dct {a:M9} {kvs:List (Key × V)} (h:Rd H a (.dK kvs)):TyG K H (.ref a) .dct
theorem vt(K:M8)(t c:Ty):PySem.W.kitOne K (.type t.nm) (.type c.nm)=some (isA t c):=by
 cases t <;> cases c <;> kernel_rfl
theorem vb(K:M8)(t:Ty):∀ cs:List Ty,Tn K (.type t.nm) (cs.map fun c=>Ob c.nm)=some (cs.any (isA t))
 | []=>rfl
 | c::r=>by
  rw[k_,JB]
  unfold Tn
  rw[vt]
  cases isA t c with
  | true=>rfl
  | false=>exact vb K t r
section
variable{X:Cx}{pins:List (M9 × Obj)}{σ:St}{H:Hp}{s:M_}{A:Nw}{E:M7->M_->Prop}{Q:M7->M_->Prop}
theorem Vals.tys:∀ {cs:List Ty} {us:List M7},Vals (cs.map fun c=>V.ty c.nm) us->us=cs.map fun c=>Ob c.nm
 | [],_,.nil=>rfl
 | c::r,_,.cons h t=>by
  have e:_=Ob c.nm:=h
  rw[k_,<-Vals.tys t,e]
noncomputable def uT(K:M8)(H:Hp)(y:V)(cs:List Ty):Prop:=(∃ c,y=.ty c.nm/\cs=[c])\/∃ p,y=.ref p/\H p=some (.tup (cs.map fun c=>V.ty c.nm))
theorem yU{x y:V}{u v:M7}{t:Ty}{cs:List Ty}(I:Inv X pins σ H s)(rx:RelV x u)(ry:RelV y v)(ty:TyG X.K H x t)(ka:uT X.K H y cs)(h:∀ tk,Q (.bool (cs.any (isA t))) { s with toks:=tk }) :
  Nb (Ni X.prog X.w) A (call (.builtin "isinstance") [u,v]) Q E s:=by
 have go:∀ {P:Nr->Prop},PySem.W.KitX X.K u (.type t.nm) P->P s.heap->u≠.builtin "__main__.__loader__#opaque"->Nb (Ni X.prog X.w) A (call (.builtin "isinstance") [u,v]) Q E s:=fun{P} Z p hx=>by
  rcases ka with⟨c,rfl,rfl⟩ | ⟨q,rfl,hq⟩
  ·cases (show v=Ob c.nm from ry)
   have e:([c].any (isA t))=isA t c:=by simp
   exact PySem.W.kia_one Z I.kIn p (vt X.K t c) hx (fun tk=>by rw[<-e];exact h tk)
  cases (show v=N1 q from ry)
  obtain⟨_,its,rv,o,ho,hc,n,hd⟩:=(show bj X.prog X.w H s.heap q (.tup _)from I.hok q _ hq)
  have e:=rv.tys
  subst e
  obtain⟨c,dd,dt,sl⟩:=o
  cases (show c=_ from hc)
  cases (show dt=_ from hd)
  exact PySem.W.kia_tup Z I.kIn p ho (vb X.K t cs) hx h
 cases ty with
 | non=>cases (show u=NR from rx);exact go PySem.W.kitx_none OW (fun z=>nomatch z)
 | bl y=>cases (show u=SF y from rx);exact go PySem.W.kitx_bool OW (fun z=>nomatch z)
 | int i=>obtain⟨t,q⟩:=(show ∃ t,u=PD i t from rx);cases q;exact go PySem.W.kitx_int OW (fun z=>nomatch z)
 | str y=>obtain⟨t,q⟩:=(show ∃ t,u=RT y t from rx);cases q;exact go PySem.W.kitx_str OW (fun z=>nomatch z)
 | @lst a xs hq=>
  cases (show u=N1 a from rx)
  obtain⟨_,_,p,_⟩:=I.list hq
  obtain⟨o,h1,h2,_⟩:=p.isList
  exact go PySem.W.kitx_list ⟨o,h1,h2⟩ (fun z=>nomatch z)
 | @tup a xs hq=>
  cases (show u=N1 a from rx)
  obtain⟨_,_,p,_⟩:=I.tuple hq
  obtain⟨o,h1,h2,_⟩:=p
  exact go PySem.W.kitx_tuple ⟨o,h1,h2⟩ (fun z=>nomatch z)
 | @dct a kvs hq=>
  cases (show u=N1 a from rx)
  obtain⟨_,_,vs,_,p⟩:=(show bj X.prog X.w H s.heap a (.dK kvs)from hq.ok I.hok)
  obtain⟨o,es,ep,h1,h2,_⟩:=p
  exact go PySem.W.kitx_dict ⟨o,h1,h2.1⟩ (fun z=>nomatch z)
theorem aS:cy X (.builtin "isinstance") (fun xs H Q=>∃ x y t cs,xs=[x,y]/\TyG X.K H x t/\uT X.K H y cs/\Q (.bl (cs.any (isA t))) H):=by
 intro pins s σ H xs us Q I r h
 obtain⟨x,y,t,cs,rfl,ty,ka,q⟩:=h
 cases r with
 | cons r rr=>
  cases rr with
  | cons r' rr=>
   cases rr
   exact yU I r r' ty ka fun tk=>⟨.bl (cs.any (isA t)),H,I.tok tk,rfl,q⟩
end
inductive Dt where
 | int (i:Int) | bl (b:Bool) | str (x:Str) | non | lst (ds:List Dt) | tup (ds:List Dt)
mutual
def Has(K:M8)(H:Hp):Dt->V->Prop
 | .int i,v=>v=.int i
 | .bl b,v=>v=.bl b
 | .str x,v=>v=.str x
 | .non,v=>v=.non
 | .lst ds,v=>∃ a xs,v=.ref a/\SqL K H a xs/\az K H ds xs
 | .tup ds,v=>∃ a xs,v=.ref a/\SqT K H a xs/\az K H ds xs
def az(K:M8)(H:Hp):List Dt->List V->Prop
 | [],xs=>xs=[]
 | d::r,xs=>∃ x t,xs=x::t/\Has K H d x/\az K H r t
end
mutual
def dpt:Dt->Nat
 | .lst ds=>bH ds + 1
 | .tup ds=>bH ds + 1
 | _=>0
def bH:List Dt->Nat
 | []=>0
 | d::r=>max (dpt d) (bH r)
end
mutual
def eqD:Dt->Dt->Bool
 | .int a,.int b=>a == b
 | .int a,.bl b=>a ==(if b then 1 else 0)
 | .bl a,.int b=>(if a then 1 else 0) == b
 | .bl a,.bl b=>a == b
 | .str a,.str b=>a == b
 | .non,.non=>true
 | .lst xs,.lst ys=>eqL xs ys
 | .tup xs,.tup ys=>eqL xs ys
 | _,_=>false
def eqL:List Dt->List Dt->Bool
 | [],[]=>true
 | x::xs,y::ys=>eqD x y && eqL xs ys
 | _,_=>false
end
mutual
theorem gY:∀ d:Dt,eqD d d=true
 | .int a=>by simp[eqD]
 | .bl a=>by simp[eqD]
 | .str a=>by simp[eqD]
 | .non=>by simp[eqD]
 | .lst xs=>by rw[eqD];exact l7 xs
 | .tup xs=>by rw[eqD];exact l7 xs
theorem l7:∀ ds:List Dt,eqL ds ds=true
 | []=>by simp[eqL]
 | d::r=>by rw[eqL,gY d,l7 r];rfl
end
theorem az.len {K:M8}{H:Hp}:∀ {ds:List Dt} {xs:List V},az K H ds xs->ds.length=xs.length
 | [],xs,h=>by rw[az]at h;rw[h];rfl
 | d::r,xs,h=>by
  rw[az]at h
  obtain⟨x,t,rfl,_,ht⟩:=h
  rw[o_,o_,az.len ht]
theorem az.get {K:M8}{H:Hp}:∀ {ds:List Dt} {xs:List V} {i:Nat} {d:Dt} {x:V},az K H ds xs->ds[i]?=some d->xs[i]?=some x->Has K H d x
 | [],xs,i,d,x,h,e,_=>by simp at e
 | c::r,xs,0,d,x,h,e,f=>by
  rw[az]at h
  obtain⟨y,t,rfl,hy,ht⟩:=h
  simp at e f
  subst e f
  exact hy
 | c::r,xs,i + 1,d,x,h,e,f=>by
  rw[az]at h
  obtain⟨y,t,rfl,hy,ht⟩:=h
  exact az.get ht (i:=i) (by simpa using e) (by simpa using f)
theorem SqL.same {K:M8}{H H':Hp}{a:M9}{xs:List V}(e:aN H H')(h:SqL K H a xs):SqL K H' a xs:=e.seq h
theorem SqT.same {K:M8}{H H':Hp}{a:M9}{xs:List V}(e:aN H H')(h:SqT K H a xs):SqT K H' a xs:=by
 rcases h with (h | ⟨o,h⟩) | h
 ·exact .inl (.inl (e _ _ h))
 ·exact .inl (.inr ⟨o,e _ _ h⟩)
 exact .inr h
theorem SqG.same {b:Bool}{K:M8}{H H':Hp}{a:M9}{xs:List V}(e:aN H H')(h:SqG b K H a xs):SqG b K H' a xs:=by
 cases b with
 | true=>exact SqT.same e h
 | false=>exact SqL.same e h
mutual
theorem Has.same {K:M8}{H H':Hp}(e:aN H H'):∀ {d:Dt} {v:V},Has K H d v->Has K H' d v
 | .int i,v,h=>by rw[Has]at h ⊢;exact h
 | .bl i,v,h=>by rw[Has]at h ⊢;exact h
 | .str i,v,h=>by rw[Has]at h ⊢;exact h
 | .non,v,h=>by rw[Has]at h ⊢;exact h
 | .lst ds,v,h=>by
  rw[Has]at h ⊢
  obtain⟨a,xs,hv,hs,hl⟩:=h
  exact⟨a,xs,hv,SqL.same e hs,az.same e hl⟩
 | .tup ds,v,h=>by
  rw[Has]at h ⊢
  obtain⟨a,xs,hv,hs,hl⟩:=h
  exact⟨a,xs,hv,SqT.same e hs,az.same e hl⟩
theorem az.same {K:M8}{H H':Hp}(e:aN H H'):∀ {ds:List Dt} {xs:List V},az K H ds xs->az K H' ds xs
 | [],xs,h=>by rw[az]at h ⊢;exact h
 | d::r,xs,h=>by
  rw[az]at h ⊢
  obtain⟨x,t,hx,h1,h2⟩:=h
  exact⟨x,t,hx,Has.same e h1,az.same e h2⟩
end
theorem az.append {K:M8}{H:Hp}:∀ {ds es:List Dt} {xs ys:List V},az K H ds xs->az K H es ys->az K H (ds++es) (xs++ys)
 | [],es,xs,ys,h,g=>by rw[az]at h;subst h;exact g
 | d::r,es,xs,ys,h,g=>by
  rw[az]at h
  obtain⟨x,t,rfl,h1,h2⟩:=h
  show az K H (d::(r++es)) (x::(t++ys))
  rw[az]
  exact⟨x,t++ys,rfl,h1,az.append h2 g⟩
theorem gA{K:M8}{H:Hp}:az K H [] []:=by rw[az]
theorem iV{K:M8}{H:Hp}{d:Dt}{r:List Dt}{x:V}{t:List V}(h:Has K H d x)(g:az K H r t):az K H (d::r) (x::t):=by rw[az];exact⟨x,t,rfl,h,g⟩
def di(ns:List Int):List Dt:=ns.map Dt.int
theorem nk{K:M8}{H:Hp}:∀ ns:List Int,az K H (di ns) (ns.map V.int)
 | []=>gA
 | n::r=>iV (by rw[Has]) (nk r)
theorem rj{K:M8}{H:Hp}{p:M9}{ns:List Int}(h:SqL K H p (ns.map V.int)):Has K H (.lst (di ns)) (.ref p):=by rw[Has];exact⟨p,_,rfl,h,nk ns⟩
theorem mM:∀ ns:List Int,bH (di ns)=0
 | []=>by simp[di,bH]
 | n::r=>by
  have ih:=mM r
  show bH (Dt.int n::di r)=0
  simp[bH,dpt,ih]
theorem i5:∀ {ds:List Dt} {i:Nat} {d:Dt},ds[i]?=some d->dpt d<=bH ds
 | [],i,d,e=>by simp at e
 | c::r,0,d,e=>by simp at e;subst e;rw[bH];exact Nat.le_max_left _ _
 | c::r,i + 1,d,e=>by
  have q:dpt d<=bH r:=i5 (i:=i) (by simpa using e)
  rw[bH]
  exact z_ q (Nat.le_max_right _ _)
theorem jk:∀(ds es:List Dt),ds.length=es.length->((m_ ds.length).all fun j=>eqD (ds.getD j .non) (es.getD j .non))=eqL ds es
 | [],[],_=>by simp[eqL]
 | [],e::r,h=>by simp at h
 | d::r,[],h=>by simp at h
 | d::r,e::t,h=>by
  have h':r.length=t.length:=by simpa using h
  rw[eqL,<-jk r t h',o_,List.range_succ_eq_map,Lw,K_]
  rfl
theorem pL:∀ {ds es:List Dt},eqL ds es=true->ds.length=es.length
 | [],[],_=>rfl
 | [],e::r,h=>by simp[eqL]at h
 | d::r,[],h=>by simp[eqL]at h
 | d::r,e::t,h=>by
  rw[eqL,H_]at h
  rw[o_,o_,pL h.2]
theorem qO:∀(ds es:List Dt),(((m_ (min ds.length es.length)).all fun j=>eqD (ds.getD j .non) (es.getD j .non)) && ds.length == es.length)=eqL ds es:=by
 intro ds es
 by_cases h:ds.length=es.length
 ·rw[<-jk ds es h,h,MU]
  simp
 have:eqL ds es=false:=JN.mpr fun z=>h (pL z)
 rw[this]
 have:(ds.length == es.length)=false:=by simpa using h
 rw[this,ML]
section
variable{X:Cx}{pins:List (M9 × Obj)}{σ:St}{H:Hp}{s:M_}
theorem qI(n:Nat){A:Nw}(hA:A.units + 1 + n < cLine + 1)(I:Inv X pins σ H s){ds es:List Dt}{xs ys:List V}{its jts:List M7}(h1:az X.K H ds xs)(h2:az X.K H es ys)(r1:Vals xs its)(r2:Vals ys jts)
  (rec:∀ d e x y u v,d∈ds->e∈es->Has X.K H d x->Has X.K H e y->RelV x u->RelV y v->Pm A.in1 s u v (eqD d e)) :
  ∀ j (g1:j < its.toArray.size) (g2:j < jts.toArray.size),Pm A.in1 s its.toArray[j] jts.toArray[j] (eqD (ds.getD j .non) (es.getD j .non)):=by
 intro j g1 g2
 have l1:=r1.length
 have l2:=r2.length
 have m1:=h1.len
 have m2:=h2.len
 have g1':j < its.length:=by simpa using g1
 have g2':j < jts.length:=by simpa using g2
 have a1:j < xs.length:=by lia
 have a2:j < ys.length:=by lia
 have b1:j < ds.length:=by lia
 have b2:j < es.length:=by lia
 obtain⟨u,hu,ru⟩:=r1.get (a_ a1)
 obtain⟨v,hv,rv⟩:=r2.get (a_ a2)
 rw[a_ g1']at hu
 rw[a_ g2']at hv
 cases hu
 cases hv
 have e1:ds.getD j .non=ds[j]:=by simp[C_,b1]
 have e2:es.getD j .non=es[j]:=by simp[C_,b2]
 rw[e1,e2]
 have:=rec ds[j] es[j] xs[j] ys[j] its[j] jts[j] (I_ b1) (I_ b2) (h1.get (a_ b1) (a_ a1)) (h2.get (a_ b2) (a_ a2)) ru rv
 simpa using this
theorem uz{ds:List Dt}{d:Dt}(h:d∈ds):dpt d<=bH ds:=by
 obtain⟨i,hi⟩:=List.getElem?_of_mem h
 exact i5 hi
mutual
theorem Has.inj (I:Inv X pins σ H s):∀ {d e:Dt} {x:V},Has X.K H d x->Has X.K H e x->d=e
 | .int a,.int b,x,h1,h2=>by
  rw[Has]at h1
  rw[Has]at h2
  rw[h1]at h2
  cases h2
  rfl
 | .int a,.bl b,x,h1,h2=>by
  rw[Has]at h1
  rw[Has]at h2
  rw[h1]at h2
  cases h2
 | .int a,.str b,x,h1,h2=>by
  rw[Has]at h1
  rw[Has]at h2
  rw[h1]at h2
  cases h2
 | .int a,.non,x,h1,h2=>by
  rw[Has]at h1
  rw[Has]at h2
  rw[h1]at h2
  cases h2
 | .int a,.lst b,x,h1,h2=>by
  rw[Has]at h1
  rw[Has]at h2
  obtain⟨p,xs,e,s1,l1⟩:=h2
  rw[h1]at e
  cases e
 | .int a,.tup b,x,h1,h2=>by
  rw[Has]at h1
  rw[Has]at h2
  obtain⟨p,xs,e,s1,l1⟩:=h2
  rw[h1]at e
  cases e
 | .bl a,.int b,x,h1,h2=>by
  rw[Has]at h1
  rw[Has]at h2
  rw[h1]at h2
  cases h2
 | .bl a,.bl b,x,h1,h2=>by
  rw[Has]at h1
  rw[Has]at h2
  rw[h1]at h2
  cases h2
  rfl
 | .bl a,.str b,x,h1,h2=>by
  rw[Has]at h1
  rw[Has]at h2
  rw[h1]at h2
  cases h2
 | .bl a,.non,x,h1,h2=>by
  rw[Has]at h1
  rw[Has]at h2
  rw[h1]at h2
  cases h2
 | .bl a,.lst b,x,h1,h2=>by
  rw[Has]at h1
  rw[Has]at h2
  obtain⟨p,xs,e,s1,l1⟩:=h2
  rw[h1]at e
  cases e
 | .bl a,.tup b,x,h1,h2=>by
  rw[Has]at h1
  rw[Has]at h2
  obtain⟨p,xs,e,s1,l1⟩:=h2
  rw[h1]at e
  cases e
 | .str a,.int b,x,h1,h2=>by
  rw[Has]at h1
  rw[Has]at h2
  rw[h1]at h2
  cases h2
 | .str a,.bl b,x,h1,h2=>by
  rw[Has]at h1
  rw[Has]at h2
  rw[h1]at h2
  cases h2
 | .str a,.str b,x,h1,h2=>by
  rw[Has]at h1
  rw[Has]at h2
  rw[h1]at h2
  cases h2
  rfl
 | .str a,.non,x,h1,h2=>by
  rw[Has]at h1
  rw[Has]at h2
  rw[h1]at h2
  cases h2
 | .str a,.lst b,x,h1,h2=>by
  rw[Has]at h1
  rw[Has]at h2
  obtain⟨p,xs,e,s1,l1⟩:=h2
  rw[h1]at e
  cases e
 | .str a,.tup b,x,h1,h2=>by
  rw[Has]at h1
  rw[Has]at h2
  obtain⟨p,xs,e,s1,l1⟩:=h2
  rw[h1]at e
  cases e
 | .non,.int b,x,h1,h2=>by
  rw[Has]at h1
  rw[Has]at h2
  rw[h1]at h2
  cases h2
 | .non,.bl b,x,h1,h2=>by
  rw[Has]at h1
  rw[Has]at h2
  rw[h1]at h2
  cases h2
 | .non,.str b,x,h1,h2=>by
  rw[Has]at h1
  rw[Has]at h2
  rw[h1]at h2
  cases h2
 | .non,.non,x,h1,h2=>rfl
 | .non,.lst b,x,h1,h2=>by
  rw[Has]at h1
  rw[Has]at h2
  obtain⟨p,xs,e,s1,l1⟩:=h2
  rw[h1]at e
  cases e
 | .non,.tup b,x,h1,h2=>by
  rw[Has]at h1
  rw[Has]at h2
  obtain⟨p,xs,e,s1,l1⟩:=h2
  rw[h1]at e
  cases e
 | .lst a,.int b,x,h1,h2=>by
  rw[Has]at h1
  rw[Has]at h2
  obtain⟨p,xs,rfl,s1,l1⟩:=h1
  cases h2
 | .lst a,.bl b,x,h1,h2=>by
  rw[Has]at h1
  rw[Has]at h2
  obtain⟨p,xs,rfl,s1,l1⟩:=h1
  cases h2
 | .lst a,.str b,x,h1,h2=>by
  rw[Has]at h1
  rw[Has]at h2
  obtain⟨p,xs,rfl,s1,l1⟩:=h1
  cases h2
 | .lst a,.non,x,h1,h2=>by
  rw[Has]at h1
  rw[Has]at h2
  obtain⟨p,xs,rfl,s1,l1⟩:=h1
  cases h2
 | .lst a,.lst b,x,h1,h2=>by
  rw[Has]at h1
  rw[Has]at h2
  obtain⟨p,xs,rfl,s1,l1⟩:=h1
  obtain⟨q,ys,e,s2,l2⟩:=h2
  cases e
  have e:=I.kU s1 s2
  subst e
  rw[az.inj I l1 l2]
 | .lst a,.tup b,x,h1,h2=>by
  rw[Has]at h1
  rw[Has]at h2
  obtain⟨p,xs,rfl,s1,l1⟩:=h1
  obtain⟨q,ys,e,s2,l2⟩:=h2
  cases e
  obtain⟨_,_,pl,_⟩:=I.list s1
  obtain⟨_,_,pt,_⟩:=I.tuple s2
  obtain⟨o1,g1,c1,_⟩:=pl.isList
  obtain⟨o2,g2,c2,_⟩:=pt
  rw[g1]at g2
  cases g2
  rw[c1]at c2
  exact absurd c2 (by decide)
 | .tup a,.int b,x,h1,h2=>by
  rw[Has]at h1
  rw[Has]at h2
  obtain⟨p,xs,rfl,s1,l1⟩:=h1
  cases h2
 | .tup a,.bl b,x,h1,h2=>by
  rw[Has]at h1
  rw[Has]at h2
  obtain⟨p,xs,rfl,s1,l1⟩:=h1
  cases h2
 | .tup a,.str b,x,h1,h2=>by
  rw[Has]at h1
  rw[Has]at h2
  obtain⟨p,xs,rfl,s1,l1⟩:=h1
  cases h2
 | .tup a,.non,x,h1,h2=>by
  rw[Has]at h1
  rw[Has]at h2
  obtain⟨p,xs,rfl,s1,l1⟩:=h1
  cases h2
 | .tup a,.lst b,x,h1,h2=>by
  rw[Has]at h1
  rw[Has]at h2
  obtain⟨p,xs,rfl,s1,l1⟩:=h1
  obtain⟨q,ys,e,s2,l2⟩:=h2
  cases e
  obtain⟨_,_,pl,_⟩:=I.list s2
  obtain⟨_,_,pt,_⟩:=I.tuple s1
  obtain⟨o1,g1,c1,_⟩:=pl.isList
  obtain⟨o2,g2,c2,_⟩:=pt
  rw[g1]at g2
  cases g2
  rw[c1]at c2
  exact absurd c2 (by decide)
 | .tup a,.tup b,x,h1,h2=>by
  rw[Has]at h1
  rw[Has]at h2
  obtain⟨p,xs,rfl,s1,l1⟩:=h1
  obtain⟨q,ys,e,s2,l2⟩:=h2
  cases e
  have e:=I.iX s1 s2
  subst e
  rw[az.inj I l1 l2]
theorem az.inj (I:Inv X pins σ H s):∀ {ds es:List Dt} {xs:List V},az X.K H ds xs->az X.K H es xs->ds=es
 | [],[],xs,h1,h2=>rfl
 | [],e::r,xs,h1,h2=>by
  rw[az]at h1
  rw[az]at h2
  obtain⟨y,t,e,_,_⟩:=h2
  rw[h1]at e
  cases e
 | d::r,[],xs,h1,h2=>by
  rw[az]at h1
  rw[az]at h2
  obtain⟨y,t,e,_,_⟩:=h1
  rw[h2]at e
  cases e
 | d::r,e::q,xs,h1,h2=>by
  rw[az]at h1
  rw[az]at h2
  obtain⟨x,t,rfl,g1,g2⟩:=h1
  obtain⟨y,w,z,k1,k2⟩:=h2
  cases z
  rw[Has.inj I g1 k1,az.inj I g2 k2]
end
theorem lF{A:Nw}{a b:M9}{k:Bool}(h:SV A s (.ref a) (.ref b) k)(hk:a=b->k=true):Pm A s (.ref a) (.ref b) k:=by
 by_cases e:a=b
 ·rw[hk e,e]
  exact SE _
 exact Vr e h
noncomputable def Rz(s:M_):Dt->M7->Prop
 | .int a,u=>∃ t,u=.int a t
 | .bl a,u=>u=.bool a
 | .str a,u=>∃ t,u=.str a t
 | .non,u=>u=.none
 | .lst _,u=>∃ p its,u=.ref p/\s.heap.IsList p its
 | .tup _,u=>∃ p its,u=.ref p/\s.heap.IsTuple p its
def knd:Dt->Nat
 | .lst _=>4
 | .tup _=>5
 | _=>0
theorem uy(I:Inv X pins σ H s){d:Dt}{x:V}{u:M7}(h:Has X.K H d x)(r:RelV x u):Rz s d u:=by
  cases d <;> rw[Has]at h <;> first
    | (obtain⟨p,xs,rfl,s1,_⟩:=h
       cases r
       first
         | (obtain⟨_,_,pl,_⟩:=I.list s1;exact⟨_,_,rfl,pl.isList⟩)
         | (obtain⟨_,_,pl,_⟩:=I.tuple s1;exact⟨_,_,rfl,pl⟩))
    | (subst h;exact r)
theorem uM{A:Nw}{d e:Dt}{u v:M7}(hu:A.units < cLine)(h1:Rz s d u)(h2:Rz s e v)(n:knd d≠knd e\/knd d=0):SV A s u v (eqD d e)/\UK A s u v (!eqD d e)/\Pm A s u v (eqD d e):=by
 cases d with
 | int a=>
  obtain⟨_,rfl⟩:=h1
  cases e with
  | int b=>obtain⟨_,rfl⟩:=h2;simp only[eqD];exact⟨.int_int _ _ _ _,.int_int _ _ _ _,.int_int _ _ _ _⟩
  | bl b=>cases h2;simp only[eqD];exact⟨.int_bool _ _ _,.int_bool _ _ _,.int_bool _ _ _⟩
  | str b=>obtain⟨_,rfl⟩:=h2;simp only[eqD];exact⟨.int_str _ _ _ _,.int_str _ _ _ _,.int_str _ _ _ _⟩
  | non=>cases h2;simp only[eqD];exact⟨.int_none _ _,.int_none _ _,.int_none _ _⟩
  | lst b=>obtain⟨_,_,rfl,hb⟩:=h2;simp only[eqD];exact⟨.int_list _ _ hb hu,.int_list _ _ hb hu,.int_list _ _ hb hu⟩
  | tup b=>obtain⟨_,_,rfl,hb⟩:=h2;simp only[eqD];exact⟨.int_tuple _ _ hb hu,.int_tuple _ _ hb hu,.int_tuple _ _ hb hu⟩
 | bl a=>
  cases h1
  cases e with
  | int b=>obtain⟨_,rfl⟩:=h2;simp only[eqD];exact⟨.bool_int _ _ _,.bool_int _ _ _,.bool_int _ _ _⟩
  | bl b=>cases h2;simp only[eqD];exact⟨.bool_bool _ _,.bool_bool _ _,.bool_bool _ _⟩
  | str b=>obtain⟨_,rfl⟩:=h2;simp only[eqD];exact⟨.bool_str _ _ _,.bool_str _ _ _,.bool_str _ _ _⟩
  | non=>cases h2;simp only[eqD];exact⟨.bool_none _,.bool_none _,.bool_none _⟩
  | lst b=>obtain⟨_,_,rfl,hb⟩:=h2;simp only[eqD];exact⟨.bool_list _ hb hu,.bool_list _ hb hu,.bool_list _ hb hu⟩
  | tup b=>obtain⟨_,_,rfl,hb⟩:=h2;simp only[eqD];exact⟨.bool_tuple _ hb hu,.bool_tuple _ hb hu,.bool_tuple _ hb hu⟩
 | str a=>
  obtain⟨_,rfl⟩:=h1
  cases e with
  | int b=>obtain⟨_,rfl⟩:=h2;simp only[eqD];exact⟨.str_int _ _ _ _,.str_int _ _ _ _,.str_int _ _ _ _⟩
  | bl b=>cases h2;simp only[eqD];exact⟨.str_bool _ _ _,.str_bool _ _ _,.str_bool _ _ _⟩
  | str b=>obtain⟨_,rfl⟩:=h2;simp only[eqD];exact⟨.str_str _ _ _ _,.str_str _ _ _ _,.str_str _ _ _ _⟩
  | non=>cases h2;simp only[eqD];exact⟨.str_none _ _,.str_none _ _,.str_none _ _⟩
  | lst b=>obtain⟨_,_,rfl,hb⟩:=h2;simp only[eqD];exact⟨.str_list _ _ hb hu,.str_list _ _ hb hu,.str_list _ _ hb hu⟩
  | tup b=>obtain⟨_,_,rfl,hb⟩:=h2;simp only[eqD];exact⟨.str_tuple _ _ hb hu,.str_tuple _ _ hb hu,.str_tuple _ _ hb hu⟩
 | non=>
  cases h1
  cases e with
  | int b=>obtain⟨_,rfl⟩:=h2;simp only[eqD];exact⟨.none_int _ _,.none_int _ _,.none_int _ _⟩
  | bl b=>cases h2;simp only[eqD];exact⟨.none_bool _,.none_bool _,.none_bool _⟩
  | str b=>obtain⟨_,rfl⟩:=h2;simp only[eqD];exact⟨.none_str _ _,.none_str _ _,.none_str _ _⟩
  | non=>cases h2;simp only[eqD];exact⟨.none_none,.none_none,.same _⟩
  | lst b=>obtain⟨_,_,rfl,hb⟩:=h2;simp only[eqD];exact⟨.none_list hb hu,.none_list hb hu,.none_list hb hu⟩
  | tup b=>obtain⟨_,_,rfl,hb⟩:=h2;simp only[eqD];exact⟨.none_tuple hb hu,.none_tuple hb hu,.none_tuple hb hu⟩
 | lst a=>
  obtain⟨_,_,rfl,hl⟩:=h1
  cases e with
  | int b=>obtain⟨_,rfl⟩:=h2;simp only[eqD];exact⟨.list_int _ _ hl hu,.list_int _ _ hl hu,.list_int _ _ hl hu⟩
  | bl b=>cases h2;simp only[eqD];exact⟨.list_bool _ hl hu,.list_bool _ hl hu,.list_bool _ hl hu⟩
  | str b=>obtain⟨_,rfl⟩:=h2;simp only[eqD];exact⟨.list_str _ _ hl hu,.list_str _ _ hl hu,.list_str _ _ hl hu⟩
  | non=>cases h2;simp only[eqD];exact⟨.list_none hl hu,.list_none hl hu,.list_none hl hu⟩
  | lst b=>simp[knd]at n
  | tup b=>obtain⟨_,_,rfl,hb⟩:=h2;simp only[eqD];exact⟨.list_tuple hl hb hu,.list_tuple hl hb hu,.list_tuple hl hb hu⟩
 | tup a=>
  obtain⟨_,_,rfl,hl⟩:=h1
  cases e with
  | int b=>obtain⟨_,rfl⟩:=h2;simp only[eqD];exact⟨.tuple_int _ _ hl hu,.tuple_int _ _ hl hu,.tuple_int _ _ hl hu⟩
  | bl b=>cases h2;simp only[eqD];exact⟨.tuple_bool _ hl hu,.tuple_bool _ hl hu,.tuple_bool _ hl hu⟩
  | str b=>obtain⟨_,rfl⟩:=h2;simp only[eqD];exact⟨.tuple_str _ _ hl hu,.tuple_str _ _ hl hu,.tuple_str _ _ hl hu⟩
  | non=>cases h2;simp only[eqD];exact⟨.tuple_none hl hu,.tuple_none hl hu,.tuple_none hl hu⟩
  | lst b=>obtain⟨_,_,rfl,hb⟩:=h2;simp only[eqD];exact⟨.tuple_list hl hb hu,.tuple_list hl hb hu,.tuple_list hl hb hu⟩
  | tup b=>simp[knd]at n
theorem oH(I:Inv X pins σ H s):∀(n:Nat) (A:Nw) (d e:Dt) (x y:V) (u v:M7),dpt d<=n->A.units + n < cLine->Has X.K H d x->Has X.K H e y->RelV x u->RelV y v->
  SV A s u v (eqD d e)/\UK A s u v (!eqD d e)/\Pm A s u v (eqD d e):=by
 intro n
 induction n with
 | zero=>
  intro A d e x y u v hd hA h1 h2 r1 r2
  exact uM (by lia) (uy I h1 r1) (uy I h2 r2) (.inr (by cases d <;> first | rfl | (rw[dpt]at hd;lia)))
 | succ n ih=>
  intro A d e x y u v hd hA h1 h2 r1 r2
  have hu:A.units < cLine:=by lia
  by_cases k:knd d≠knd e\/knd d=0
  ·exact uM hu (uy I h1 r1) (uy I h2 r2) k
  cases d <;> cases e <;> try (exfalso;simp[knd]at k;done)
  ·rename_i a b
   have h1k:=h1
   rw[Has]at h1
   obtain⟨p,xs,rfl,s1,l1⟩:=h1
   cases (show u=N1 p from r1)
   obtain⟨its,rv1,pl1,z1⟩:=I.list s1
   have hl:=pl1.isList
   have hd':bH a<=n:=by rw[dpt]at hd;lia
   have h2k:=h2
   rw[Has]at h2
   obtain⟨q,ys,rfl,s2,l2⟩:=h2
   cases (show v=N1 q from r2)
   obtain⟨jts,rv2,pl2,z2⟩:=I.list s2
   have hb:=pl2.isList
   have recc:=qI n (A:=A) (by lia) I l1 l2 rv1 rv2 fun d e x y u v hm hm' g1 g2 k1 k2=>(ih A.in1 d e x y u v (z_ (uz hm) hd') (by show A.units + 1 + n < cLine;lia) g1 g2 k1 k2).2.2
   have m1:=l1.len
   have m2:=l2.len
   have v1:=rv1.length
   have v2:=rv2.length
   have self:p=q->eqD (.lst a) (.lst b)=true:=fun z=>by subst z;rw[Has.inj I h1k h2k];exact gY _
   have ee:eqD (.lst a) (.lst b)=eqL a b:=by rw[eqD]
   by_cases hs:its.toArray.size=jts.toArray.size
   ·have hs':a.length=b.length:=by simp at hs;lia
    have hn:its.toArray.size=a.length:=by simp;lia
    have k1:=VE hl hb hs hu recc
    have k2:=Vs hl hb hs hu recc
    rw[hn,jk a b hs',<-ee]at k1 k2
    exact⟨k1,k2,lF k1 self⟩
   have hs':¬ a.length=b.length:=by simp at hs;lia
   have hz:(its.toArray.size != jts.toArray.size)=true:=by simpa using hs
   have ef:eqD (.lst a) (.lst b)=false:=by rw[ee];exact JN.mpr fun z=>hs' (pL z)
   have k1:=UL hl hb hz hu
   have k2:=TY hl hb hz hu
   rw[<-ef]at k1
   refine⟨k1,?_,lF k1 self⟩
   rw[ef]
   exact k2
  rename_i a b
  have h1k:=h1
  rw[Has]at h1
  obtain⟨p,xs,rfl,s1,l1⟩:=h1
  cases (show u=N1 p from r1)
  obtain⟨its,rv1,pl1,z1⟩:=I.tuple s1
  have hl:s.heap.IsTuple p its.toArray:=pl1
  have hd':bH a<=n:=by rw[dpt]at hd;lia
  have h2k:=h2
  rw[Has]at h2
  obtain⟨q,ys,rfl,s2,l2⟩:=h2
  cases (show v=N1 q from r2)
  obtain⟨jts,rv2,pl2,z2⟩:=I.tuple s2
  have hb:s.heap.IsTuple q jts.toArray:=pl2
  have recc:=qI n (A:=A) (by lia) I l1 l2 rv1 rv2 fun d e x y u v hm hm' g1 g2 k1 k2=>(ih A.in1 d e x y u v (z_ (uz hm) hd') (by show A.units + 1 + n < cLine;lia) g1 g2 k1 k2).2.2
  have m1:=l1.len
  have m2:=l2.len
  have v1:=rv1.length
  have v2:=rv2.length
  have self:p=q->eqD (.tup a) (.tup b)=true:=fun z=>by subst z;rw[Has.inj I h1k h2k];exact gY _
  have ee:eqD (.tup a) (.tup b)=eqL a b:=by rw[eqD]
  have hn:its.toArray.size=a.length:=by simp;lia
  have hn':jts.toArray.size=b.length:=by simp;lia
  have k1:=Vw hl hb hu recc
  have k2:=Vk hl hb hu recc
  rw[hn,hn',qO a b,<-ee]at k1 k2
  exact⟨k1,k2,lF k1 self⟩
end
section
variable{X:Cx}
noncomputable def HA(K:M8)(A:Nw)(neg:Bool):R2:=fun x y H Q=>∃ d e,Has K H d x/\Has K H e y/\A.units + dpt d < cLine/\Q (.bl (if neg then !eqD d e else eqD d e)) H
theorem wY:OpR X (NP .Eq) (HA X.K X.A false):=by
 intro pins s σ H x y v u Q I rx ry h
 obtain⟨d,e,h1,h2,hA,q⟩:=h
 exact(oH I (dpt d) X.A d e x y v u (d_ _) hA h1 h2 rx ry).1 _ _ _ _ ⟨.bl (eqD d e),H,I,rfl,q⟩
theorem Fl:OpR X (NP .NotEq) (HA X.K X.A true):=by
 intro pins s σ H x y v u Q I rx ry h
 obtain⟨d,e,h1,h2,hA,q⟩:=h
 exact(oH I (dpt d) X.A d e x y v u (d_ _) hA h1 h2 rx ry).2.1 _ _ _ _ ⟨.bl (!eqD d e),H,I,rfl,q⟩
end
structure Cal (P:Nl) (w:Nq) (K:M8) (mg:Str->Option M7) (base:Nr) (k:Nat) (x:Str) (ps:List Str) (sp:Sp):Prop where
 ex:∃(f:M9) (fd:NB),FnOk P w K mg base CX0 k f fd ps sp/\mg x=some (.ref f)/\PR K (.ref f)=true/\Binds K fd ps []
theorem xG{X:Cx}{j k:Nat}{x:Str}{ps:List Str}{sp:Sp}{e:Nn}{es:List Nn}{t:TA}{p pos:Pos}(D:Cal X.prog X.w X.K X.mg X.base j x ps sp)(hr:Room k X.A)(hg:Gl X x)(ha:PA X (e::es) t)(hjk:j<=k:=by omega)(hdb:(x ==("__debug__":Str))=false:=by decide)
  (he:Np (e::es) X.env=(false,NA e X.env)::Np es X.env:=by rfl) (hpl:(O1 pos (Np es X.env)).any (·.1)=false:=by rfl):PE X (.Call (.Name x p) (e::es) [] pos) (yC sp [] E0 t):=by
 obtain⟨f,fd,F,hm,hk,hb⟩:=D.ex
 exact AL F (hr.mono hjk) hg hm hk hb .nil GY ha hdb he hpl
theorem Cal.imp {P:Nl}{w:Nq}{K:M8}{mg:Str->Option M7}{base:Nr}{k:Nat}{x:Str}{ps:List Str}{sp sp':Sp}(D:Cal P w K mg base k x ps sp)(h:∀ vs H Q E,sp' vs H Q E->sp vs H Q E):Cal P w K mg base k x ps sp':=by
 obtain⟨f,fd,F,r⟩:=D.ex
 exact⟨f,fd,F.imp h,r⟩
structure Dfn (K:M8) (mg:Str->Option M7) (x:Str) (st:NN) (ps:List Str):Prop where
 ex:∃(f:M9) (fd:NB),Fun K x x st f fd/\mg x=some (.ref f)/\Binds K fd ps []
theorem Dfn.cal {P:Nl}{w:Nq}{K:M8}{mg:Str->Option M7}{base:Nr}{k:Nat}{x:Str}{st:NN}{ps:List Str}{sp:Sp}(D:Dfn K mg x st ps)(h:∀ f fd,Fun K x x st f fd->FnOk P w K mg base CX0 k f fd ps sp):Cal P w K mg base k x ps sp:=by
 obtain⟨f,fd,F,hm,hb⟩:=D.ex
 exact⟨f,fd,h f fd F,hm,F.kp,hb⟩
theorem aN.bq {H:Hp}:aN H H:=fun _ _ e=>e
theorem aN.trans' {H H1 H2:Hp}(a:aN H H1)(b:aN H1 H2):aN H H2:=fun c o e=>b c o (a c o e)
theorem aT{H:Hp}{p:M9}(h:H p=none)(o:HO):aN H (upd H p o):=fun b u q=>by rw[av (b6 q h)];exact q
theorem aN.none {H H':Hp}(a:aN H H'){p:M9}(h:H' p=none):H p=none:=by
 cases e:H p with
 | none=>rfl
 | some o=>rw[a p o e]at h;cases h
def Kp(a c:M9)(H H':Hp):Prop:=∀ b o,H b=some o->b≠a->b≠c->H' b=some o
theorem uH{n:Nat}{i:Int}(h0:0<=i)(h1:i < (n:Int)):ixN n i=some i.toNat:=by
 unfold ixN
 rw[if_pos h0,if_pos h1]
theorem C9{α:Type}{xs:List α}{i:Int}{v:α}(h0:0<=i)(hv:xs[i.toNat]?=some v):atI xs i=some v:=by
 have h1:i.toNat < xs.length:=(c_.mp hv).1
 unfold atI
 rw[uH h0 (by omega)]
 exact hv
theorem y4{ns:List Int}{i:Int}(h0:0<=i)(h1:i < (ns.length:Int)):atI (ns.map V.int) i=some (.int (ns.getD i.toNat 0)):=by
 have h2:i.toNat < ns.length:=by omega
 refine C9 h0 ?_
 rw[B',a_ h2,C_,a_ h2]
 rfl
theorem DM{K:M8}{b:Bool}{H:Hp}{p:M9}{xs:List V}{i:Int}{v:V}{Q:VK}(h:SqG b K H p xs)(hv:atI xs i=some v)(q:Q v H):rIx K (.ref p) (.int i) H Q:=by
 cases b with
 | true=>exact .inr (.inl ⟨p,xs,i,v,rfl,rfl,h,hv,q⟩)
 | false=>exact .inl ⟨p,xs,i,v,rfl,rfl,h,hv,q⟩
theorem bR{A B:Prop}{b:Bool}(hb:b=false)(h:B):if b=true then A else B:=by rw[hb];exact Hl h
theorem m9{A B:Prop}{b:Bool}(hb:b=true)(h:A):if b=true then A else B:=by rw[hb];exact DE h
theorem rg{Q:VK}{b:Bool}{H:Hp}(hb:b=true)(q:Q (.bl true) H):Q (.bl b) H:=by rw[hb];exact q
theorem Ga{A B:Prop}{b:Bool}(h1:b=true->A)(h2:b=false->B):if b=true then A else B:=by
 cases b with
 | true=>exact DE (h1 rfl)
 | false=>exact Hl (h2 rfl)
def isT:HO->Bool
 | .tup _=>true
 | .frz _ (.tup _)=>true
 | _=>false
def qi(H H':Hp):Prop:=∀ b o,H b=some o->isT o=true->H' b=some o
theorem vZ{H:Hp}{p:M9}{o o':HO}(h:H p=some o)(ht:isT o=false):qi H (upd H p o'):=fun b u e t=>by
 have n:b≠p:=fun z=>by
  subst z
  rw[h]at e
  cases e
  rw[ht]at t
  cases t
 rw[av n]
 exact e
mutual
def qM:Dt->Bool
 | .lst _=>false
 | .tup ds=>jr ds
 | _=>true
def jr:List Dt->Bool
 | []=>true
 | d::r=>qM d && jr r
end
theorem SqT.jw {K:M8}{H H':Hp}{a:M9}{xs:List V}(e:qi H H')(h:SqT K H a xs):SqT K H' a xs:=by
 rcases h with (h | ⟨o,h⟩) | h
 ·exact .inl (.inl (e _ _ h rfl))
 ·exact .inl (.inr ⟨o,e _ _ h rfl⟩)
 exact .inr h
mutual
theorem Has.jw {K:M8}{H H':Hp}(e:qi H H'):∀ {d:Dt} {v:V},qM d=true->Has K H d v->Has K H' d v
 | .int i,v,_,h=>by rw[Has]at h ⊢;exact h
 | .bl i,v,_,h=>by rw[Has]at h ⊢;exact h
 | .str i,v,_,h=>by rw[Has]at h ⊢;exact h
 | .non,v,_,h=>by rw[Has]at h ⊢;exact h
 | .lst ds,v,t,h=>by simp[qM]at t
 | .tup ds,v,t,h=>by
  rw[qM]at t
  rw[Has]at h ⊢
  obtain⟨a,xs,hv,hs,hl⟩:=h
  exact⟨a,xs,hv,SqT.jw e hs,az.jw e t hl⟩
theorem az.jw {K:M8}{H H':Hp}(e:qi H H'):∀ {ds:List Dt} {xs:List V},jr ds=true->az K H ds xs->az K H' ds xs
 | [],xs,_,h=>by rw[az]at h ⊢;exact h
 | d::r,xs,t,h=>by
  rw[jr,H_]at t
  rw[az]at h ⊢
  obtain⟨x,t',hx,h1,h2⟩:=h
  exact⟨x,t',hx,Has.jw e t.1 h1,az.jw e t.2 h2⟩
end
theorem zP{ds:List Dt}(h:∀ d∈ds,qM d=true):jr ds=true:=by
 induction ds with
 | nil=>rw[jr]
 | cons d r ih=>rw[jr,h d r_,ih fun x hx=>h x (l_ _ hx)];rfl
theorem jy{d:Nat->Dt}(keep:Nat->Bool)(i:Nat):((m_ (i + 1)).filter keep).map d=((m_ i).filter keep).map d++(if keep i=true then [d i]else []):=by
 rw[Kv,KA,A']
 cases h:keep i <;> simp[h]
theorem qT{K:M8}{J:It}{fr:List (Option Nat)}{g:M_->Hp->List M9->TG}{tt:M_->Hp->List M9->TT}{te:M_->Hp->List M9->TE}{σ:St}{H1:Hp}{Q:VK}(Ok:St->Prop)(n:Nat)(hn:n < sizeLine)(d:Nat->Dt)(keep:Nat->Bool)(hd:∀ i,qM (d i)=true)(h0:Ok (bg fr σ))
  (hgo:∀ i H',aN H1 H'->i < n->J.go i H') (hst:∀ H',aN H1 H'->J.stop n H')
  (turn:∀ s3 H3' fp i σ' H',i < n->Ok σ'->aN H1 H'->∀ x H2,J.yld i H' x H2->∀(Nx:St->Hp->Prop) (Ap:St->V->Hp->Prop),(keep i=false->∀ σ2 H4,Ok σ2->aN H' H4->Nx σ2 H4)->(keep i=true->∀ σ2 v H5,Ok σ2->aN H' H5->Has K H5 (d i) v->Ap σ2 v H5)->
   g s3 H3' fp x σ' H2 fun σ2 H3=>tt s3 H3' fp σ2 H3 fun b H4=>if b=true then te s3 H3' fp σ2 H4 (fun v H5=>Ap σ2 v H5)else Nx σ2 H4)
  (fin:∀ p acc H',H1 p=none->aN H1 H'->H' p=some (.lst acc)->az K H' (((m_ n).filter keep).map d) acc->Q (.ref p) H') :
  Cw J fr g tt te σ H1 Q:=by
 intro p hp s3 H3' fp
 have tall:∀ i,jr (((m_ i).filter keep).map d)=true:=fun i=>zP fun x hx=>by
  obtain⟨j,_,rfl⟩:=B_.mp hx
  exact hd j
 refine⟨fun i m σ' H'=>m=n - i/\i<=n/\Ok σ'/\aN H1 H'/\∃ acc,H' p=some (.lst acc)/\az K H' (((m_ i).filter keep).map d) acc,⟨n,by simp,F_ _,h0,aT hp _,[],ay,gA⟩,?_⟩
 rintro i m σ' H' ⟨rfl,hi,ok,sm,acc,hacc,hl⟩
 by_cases hlt:i < n
 ·refine .inr ⟨hgo i H' sm hlt,fun x H2 hy=>?_⟩
  refine turn s3 H3' fp i σ' H' hlt ok sm x H2 hy (fun σ2 H4=>∃ m',m' < n - i/\m'=n - (i + 1)/\i + 1<=n/\Ok σ2/\aN H1 H4/\∃ acc,H4 p=some (.lst acc)/\az K H4 (((m_ (i + 1)).filter keep).map d) acc) (fun σ2 v H5=>_) (fun hk σ2 H4 ok2 s4=>?_) (fun hk σ2 v H5 ok2 s5 hv=>?_)
  ·refine⟨n - (i + 1),by lia,rfl,hlt,ok2,sm.trans' s4,acc,s4 _ _ hacc,?_⟩
   rw[jy,hk]
   simpa using az.same s4 hl
  have h5:H5 p=some (.lst acc):=s5 _ _ hacc
  have len:acc.length<=i:=by
   have e:=hl.len
   have e2:(((m_ i).filter keep).map d).length<=i:=by
    rw[b_]
    exact z_ (Kb _ _) (by rw[y_];exact d_ _)
   lia
  have ts:qi H5 (upd H5 p (.lst (acc++[v]))):=vZ h5 rfl
  refine⟨acc,h5,by lia,n - (i + 1),by lia,rfl,hlt,ok2,fun b o e=>?_,acc++[v],ay,?_⟩
  ·rw[av (b6 e hp)]
   exact s5 b o (sm b o e)
  rw[jy,hk]
  exact az.append (az.jw ts (tall i) (az.same s5 hl)) (iV (Has.jw ts (hd i) hv) gA)
 have e:i=n:=by lia
 subst e
 exact .inl ⟨hst H' sm,fin p acc H' hp sm hacc hl⟩
theorem qb{X:Cx}{N ps:List Str}{esc:NO}(S:FnScope N ps esc)(N':List Str)(fr:List (Option Nat))(nd:N'.Nodup){elt target iter:Nn}{ifs:List Nn}{sc:NO}{pos:Pos}{wi:TI}{g:M_->Hp->List M9->TG}{tt:M_->Hp->List M9->TT}{te:M_->Hp->List M9->TE}(C:dE N esc sc N' fr=true)
  (hi:PI X target iter wi) (hg:∀ s3 H3 fp,PG (aB X N' sc s3 H3 fp) target (g s3 H3 fp)) (ht:∀ s3 H3 fp,PTs (aB X N' sc s3 H3 fp) ifs (tt s3 H3 fp)) (he:∀ s3 H3 fp,PE (aB X N' sc s3 H3 fp) elt (te s3 H3 fp))
  (hc:X.calm=true:=by rfl) (hN:X.N=N:=by rfl) (hS:X.env.scope=esc:=by rfl) (hs:∀ x,NJ iter X.env x=pure x:=by intro _;rfl):PE X (.ListComp elt [⟨target,iter,ifs,0⟩] sc pos) (rL wi fr g tt te):=
 uv N' fr hc (by rw[hN,hS];exact C) hi hg ht he hs
theorem qC{σ:St}{H:Hp}{A B:Hp->Prop}(h:A H):Ec σ H (fun b H4=>if b=true then A H4 else B H4):=by
 unfold Ec
 exact DE h
theorem gy{K:M8}{H:Hp}:∀ {bs:List Bool} {xs:List V},az K H (bs.map Dt.bl) xs->xs=bools bs
 | [],xs,h=>by
  have h:az K H [] xs:=h
  rw[az]at h;exact h
 | n::r,xs,h=>by
  have h:az K H (Dt.bl n::r.map Dt.bl) xs:=h
  rw[az]at h
  obtain⟨x,t,rfl,h1,h2⟩:=h
  rw[Has]at h1
  rw[h1,gy h2]
  rfl
def Its(K:M8)(b:Bool)(a:M9):It:=match b with
 | true=>Itt K a
 | false=>Itl K a
def iSq(K:M8)(tl:TE):TI:=fun σ H R=>tl σ H fun x H1=>∃ b a xs,x=.ref a/\SqG b K H1 a xs/\R (Its K b a) H1
theorem yI{X:Cx}{tg l:Nn}{tl:TE}(hl:PE X l tl):PI X tg l (iSq X.K tl):=by
 intro pins s σ H R I h
 refine thn (hl pins s σ H _ I h) ?_
 rintro v s1 ⟨x,H1,I1,r1,q1⟩
 obtain⟨b,a,xs,rfl,hq,q⟩:=q1
 cases r1
 cases b with
 | true=>
  obtain⟨its,rv,p,hz⟩:=I1.tuple hq
  refine Oa (show s1.heap.IsTuple a its.toArray from p) ⟨s1.heap.objs.size,[s1.heap.objs.size],_,_,H1,rfl,I1.kept (t':=s1.toks) fun b o e=>Na _ e,sj a _,⟨_,Nf _ rfl,rfl,rfl⟩,fun b hb=>?_,q⟩
  have e:b=s1.heap.objs.size:=by simpa using hb
  subst e
  exact I1.tu (d_ _) (I1.hok.fresh (d_ _))
 | false=>
  obtain⟨its,rv,p,hz⟩:=I1.list hq
  refine Of p.isList ⟨s1.heap.objs.size,[s1.heap.objs.size],_,_,H1,rfl,I1.kept (t':=s1.toks) fun b o e=>Na _ e,wu a _,⟨_,Nf _ rfl,rfl,rfl⟩,fun b hb=>?_,q⟩
  have e:b=s1.heap.objs.size:=by simpa using hb
  subst e
  exact I1.tu (d_ _) (I1.hok.fresh (d_ _))
theorem ui{K:M8}{b:Bool}{a:M9}{xs:List V}{H1 H' H2:Hp}{i:Nat}{v:V}(h1:SqG b K H1 a xs)(s:aN H1 H')(h:(Its K b a).yld i H' v H2):H2=H'/\xs[i]?=some v:=by
 cases b with
 | true=>exact⟨h.1,h.2 xs (SqG.same s h1)⟩
 | false=>exact⟨h.1,h.2 xs (SqG.same s h1)⟩
theorem wX{K:M8}{b:Bool}{a:M9}{xs:List V}{H1:Hp}(h1:SqG b K H1 a xs){n:Nat}(hx:xs.length=n):∀ i H',aN H1 H'->i < n->(Its K b a).go i H':=fun i H' s hi=>by
 cases b with
 | true=>exact⟨xs,xs[i]'(by lia),SqT.same s h1,a_ _⟩
 | false=>exact⟨xs,xs[i]'(by lia),SqL.same s h1,a_ _⟩
theorem pU{K:M8}{b:Bool}{a:M9}{xs:List V}{H1:Hp}(h1:SqG b K H1 a xs){n:Nat}(hx:xs.length=n):∀ H',aN H1 H'->(Its K b a).stop n H':=fun H' s=>by
 cases b with
 | true=>exact⟨xs,SqT.same s h1,by lia⟩
 | false=>exact⟨xs,SqL.same s h1,by lia⟩
theorem xk{K:M8}{b1 b2:Bool}{a1 a2:M9}{xs ys:List V}{H1:Hp}(h1:SqG b1 K H1 a1 xs)(h2:SqG b2 K H1 a2 ys){n:Nat}(hx:xs.length=n)(hy:ys.length=n):∀ i H',aN H1 H'->i < n->(Itz K b1 a1 b2 a2).go i H':=fun i H' s hi=>
 ⟨xs,ys,xs[i]'(by lia),ys[i]'(by lia),SqG.same s h1,SqG.same s h2,a_ _,a_ _⟩
theorem qR{K:M8}{b1 b2:Bool}{a1 a2:M9}{xs ys:List V}{H1:Hp}(h1:SqG b1 K H1 a1 xs)(h2:SqG b2 K H1 a2 ys){n:Nat}(hx:xs.length=n)(hy:ys.length=n):∀ H',aN H1 H'->(Itz K b1 a1 b2 a2).stop n H':=fun H' s=>
 ⟨xs,ys,SqG.same s h1,SqG.same s h2,.inl (by lia)⟩
theorem ue{K:M8}{b1 b2:Bool}{a1 a2:M9}{xs ys:List V}{H1 H' H2:Hp}{i:Nat}{v:V}(h1:SqG b1 K H1 a1 xs)(h2:SqG b2 K H1 a2 ys)(s:aN H1 H')(h:(Itz K b1 a1 b2 a2).yld i H' v H2) :
  ∃ p x y,v=.ref p/\aN H' H2/\H2 p=some (.tup [x,y])/\xs[i]?=some x/\ys[i]?=some y:=by
 obtain⟨p,x,y,hp,rfl,rfl,g1,g2⟩:=h
 exact⟨p,x,y,rfl,aT hp _,ay,g1 xs (SqG.same s h1),g2 ys (SqG.same s h2)⟩
def New(o:HO)(H:Hp)(Q:VK):Prop:=∀ p H',H p=none->aN H H'->H' p=some o->Q (.ref p) H'
theorem New.at {o:HO}{H:Hp}{Q:VK}(h:New o H Q){p:M9}(hp:H p=none):Q (.ref p) (upd H p o):=h p _ hp (aT hp o) ay
section
variable{X:Cx}{es:List Nn}{t:TA}{pos:Pos}
def FI(t:TA):TE:=fun σ H Q=>t σ H fun xs H1=>xs.length<=sizeLine/\New (.tup xs) H1 Q
def Gp(t:TA):TE:=fun σ H Q=>t σ H fun xs H1=>xs.length<=sizeLine/\New (.lst xs) H1 Q
theorem C2{x1}(h:PA X es t):PE X (.Tuple es x1 pos) (FI t):=by
 intro pins s σ H Q I hq
 refine wpAny_Tuple_spliced (thn (h pos pins s σ H _ I hq) fun us s1 ⟨xs,H1,I1,r,z,q⟩=>⟨by rw[<-r.length];exact z,?_⟩)
 refine⟨.ref s1.heap.objs.size,upd H1 s1.heap.objs.size (.tup xs),I1.laid (t':=s1.toks) (fun b u e=>Na _ e) (d_ _) ⟨z,us,r,⟨_,Nf _ rfl,rfl,_,rfl⟩⟩,rfl,q.at (I1.hok.fresh (d_ _))⟩
theorem AB(h:PA X es t):PE X (.List es pos) (Gp t):=by
 intro pins s σ H Q I hq
 refine RW (thn (h pos pins s σ H _ I hq) fun us s1 ⟨xs,H1,I1,r,z,q⟩=>⟨by rw[<-r.length];exact z,?_⟩)
 refine⟨.ref s1.heap.objs.size,upd H1 s1.heap.objs.size (.lst xs),I1.laid (t':=s1.toks) (fun b u e=>Na _ e) (d_ _) ⟨z,us,0,r,Nf _ rfl⟩,rfl,q.at (I1.hok.fresh (d_ _))⟩
theorem cy.imp {f:M7}{r r':List V->Hp->VK->Prop}(h:cy X f r)(k:∀ vs H Q,r' vs H Q->r vs H Q):cy X f r':=fun pins s σ H xs us Q I rv q=>h pins s σ H xs us Q I rv (k _ _ _ q)
theorem OpR.imp {f:M7->M7->Sem M7}{r r':R2}(h:OpR X f r)(k:∀ x y H Q,r' x y H Q->r x y H Q):OpR X f r':=fun pins s σ H x y v u Q I rx ry q=>h pins s σ H x y v u Q I rx ry (k _ _ _ _ q)
theorem sJ:cy X (.type "list") (fun xs H Q=>∃ b p ys,xs=[.ref p]/\SqG b X.K H p ys/\New (.lst ys) H Q):=iE.imp fun vs H Q ⟨b,p,ys,e,h,q⟩=>by
 refine⟨p,ys,e,?_,fun l hl=>q.at hl⟩
 cases b with
 | true=>exact .inr h
 | false=>exact .inl h
theorem wa:cy X (.builtin "len") (fun xs H Q=>∃ b p ys,xs=[.ref p]/\SqG b X.K H p ys/\Q (.int ys.length) H):=cD.imp fun vs H Q ⟨b,p,ys,e,h,q⟩=>by
 refine⟨p,ys,e,?_,q⟩
 cases b with
 | true=>exact .inr h
 | false=>exact .inl h
def HJ(K:M8):R2:=fun x y H Q=>∃ b p xs i v,x=.ref p/\y=.int i/\SqG b K H p xs/\atI xs i=some v/\Q v H
theorem HW:IxR X (HJ X.K):=fun value slice pins s σ H x y v u Q I rx ry ⟨b,p,xs,i,z,e1,e2,hq,ha,q⟩ hs=>by
 subst e1 e2
 exact EK value slice pins s σ H (.ref p) (.int i) v u Q I rx ry (DM hq ha q) hs
end
section
variable{X:Cx}{a b c d:Nn}{ta tb tc td:TE}{pos:Pos}
theorem zj:SlR X (fun x lo hi H Q=>∃ a xs,x=.ref a/\SqL X.K H a xs/\New (.lst (eF xs lo hi)) H Q):=fun pins s σ H x v vl vu lo hi sl Q I rx hs pl pu ⟨a,xs,e,h,q⟩=>vj pins s σ H x v vl vu lo hi sl Q I rx hs pl pu ⟨a,xs,e,h,fun p hp=>q.at hp⟩
theorem ur:SlR X (fun x lo hi H Q=>∃ a xs,x=.ref a/\SqT X.K H a xs/\¬(HT.sIx xs.length 0 lo=0/\HT.sIx xs.length xs.length hi=xs.length)/\New (.tup (eF xs lo hi)) H Q):=fun pins s σ H x v vl vu lo hi sl Q I rx hs pl pu ⟨a,xs,e,h,hw,q⟩=>Es pins s σ H x v vl vu lo hi sl Q I rx hs pl pu ⟨a,xs,e,h,hw,fun p hp=>q.at hp⟩
end
structure Put (H:Hp) (p:M9) (o:HO) (H':Hp):Prop where
 at_:H' p=some o
 else_:∀ b,b≠p->H' b=H b
theorem Put.up {H:Hp}{p:M9}{o:HO}:Put H p o (upd H p o):=⟨ay,fun b h=>av h⟩
section
variable{X:Cx}
theorem sA.imp {t t':BF}(h:sA X t)(k:∀ o i v H Q,t' o i v H Q->t o i v H Q):sA X t':=fun pins s σ H o i v ov iv u Q I r1 r2 r3 q=>h pins s σ H o i v ov iv u Q I r1 r2 r3 (k _ _ _ _ _ q)
theorem vQ:sA X (fun o i v H Q=>∃ p xs k j,o=.ref p/\i=.int k/\H p=some (.lst xs)/\ixN xs.length k=some j/\∀ H',Put H p (.lst (xs.set j v)) H'->Q H'):=set_list.imp fun o i v H Q ⟨p,xs,k,j,e1,e2,h,hj,q⟩=>⟨p,xs,k,j,e1,e2,h,hj,q _ Put.up⟩
end
section
variable{M:Pf}{A:Nw}{E:M7->M_->Prop}{s:M_}{env:Env}
theorem i4{e:Nn}{scope:NO}{pos:Pos}{newAcc first:Sem M7}{g:Pp}{gs:List Pp}{u:M7->Sem Unit}{Q:M7->M_->Prop}
  (hcl:Tx e=g::gs) (hs:∀ x,NJ g.iter env x=pure x)
  (hc:∀ x∈scope.names,x.2≠.cell) (hfr:∀ x∈scope.names,x.2=.free->∃ c,env.cells.lookup x.1=some c) (hkind:scope.kind=.function) (hnames:∀ x∈scope.names,x.2=.local->scope.names.lookup x.1=some .local)
  (h:Nb M A first (fun x s₁=>Nb M A (P6 x) (fun it s₂=>Nb M A newAcc (fun acc s₃=>
   ∀ h4,h4.Ns s₃.heap.objs.size (fun _=>none)->(∀ b o,s₃.heap.get? b=some o->h4.get? b=some o)->
    Om M A (.compStart e 0 it acc (L2.compEnv env scope s₃.heap.objs.size)) (fun r s'=>match r with
     | .ok _=>Nb M A (u acc) (fun _ s''=>∃ m,s''.heap.Ns s₃.heap.objs.size m/\∀ h',NX s₃.heap.objs.size s''.heap h'->Q .none { s'' with heap:=h' }) E s'
     | .error x=>False) { s₃ with heap:=h4 }) E s₂) E s₁) E s) :
  Nb M A (OQ e scope env pos newAcc false first (some u)) Q E s:=by
 unfold OQ
 rw[g9 hfr,hcl]
 refine M6 (Nz h (fun x s₁ h₁=>M6 (ON (M6 (Pc (hs x) (M6 (Ny (Nz h₁ (fun it s₂ h₂=>
  RM (M6 (Nz h₂ (fun acc s₃ h₃=>M6 (M' (M6 ?_))) fun _ _ h'=>h'))) fun _ _ h'=>h'))))))) fun _ _ h'=>h')
 refine RD hc (fun x hx=>nomatch hx) (fun h4 hn4 hs4=>?_) hkind
 have h₄:=h₃ h4 hn4 fun b o e=>hs4.extBut b o (q_ (Ng e)) (Na _ e)
 dsimp only
 have hv:∀ x∈(scope.names.filter fun x=>(x.2 == .local || x.2 == .cell) && x.1 !=(".0":Str)).reverse,x.2=.local->
   QI (L2.compEnv env scope s₃.heap.objs.size) x.1=some .local:=fun x hx hl=>by
  show(dJ env scope).names.lookup x.1=some .local
  rw[cL,hnames x (Jd.mp (Ke.mp hx)).1 hl]
  rfl
 have hv':∀ x∈(scope.names.filter fun x=>(x.2 == .local || x.2 == .cell) && x.1 !=(".0":Str)).reverse.drop 1++(scope.names.filter fun x=>(x.2 == .local || x.2 == .cell) && x.1 !=(".0":Str)).reverse.take 1,
   x.2=.local->QI (L2.compEnv env scope s₃.heap.objs.size) x.1=some .local:=fun x hx hl=>
  (D_.mp hx).elim (fun z=>hv x (JO z) hl) fun z=>hv x (IX z) hl
 refine Ny (M6 (OP (Ny (Tz (OF h₄ fun r s' hr=>?_)))))
 cases r with
 | ok f=>
  refine M6 (OD (M6 (Ny (Nz hr (fun _ s'' hr'=>?_) fun _ _ h'=>h'))))
  obtain⟨m,hn,hr'⟩:=hr'
  exact M6 (QV (cenv:=L2.compEnv env scope s₃.heap.objs.size) hkind _ s'' m hv' hn fun h' m' _ hs'=>M' (hr' h' hs'))
 | error x=>exact hr.elim
end
theorem uB{X:Cx}{N ps:List Str}{esc:NO}(S:FnScope N ps esc){i:Nat}{x:Str}{pos pos':Pos}(N':List Str)(fr:List (Option Nat))(nd:N'.Nodup){elt target iter:Nn}{ifs:List Nn}{sc:NO}{pos2:Pos}{wi:TI}{g:M_->Hp->List M9->TG}{tt:M_->Hp->List M9->TT}{te:M_->Hp->List M9->TE}(C:dE N esc sc N' fr=true)
  (hi:X.N[i]?=some x) (hx:Loc X.env.scope x) (hit:PI X target iter wi) (hg:∀ s3 H3 fp,PG (aB X N' sc s3 H3 fp) target (g s3 H3 fp)) (ht:∀ s3 H3 fp,PTs (aB X N' sc s3 H3 fp) ifs (tt s3 H3 fp)) (he:∀ s3 H3 fp,PE (aB X N' sc s3 H3 fp) elt (te s3 H3 fp))
  (hsw:Pa (.ListComp elt [⟨target,iter,ifs,0⟩] sc pos2) (some (.Name x pos')) pos.line X.env=pure true) (hf:X.fn x=true:=by rfl)
  (hc:X.calm=true:=by rfl) (hN:X.N=N:=by rfl) (hS:X.env.scope=esc:=by rfl) (hs:∀ x,NJ iter X.env x=pure x:=by intro _;rfl):PS X (.Assign [.Name x pos'] (.ListComp elt [⟨target,iter,ifs,0⟩] sc pos2) pos) (zl (rL wi fr g tt te) (r9 i)):=by
 have C:CompOk X.N X.env.scope sc N' fr:=nF (by rw[hN,hS];exact C)
 have hNd:X.N.Nodup:=by rw[hN];exact S.nd
 intro pins s σ H D I h
 rw[Rr _ _ _ _ hsw]
 refine M6 (ON (M6 ?_))
 show Nb _ X.A (do let _ <-OQ (.ListComp elt [⟨target,iter,ifs,0⟩] sc pos2) sc X.env _ (Va []) false (NA iter X.env) (some (Pn (.Name x pos') X.env))) _ _ s
 have hfr:∀ x∈sc.names,x.2=.free->∃ c,X.env.cells.lookup x.1=some c:=fun x hx e=>I.ok.has x.1 (.inl (C.free x hx e))
 refine M6 (Nz (i4 (g:=⟨target,iter,ifs,0⟩) (gs:=[]) (Q:=fun _ s'=>SP X pins D .next s') rfl hs C.nocell hfr C.kind C.names ?_) (fun _ s' hq=>M' (M' hq)) fun _ _ e=>e)
 refine thn (hit pins s σ H _ I h) fun v s1 h1=>thn h1 fun itv s2 h2=>?_
 obtain⟨it,fp,tn,J,H2,e,I2,T,st2,f2,k2⟩:=h2
 subst e
 refine Qb ?_ (by show 0<=sizeLine;decide)
 have hfree:H2 s2.heap.objs.size=none:=I2.hok.fresh (d_ _)
 obtain⟨W,⟨m0,w0⟩,turn⟩:=k2 _ hfree { s2 with heap:=s2.heap.push { cls:=.type "list",data:=.seq ([]:List M7).toArray } } (upd H2 s2.heap.objs.size (.lst [])) fp
 have kp:∀ b u,s2.heap.get? b=some u->(s2.heap.push { cls:=.type "list",data:=.seq ([]:List M7).toArray }).get? b=some u:=fun b u e=>Na _ e
 have I3:Inv X pins σ (upd H2 s2.heap.objs.size (.lst [])) { s2 with heap:=s2.heap.push { cls:=.type "list",data:=.seq ([]:List M7).toArray } }:=
  I2.laid (t':=s2.toks) kp (d_ _) ⟨F_ _,[],0,.nil,Nf _ rfl⟩
 have obj2:=T.obj 0 s2.heap st2
 have fpne:∀ b∈fp,b≠s2.heap.objs.size:=fun b hb=>by
  obtain⟨o,ho,_⟩:=obj2 b hb
  exact q_ (Ng ho)
 have f3:∀ b∈fp,eE X pins (upd H2 s2.heap.objs.size (.lst [])) b:=fun b hb=>⟨by rw[av (fpne b hb)];exact(f2 b hb).1,(f2 b hb).2⟩
 have st3:=T.keep 0 s2.heap _ st2 fun b hb o e=>kp b o e
 have obj3:=T.obj 0 _ st3
 intro h4 hn4 hk4
 have st4:=T.keep 0 _ h4 st3 fun b hb o e=>hk4 b o e
 have I4:=rb (N':=N') (fr:=fr) (fp:=fp) I3 C hc f3 (fun b hb=>let ⟨o,ho,_⟩:=obj3 b hb;⟨o,ho⟩) hn4 hk4
 have stat:∀ {H':Hp},(∀ b∈fp,H' b=none)->∀ b∈fp,eE (aB X N' sc { s2 with heap:=s2.heap.push { cls:=.type "list",data:=.seq ([]:List M7).toArray } } (upd H2 s2.heap.objs.size (.lst [])) fp) [] H' b:=fun hn b hb=>
  ⟨hn b hb,(I4.ok.exf b hb).1,I4.ok.exfs b hb,.inl hb,(I4.ok.exf b hb).2,fun p hp=>(nomatch hp)⟩
 have loop:Om (Ni X.prog X.w) X.A (.compLoop (.ListComp elt [⟨target,iter,ifs,0⟩] sc pos2) 0 (.ref it) (.ref s2.heap.objs.size) (L2.compEnv X.env sc (s2.heap.push { cls:=.type "list",data:=.seq ([]:List M7).toArray }).objs.size))
   (fun r s'=>match r with
    | .ok _=>Nb (Ni X.prog X.w) X.A (Pn (.Name x pos') X.env (.ref s2.heap.objs.size)) (fun _ s''=>∃ m,s''.heap.Ns (s2.heap.push { cls:=.type "list",data:=.seq ([]:List M7).toArray }).objs.size m/\∀ h',NX (s2.heap.push { cls:=.type "list",data:=.seq ([]:List M7).toArray }).objs.size s''.heap h'->SP X pins D .next { s'' with heap:=h' }) X.xe s'
    | .error x=>False) { s2 with heap:=h4 }:=by
  refine dZ (fun n s'=>∃ i σ' H',Inv (aB X N' sc { s2 with heap:=s2.heap.push { cls:=.type "list",data:=.seq ([]:List M7).toArray } } (upd H2 s2.heap.objs.size (.lst [])) fp) [] σ' H' s'/\tn i s'.heap/\(∀ b∈fp,H' b=none)/\W i n σ' H') ?_ m0
   ⟨0,_,_,I4,st4,fun b hb=>(f3 b hb).1,w0⟩
  rintro n s5 ⟨j,σ5,H5,I5,st5,fr5,w5⟩
  rcases turn j n σ5 H5 w5 with⟨stop,q⟩ | ⟨go,step⟩
  ·refine thn (T.done (aB X N' sc _ _ fp) rfl rfl rfl rfl j [] s5 σ5 H5 (fun _ _=>False) I5 (stat fr5) st5 stop) ?_
   rintro r s6 ⟨hr,I6⟩
   subst hr
   obtain⟨m6,hn6,_⟩:=id I6.loc
   have hL:H5 (s2.heap.push { cls:=.type "list",data:=.seq ([]:List M7).toArray }).objs.size=none:=I6.free
   have I7:Inv X pins σ H5 s6:=I3.zM (s':=s6) (ch:=fp) I6.os I6.base I6.hok I6.bare (fun b hb=>by
    obtain⟨_,g1,g2,g3,g4,g5⟩:=f3 b hb
    exact⟨g3,g1,g4,g5⟩)
   have Lne:(s2.heap.push { cls:=.type "list",data:=.seq ([]:List M7).toArray }).objs.size≠X.env.locals:=JE I3.lt
   have cne:∀ y c,X.env.cells.lookup y=some c->c≠(s2.heap.push { cls:=.type "list",data:=.seq ([]:List M7).toArray }).objs.size:=fun y c e=>by
    obtain⟨v',z⟩:=I3.cell y c e
    exact q_ z.lt
   refine QC (jq (v:=.ref s2.heap.objs.size) I7 hNd hi hx rfl (fun s8 I8 ⟨a8,sb8,ha8⟩=>?_) (.inl hf))
   refine⟨m6,hn6.sameBut sb8 (fun z=>ha8.elim (fun w'=>Lne (z.trans w')) fun w'=>cne _ _ w' z.symm),fun h' hs'=>⟨_,H5,?_,q⟩⟩
   refine I8.turned (it:=(s2.heap.push { cls:=.type "list",data:=.seq ([]:List M7).toArray }).objs.size) (t':=s8.toks) (fun b o hb e=>(hs'.2 b hb).trans e) hL Lne (.inr I3.sz) cne fun p hp z=>?_
   have lt:=Ng (I3.pin p hp).1
   rw[z]at lt
   exact Jc _ lt
  refine thn (T.item (aB X N' sc _ _ fp) rfl rfl rfl rfl j [] s5 σ5 H5 (fun _ _=>False) I5 (stat fr5) st5 go) ?_
  rintro r s6 ⟨u,hr,h6⟩
  subst hr
  refine thn h6 ?_
  rintro _ s7 ⟨y,H7,I7,r7,y7,st7,fr7⟩
  have I7':=I7.pinned (stat fr7) (T.obj _ _ st7)
  have again:∀ {σ8:St} {H8:Hp} {s8:M_},Inv (aB X N' sc { s2 with heap:=s2.heap.push { cls:=.type "list",data:=.seq ([]:List M7).toArray } } (upd H2 s2.heap.objs.size (.lst [])) fp) ([]++gb fp s7.heap) σ8 H8 s8->(∃ m',m' < n/\W (j + 1) m' σ8 H8)->
    ∃ m,m < n/\∃ i σ' H',Inv (aB X N' sc { s2 with heap:=s2.heap.push { cls:=.type "list",data:=.seq ([]:List M7).toArray } } (upd H2 s2.heap.objs.size (.lst [])) fp) [] σ' H' s8/\tn i s8.heap/\(∀ b∈fp,H' b=none)/\W i m σ' H':=fun{σ8 H8 s8} I8 ⟨m',hm,w8⟩=>by
   refine⟨m',hm,j + 1,σ8,H8,I8.d6,T.keep _ _ _ st7 fun b hb o e=>(I8.pin (b,o) (n_ _ (n_ _ (bu hb e)))).1,fun b hb=>?_,w8⟩
   obtain⟨o,e,d⟩:=T.obj _ _ st7 b hb
   exact(I8.pin (b,o) (n_ _ (n_ _ (bu hb e)))).2.1
  refine thn (hg _ _ fp _ s7 σ5 H7 y u _ I7' r7 (step y H7 y7)) ?_
  rintro _ s8 ⟨σ8,H8,I8,q8⟩
  refine thn (ht _ _ fp _ s8 σ8 H8 _ I8 q8) ?_
  rintro ok s9 ⟨H9,I9,q9⟩
  cases ok with
  | false=>exact again I9 q9
  | true=>
   refine thn (he _ _ fp _ s9 σ8 H9 _ I9 q9) ?_
   rintro y s10 ⟨v,H10,I10,r10,ys,hys,hl,q10⟩
   refine thn (fF _ s10 σ8 H10 (.ref s2.heap.objs.size) [v] (.ref s2.heap.objs.size) [y] (fun _ H'=>∃ m',m' < n/\W (j + 1) m' σ8 H') I10 rfl (.cons r10 .nil) ⟨_,ys,v,rfl,rfl,hys,hl,q10⟩) ?_
   rintro z s11 ⟨_,H11,I11,_,q11⟩
   exact again I11 q11
 refine P9 loop ?_
 exact T.self X.A 0 _ _ _ st4 loop
section
variable{X:Cx}
theorem MtM.imp {id:String}{r r':V->List V->Hp->VK->Prop}(h:MtM X id r)(k:∀ x xs H Q,r' x xs H Q->r x xs H Q):MtM X id r':=fun pins s σ H x xs v us Q I r1 r2 q=>h pins s σ H x xs v us Q I r1 r2 (k _ _ _ _ q)
theorem si:MtM X "list.append" (fun x vs H Q=>∃ l xs y,x=.ref l/\vs=[y]/\H l=some (.lst xs)/\xs.length < sizeLine/\∀ H',Put H l (.lst (xs++[y])) H'->Q .non H'):=fF.imp fun x vs H Q ⟨l,xs,y,e1,e2,h1,hz,q⟩=>⟨l,xs,y,e1,e2,h1,hz,q _ Put.up⟩
end
end L2
namespace ZG
open PySem
theorem yf{prog:Nl}{w:Nq}{A:Nw}(hh:A.handled=none)(b:Bool)(it l:M9)(hne:l≠it)(items:Array M7) :
  Draws prog w A it [it,l] items.size (fun i v=>items[i]?=some v) (fun i h=>Dr b h it l i/\Sq b h l items) where
 live:=fun _ _ st=>let ⟨o,ho,_⟩:=st.1.some;⟨o,ho⟩
 frame:=fun _ _ _ st hk=>⟨st.1.at fun o e=>hk it (by simp) o e,st.2.at fun o e=>hk l (by simp) o e⟩
 item:=fun i s Q E hi st hQ=>by
  refine pM st.1 st.2 (v:=items[i]) (by simp[hi]) fun h' hit' hs'=>?_
  exact hQ _ h' s.toks (by simp[hi]) ⟨hit',st.2.ext hs'.extBut hne⟩ hs'
 done:=fun s Q E st hE=>y6 hh st.1 st.2 (by simp) hE
set_option maxHeartbeats 1000000 in
theorem vD(l:M9)(items:Array M7)(n:Nat)(dct:Option M9)(sl:Array (Option M7)) :
  Meets (Oy.«enumerate.__new__» ⟨[.type "enumerate",.ref l],[]⟩) (fun _ R s=>s.heap.get? l=some { cls:=.type "tuple",dict:=dct,data:=.seq items n,slots:=sl }/\
   R (.ok (.ret (.ref (s.heap.push { cls:=.type "tuple_iterator",data:=.fields #[.ref l,.int 0 0] }).objs.size)))
    { s with heap:=(s.heap.push { cls:=.type "tuple_iterator",data:=.fields #[.ref l,.int 0 0] }).push { cls:=.type "enumerate",data:=.fields #[.none,.bool false,.ref s.heap.objs.size,Oq 0,.none,.none] } }):=
 .of_wp fun prog w A R s h=>by
  obtain⟨hp,g,d,tk,os⟩:=s;obtain⟨hl,h⟩:=h
  have hsub:=sub_enumerate
  have hL:QU (Pw ⟨hp,g,d,tk,os⟩) l items:=⟨_,hl,rfl,n,rfl⟩
  wp_walk using O3 hl
  refine wpAny_stack_any fun st=>M' ?_
  split
  ·rename_i c _ _ _ _ _
   cases (c == Ob "enumerate")
   ·wp_walk using O3 hl,Oa hL
    exact⟨_,rfl,h⟩
   wp_walk using O3 hl,Oa hL
   exact⟨_,rfl,h⟩
  wp_walk using O3 hl,Oa hL
  exact⟨_,rfl,h⟩
section
variable{prog:Nl}{w:Nq}{A:Nw}{E:M7->M_->Prop}{s:M_}
theorem tG{l:M9}{items:Array M7}{Q:M7->M_->Prop}(hL:s.heap.IsTuple l items)
  (h:∀ h',UM h' (s.heap.objs.size + 1) s.heap.objs.size 0 .none->h'.IsTupleIter s.heap.objs.size l 0->h'.objs.size=s.heap.objs.size + 2->
   (∀ b o,s.heap.get? b=some o->h'.get? b=some o)->Q (.ref (s.heap.objs.size + 1)) { s with heap:=h' }) :
  Nb (Ni prog w) A (call (.type "enumerate") [.ref l]) Q E s:=by
 obtain⟨⟨c,dct,dt,sl⟩,hl,hc,n,hd⟩:=hL
 replace hc:c=.type "tuple":=hc
 replace hd:dt=.seq items n:=hd
 subst hc hd
 refine UJ F.called_enumerate (by decide) (F.typeCall_enumerate_1 _) (F.newCall_enumerate_1 _) (fun obj=>F.args_object_init_2 obj _) F.entry_enumerate_new
  (vD l items n dct sl) ⟨hl,?_⟩
 have hz:(s.heap.push { cls:=.type "tuple_iterator",data:=.fields #[.ref l,.int 0 0] }).objs.size=s.heap.objs.size + 1:=NG ..
 show _/\_
 rw[hz]
 have he:UM ((s.heap.push { cls:=.type "tuple_iterator",data:=.fields #[.ref l,.int 0 0] }).push
   { cls:=.type "enumerate",data:=.fields #[.none,.bool false,.ref s.heap.objs.size,Oq 0,.none,.none] }) (s.heap.objs.size + 1) s.heap.objs.size 0 .none:=by
  have:=Nf (s.heap.push { cls:=.type "tuple_iterator",data:=.fields #[.ref l,.int 0 0] })
   (o:={ cls:=.type "enumerate",data:=.fields #[.none,.bool false,.ref s.heap.objs.size,Oq 0,.none,.none] }) rfl
  rw[hz]at this;exact this
 refine⟨⟨_,he,rfl⟩,h _ he ⟨_,Na _ (Nf _ rfl),rfl,rfl⟩ (by rw[NG,hz]) fun b o x=>Na _ (Na _ x)⟩
theorem tW{b:Bool}{l:M9}{items:Array M7}{Q:M7->M_->Prop}(hL:Sq b s.heap l items)
  (h:∀ h',UM h' (s.heap.objs.size + 1) s.heap.objs.size 0 .none->Dr b h' s.heap.objs.size l 0->h'.objs.size=s.heap.objs.size + 2->
   (∀ b o,s.heap.get? b=some o->h'.get? b=some o)->Q (.ref (s.heap.objs.size + 1)) { s with heap:=h' }) :
  Nb (Ni prog w) A (call (.type "enumerate") [.ref l]) Q E s:=by
 cases b with
 | true=>exact tG hL h
 | false=>exact call_enumerate_list hL h
end
end ZG
namespace L2
open PySem PySem.Spec PyProof.Rows
noncomputable def Ite(K:M8)(b:Bool)(a:M9):It:=
  ⟨fun i H=>∃ xs x,SqG b K H a xs/\xs[i]?=some x,
   fun i H v H'=>∃ p x,H p=none/\v=.ref p/\H'=upd H p (.tup [.int i,x])/\∀ xs,SqG b K H a xs->xs[i]?=some x,
   fun i H=>∃ xs,SqG b K H a xs/\xs.length=i⟩
theorem wj{P:Nl}{w:Nq}{K:M8}{es:List Nn}{x1:Nat}{tp:Pos}(b:Bool)(a e it:M9)(D:e≠it) :
  Turn P w K (.Tuple es x1 tp) (Ite K b a) [e,it] e (fun i h=>(∃ old,UM h e it i old)/\ZG.Dr b h it a i) where
 mem:=by simp
 obj:=fun i h st c hb=>by
  obtain⟨⟨old,he⟩,d⟩:=st
  have hb:c=e\/c=it:=by simpa using hb
  rcases hb with rfl | rfl
  ·exact⟨_,he,fun v z=>by cases (show Q_ _=Qr v from z)⟩
  exact d.some
 keep:=fun i h h' st k=>by
  obtain⟨⟨old,he⟩,d⟩:=st
  exact⟨⟨old,k e (by simp) _ he⟩,d.at fun o z=>k it (by simp) o z⟩
 item:=by
  intro X hP hw hK hc i pins s σ H E I hf st hg
  subst hP hw hK
  obtain⟨xs,x,q1,hx⟩:=hg
  obtain⟨its,rv,p1,z1⟩:=I.sq q1
  obtain⟨u,hu,ru⟩:=rv.get hx
  obtain⟨⟨old,he⟩,d⟩:=st
  have fe:=hf e (by simp)
  have fi:=hf it (by simp)
  have nai:=I.bU q1 fi
  have nae:=I.bU q1 fe
  have hlt:i < its.toArray.size:=by
   have:=(c_.mp hu).1
   simpa using this
  refine wpAny_pyNext_enum_itemD (ZG.yf (A:=X.A.in1) (I.ok.hd hc) b it a nai its.toArray) he ⟨d,p1⟩ hlt D (by simp[D,nae.symm]) fun y h1 tk hP hO hst hT hsz hk=>⟨_,rfl,?_⟩
  have ey:y=u:=by
   have e1:its.toArray[i]?=some u:=by simpa using hu
   rw[e1]at hP
   exact(v_ hP).symm
  subst ey
  refine wpAny_letOwnedTupleGo_enum (s:={ s with heap:=h1,toks:=tk + 1 }) hO fun h' he' hs'=>?_
  have hfresh:H s.heap.objs.size=none:=I.hok.fresh (d_ _)
  have eT:s.heap.objs.size≠e:=JE (Ng he)
  have kp:∀ c o,c ∉ [e,it]->s.heap.get? c=some o->h'.get? c=some o:=fun c o hb z=>by
   have n:c≠e/\c≠it:=by simpa using hb
   exact hs'.extBut _ _ n.1 (hk c o n.1 n.2 z)
  have hT':h'.get? s.heap.objs.size=some { cls:=.type "tuple",data:=.seq #[.int i tk,y] }:=hs'.extBut _ _ eT hT
  have notfp:∀ c o,H c=some o->c ∉ [e,it]:=fun c o z hb=>by
   have:=(hf c hb).1
   rw[z]at this;cases this
  have ne:∀ c o,s.heap.get? c=some o->c≠s.heap.objs.size:=fun c o z=>q_ (Ng z)
  have nt:∀ c o,H c=some o->c≠s.heap.objs.size:=fun c o z=>b6 z hfresh
  have I1:Inv X pins σ (upd H s.heap.objs.size (.tup [.int i,x])) { s with heap:=h',toks:=tk + 1 }:=by
   refine I.step (g':=s.gens) (d':=s.drawn) (t':=tk + 1) (ch:=[e,it]) (fun c hb=>?_) (fun c o _ _ hc z _=>kp c o hc z) (fun c o _ _ hc z _=>⟨o.slots,kp c o hc z⟩)
    (fun c o _ z n=>by rw[av (ne c o z)];exact n) (fun c o hc z=>⟨o,kp c o hc z⟩) (fun c zs z=>by rw[av (nt c _ z)];exact z) (fun c o u z=>by rw[av (nt c _ z)];exact z)
    (fun c ps z=>⟨#[],by rw[av (nt c _ z),z];simp⟩) (fun m hm=>?_) (fun c o z=>?_) I.bare
   ·obtain⟨g0,g1,g2,g3,g4,g5⟩:=hf c hb
    exact⟨g3,g1,g4,g5⟩
   ·obtain⟨o,es,ep,ho',r⟩:=hm
    exact⟨o,es,ep,kp _ o (fun hb=>(hf _ hb).2.1 rfl) ho',r⟩
   by_cases hb:c=s.heap.objs.size
   ·subst hb
    rw[ay]at z
    cases z
    exact⟨by show 2<=sizeLine;decide,[.int i tk,y],.cons ⟨tk,rfl⟩ (.cons ru .nil),_,hT',rfl,_,rfl⟩
   rw[av hb]at z
   refine(I.hok c o z).gI (fun c' w' hc' q=>kp c' w' ?_ q) (fun c' q=>by rw[av (nt c' _ q)];exact q) fun c' zs q=>by rw[av (nt c' _ q)];exact q
   rcases hc' with rfl | hc'
   ·exact notfp _ _ z
   exact notfp _ _ hc'
  refine⟨.ref s.heap.objs.size,_,I1,rfl,⟨s.heap.objs.size,x,hfresh,rfl,rfl,fun zs hq=>by rw[I.sg hq q1];exact hx⟩,?_,fun c hb=>?_⟩
  ·exact⟨⟨_,he'⟩,hst.1.ext hs'.extBut D.symm⟩
  have hb0:=(hf c hb).1
  have hb':c=e\/c=it:=by simpa using hb
  have hlt:∃ o,s.heap.get? c=some o:=by
   rcases hb' with rfl | rfl
   ·exact⟨_,he⟩
   obtain⟨o,z,_⟩:=d.some;exact⟨o,z⟩
  obtain⟨o,z⟩:=hlt
  rw[av (ne c o z)]
  exact hb0
 done:=by
  intro X hP hw hK hc i pins s σ H E I hf st hg
  subst hP hw hK
  obtain⟨xs,q1,hn⟩:=hg
  obtain⟨its,rv,p1,z1⟩:=I.sq q1
  obtain⟨⟨old,he⟩,d⟩:=st
  have fe:=hf e (by simp)
  have fi:=hf it (by simp)
  have nai:=I.bU q1 fi
  have l1:=rv.length
  have en:its.toArray.size=i:=by simp;omega
  refine wpAny_pyNext_enum_endD (ZG.yf (A:=X.A.in1) (I.ok.hd hc) b it a nai its.toArray) he (by rw[en];exact⟨d,p1⟩) fun g gk=>⟨rfl,?_⟩
  have kp:∀ c o,c ∉ [e,it]->s.heap.get? c=some o->g.get? c=some o:=fun c o hb z=>by
   have n:c≠e/\c≠it:=by simpa using hb
   exact gk c o n.2 z
  have notfp:∀ c o,H c=some o->c ∉ [e,it]:=fun c o z hb=>by
   have:=(hf c hb).1
   rw[z]at this;cases this
  refine I.step (g':=s.gens) (d':=s.drawn) (t':=s.toks) (ch:=[e,it]) (fun c hb=>?_) (fun c o _ _ hc z _=>kp c o hc z) (fun c o _ _ hc z _=>⟨o.slots,kp c o hc z⟩)
   (fun c o _ z n=>n) (fun c o hc z=>⟨o,kp c o hc z⟩) (fun c zs z=>z) (fun c o u z=>z) (fun c ps z=>⟨#[],by rw[z];simp⟩) (fun m hm=>?_) (fun c o z=>?_) I.bare
  ·obtain⟨g0,g1,g2,g3,g4,g5⟩:=hf c hb
   exact⟨g3,g1,g4,g5⟩
  ·obtain⟨o,es,ep,ho',r⟩:=hm
   exact⟨o,es,ep,kp _ o (fun hb=>(hf _ hb).2.1 rfl) ho',r⟩
  refine(I.hok c o z).gI (fun c' w' hc' q=>kp c' w' ?_ q) (fun c' q=>q) fun c' zs q=>q
  rcases hc' with rfl | hc'
  ·exact notfp _ _ z
  exact notfp _ _ hc'
 self:=fun _ _ _ _ _ st h=>by
  obtain⟨⟨old,he⟩,_⟩:=st
  exact Sd he h
def FK(K:M8)(ta:TA):TI:=fun σ H R=>ta σ H fun vs H1=>∃ b a,vs=[.ref a]/\(∃ xs,SqG b K H1 a xs)/\R (Ite K b a) H1
theorem C5{X:Cx}{es:List Nn}{x1:Nat}{tp:Pos}{a:Nn}{ta:TA}{p pos:Pos}(hg:Gl X "enumerate")(hm:X.mg "enumerate"=none)(ha:PA X [a] ta)(hs:Np [a] X.env=[(false,NA a X.env)]:=by rfl) :
  PI X (.Tuple es x1 tp) (.Call (.Name "enumerate" p) [a] [] pos) (FK X.K ta):=by
 intro pins s σ H R I h
 refine Vc (bT I hg hm boot_enumerate (OE (thn (ha pos pins s σ H _ I h) fun us s1 ⟨vs,H1,I1,r1,q1⟩=>?_) hs rfl))
 obtain⟨b,a,e,⟨xs,q1⟩,q⟩:=q1
 subst e
 cases r1 with
 | cons r rr=>
  cases rr
  cases r
  obtain⟨its,rv,p1,z1⟩:=I1.sq q1
  refine ZG.tW p1 fun g gz g1 gs gk=>Sd (s:={ s1 with heap:=g }) gz ?_
  have I2:Inv X pins σ H1 { s1 with heap:=g }:=I1.kept (t':=s1.toks) gk
  refine⟨_,_,_,_,H1,rfl,I2,wj b a _ s1.heap.objs.size (show(_:Nat)≠_ by omega),⟨⟨_,gz⟩,g1⟩,fun c hb=>?_,q⟩
  have hb':s1.heap.objs.size<=c:=by
   have z:c=s1.heap.objs.size + 1\/c=s1.heap.objs.size:=by simpa using hb
   rcases z with z | z <;> rw[z] <;>(show(_:Nat)<=_) <;> omega
  exact I1.tu hb' (I1.hok.fresh hb')
end L2
namespace ZR
open PySem
theorem ym{prog:Nl}{w:Nq}{A:Nw}{E:M7->M_->Prop}{s:M_}{it l:M9}{i:Int}{Q:Bool->M_->Prop}(h:s.heap.IsRevIter it l i)(q:Q false s):Nb (Ni prog w) A (OI (N1 it)) Q E s:=by
 have ty:s.TypeIs (N1 it) "list_reverseiterator":=h.typeIs
 unfold OI
 refine M6 (Pz ty (r:=none) rfl ?_)
 refine NW (fun c=>absurd c (by decide)) (fun _=>?_)
 refine NW (fun c=>absurd c (by decide)) (fun _=>?_)
 refine M6 (Pz ty (r:=some (Value.builtin "list_reverseiterator.__length_hint__")) rfl ?_)
 refine M6 (Pl ty (b:=true) (by rw[Qo];rfl) ?_)
 refine NW (fun c=>absurd c (by decide)) (fun _=>?_)
 refine NW (fun _=>?_) (fun c=>absurd rfl c)
 refine NW (fun c=>absurd c (by decide)) (fun _=>?_)
 exact M' q
theorem mE{prog:Nl}{w:Nq}{A:Nw}{E:M7->M_->Prop}{s:M_}{I l:M9}{items:Array M7}{Q:M7->M_->Prop}(hh:A.handled=none)(hne:l≠I)
  (h1:s.heap.IsRevIter I l ((items.size:Int) - 1)) (h2:s.heap.IsList l items) (hn:items.size<=sizeLine)
  (q:∀(h':Nr) (tk:Nat) (acc':Array M7) (c':Nat),(∀ b o,b≠I->s.heap.get? b=some o->h'.get? b=some o)->
   h'.get? s.heap.objs.size=some { cls:=.type "list",data:=.seq acc' c' }->R6 (fun i v=>items[items.size - 1 - i]?=some v) acc' items.size->Q (.ref s.heap.objs.size) { s with heap:=h',toks:=tk }) :
  Nb (Ni prog w) A (call (.type "list") [.ref I]) Q E s:=by
 have hI:I < s.heap.objs.size:=by obtain⟨o,e,_⟩:=h1;exact Ng e
 have hl:l < s.heap.objs.size:=by obtain⟨o,e,_⟩:=h2;exact Ng e
 refine callType_codes F.called_list (F.typeCall_list_1 _) F.entry_list_init (code_list_new _ (Q₁:=fun v s1=>v=.ref s.heap.objs.size/\s1={ s with heap:=s.heap.push { cls:=.type "list",data:=.seq #[] } }) ⟨rfl,rfl⟩) ?_
 rintro _ _ ⟨rfl,rfl⟩
 have hS:(s.heap.push ({ cls:=.type "list",data:=.seq #[] }:Obj)).get? s.heap.objs.size=some { cls:=.type "list",data:=.seq #[] }:=Nf _ rfl
 refine⟨⟨_,hS,rfl⟩,F.args_list_init_2 _ _,?_⟩
 have k1:(s.heap.push { cls:=.type "list",data:=.seq #[] }).IsRevIter I l ((items.size:Int) - 1):=h1.at fun o e=>Na _ e
 have k2:(s.heap.push { cls:=.type "list",data:=.seq #[] }).IsList l items:=by
  obtain⟨o,e,r⟩:=h2
  exact⟨o,Na _ e,r⟩
 unfold Oy.«list.__init__»
 refine M6 (M6 (N4 hS rfl (M' ?_)))
 refine M6 (Pb hS rfl ?_ (by simp) (by simp))
 refine M6 (OY ?_)
 have hS2:((s.heap.push ({ cls:=.type "list",data:=.seq #[] }:Obj)).update s.heap.objs.size (NZ fun _=>#[])).get? s.heap.objs.size=some (NZ (fun _=>#[]) { cls:=.type "list",data:=.seq #[] }):=by
  exact NK _ hS rfl
 have kp:∀ b o,b≠s.heap.objs.size->(s.heap.push ({ cls:=.type "list",data:=.seq #[] }:Obj)).get? b=some o->((s.heap.push ({ cls:=.type "list",data:=.seq #[] }:Obj)).update s.heap.objs.size (NZ fun _=>#[])).get? b=some o:=fun b o hb e=>by
  rw[Qj _ _ _ _ hb]
  exact e
 have k1':=k1.at fun o e=>kp I o (q_ hI) e
 have k2':((s.heap.push ({ cls:=.type "list",data:=.seq #[] }:Obj)).update s.heap.objs.size (NZ fun _=>#[])).IsList l items:=by
  obtain⟨o,e,r⟩:=k2
  exact⟨o,kp l o (q_ hl) e,r⟩
 generalize (s.heap.push ({ cls:=.type "list",data:=.seq #[] }:Obj)).update s.heap.objs.size (NZ fun _=>#[])=h2' at *
 show Nb (Ni prog w) A.in1.in1 (OJ (.ref s.heap.objs.size) (.ref I) .none) _ _ { s with heap:=h2' }
 unfold OJ
 refine M6 (QS (T:="list_reverseiterator") (Vb (s:={ s with heap:=h2' }) k1') ?_)
 refine NW (fun c=>absurd c ?_) (fun _=>?_)
 ·have e:O4 (.ref s.heap.objs.size) (.ref I)=false:=by
   unfold O4
   exact beq_eq_false_iff_ne.mpr (fun z=>q_ hI z.symm)
  rw[e]
  decide
 refine M6 (wpAny_pyIter_revIter k1' ?_)
 refine M6 (Ny (ym k1' ?_))
 refine NW (fun c=>absurd c (by decide)) (fun _=>?_)
 refine M' ⟨Ow F.plain_extend_loop _,?_⟩
 have W:=(Walks.listRev (prog:=prog) (w:=w) (A:=A.in1.in1) hh I l hne items).toS
 refine RE W hn s.heap.objs.size (fun z=>by rcases u_.mp z with z | z;exact q_ hI z.symm;exact q_ hl (C'.mp z).symm) .none items.size 0 { s with heap:=h2' } #[] _ rfl (F_ _) ⟨F_ _,by simpa using k1',k2'⟩ hS2 ⟨rfl,fun j v e=>by simp at e⟩ fun s' acc' c' m e it=>⟨rfl,?_⟩
 obtain⟨h',g',d',tk',os'⟩:=s'
 have e1:=m.gens
 have e2:=m.drawn
 have e3:=m.os
 dsimp only at e1 e2 e3
 subst e1 e2 e3
 exact q h' tk' acc' c' (fun b o hb eb=>m.heap b o (fun z=>by rcases u_.mp z with z | z;exact q_ (Ng eb) z;exact hb (C'.mp z)) (kp b o (q_ (Ng eb)) (Na _ eb))) e it
end ZR
namespace L2
open PySem PySem.Spec PyProof.Rows
section
variable{X:Cx}
theorem xO{xs:List V}{us:List M7}(h:Vals xs us):Vals xs.reverse us.reverse:=by
 have app:∀ {a:List V} {b:List M7} {c:List V} {d:List M7},Vals a b->Vals c d->Vals (a++c) (b++d):=fun{a b c d} p q=>by
  induction p with
  | nil=>exact q
  | cons r _ ih=>exact .cons r ih
 induction h with
 | nil=>exact .nil
 | cons r _ ih=>
  rw[J7,J7]
  exact app ih (.cons r .nil)
theorem t7{e:Nn}{te:TE}{p1 p2 pos1 pos2:Pos}(hc:X.calm=true)(hg1:Gl X "list")(hm1:X.mg "list"=none)(hg2:Gl X "reversed")(hm2:X.mg "reversed"=none)(he:PE X e te)
  (hs1:Np [e] X.env=[(false,NA e X.env)]:=by rfl) (hs2:Np [.Call (.Name "reversed" p2) [e] [] pos2] X.env=[(false,NA (.Call (.Name "reversed" p2) [e] [] pos2) X.env)]:=by rfl) :
  PE X (.Call (.Name "list" p1) [.Call (.Name "reversed" p2) [e] [] pos2] [] pos1) (fun σ H Q=>te σ H fun x H1=>∃ l xs,x=.ref l/\SqL X.K H1 l xs/\New (.lst xs.reverse) H1 Q):=by
 intro pins s σ H Q I h
 refine N5 (bT I hg1 hm1 boot_list (callWith_type1 ?_ (by rw[hs2];rfl) rfl))
 rw[hs2]
 refine Ox ?_
 refine N5 (bT I hg2 hm2 boot_reversed (callWith_type1 ?_ (by rw[hs1];rfl) rfl))
 rw[hs1]
 refine Ox (thn (he pins s σ H _ I h) ?_)
 rintro u s1 ⟨x,H1,I1,r1,l,xs,ex,hl,q⟩
 subst ex
 cases r1
 obtain⟨its,rv,pl,hz⟩:=I1.list hl
 refine M' ?_
 refine call_reversed_list pl.isList ?_
 have hlen:=rv.length
 have hlt:l < s1.heap.objs.size:=by obtain⟨o,n,e,_⟩:=pl;exact Ng e
 refine M' ?_
 have I2:Inv X pins σ H1 { s1 with heap:=s1.heap.push (revObj l ((its.toArray.size:Int) - 1)) }:=I1.kept (t':=s1.toks) fun b o e=>Na _ e
 obtain⟨f0,f1,f2,f3,f4,f5⟩:=I1.tu (b:=s1.heap.objs.size) (d_ _) (I1.hok.fresh (d_ _))
 refine ZR.mE (items:=its.toArray) (l:=l) (I2.ok.hd hc) (q_ hlt) ⟨_,Nf _ rfl,rfl,rfl⟩ ?_ (by simp only[p_];lia) fun h' tk acc c kp ea it=>?_
 ·obtain⟨o,e,r⟩:=pl.isList
  exact⟨o,Na _ e,r⟩
 have hacc:acc.toList=its.reverse:=by
  refine Ms fun j=>?_
  rw[fk]
  by_cases hj:j < its.length
  ·have hja:j < acc.size:=by rw[it.1,p_];exact hj
   have ha:acc[j]?=some acc[j]:=g_ hja
   have:=it.2 j _ ha
   rw[ha,List.getElem?_reverse hj,<-this]
   simp
  rw[JD (by rw[it.1,p_];lia),Kc (by rw[Jp];lia)]
 have ea2:acc=its.reverse.toArray:=by rw[<-hacc]
 have hfr:H1 (s1.heap.objs.size + 1)=none:=I1.hok.fresh (JS _)
 have esz:(s1.heap.push (revObj l ((its.toArray.size:Int) - 1))).objs.size=s1.heap.objs.size + 1:=by simp[Vt]
 dsimp only at ea ⊢
 rw[esz]at ea ⊢
 rw[ea2]at ea
 refine⟨.ref (s1.heap.objs.size + 1),_,I1.laid (t':=tk) (h':=h') (fun b o e=>kp b o (q_ (Ng e)) (Na _ e)) (JS _) (show bj X.prog X.w _ h' _ (.lst xs.reverse)from⟨by rw[Jp];exact hz,its.reverse,c,xO rv,ea⟩),rfl,q _ _ hfr (aT hfr _) ay⟩
def Idn(lo:Int)(n:Nat):It:=⟨fun i _=>i < n,fun i H x H'=>H'=H/\x=.int (lo - i),fun i _=>n<=i⟩
theorem vT{P:Nl}{w:Nq}{K:M8}{tg:Nn}(it:M9)(lo:Int)(n:Nat):Turn P w K tg (Idn lo n) [it] it (fun i h=>Q9 h it (lo + (i:Nat) * (-1)) ((n:Int) - (i:Nat)) (-1)) where
 mem:=by simp
 obj:=fun i h st b hb=>by
  have e:b=it:=by simpa using hb
  subst e
  refine⟨_,st,fun v z=>?_⟩
  cases (show Q_ _=Qr v from z)
 keep:=fun i h h' st k=>k it (by simp) _ st
 item:=by
  intro Y hP hw hK hc i pins s σ H E I hf st hg
  subst hP hw hK
  obtain⟨f0,f1,f2,f3,f4,f5⟩:=hf it (by simp)
  have WW:=U2 (prog:=Y.prog) (w:=Y.w) (I.ok.hd hc) it lo (-1) n
  refine WW.item i s _ _ hg st fun v h' tk hv st' kk=>?_
  obtain⟨t,rfl⟩:=hv
  have J1:Inv Y pins σ H { s with heap:=h',toks:=tk }:=I.turned (fun b o hb e=>kk b o (by simpa using hb) e) f0 f1 f3 f4 f5
  refine⟨_,rfl,uC (s:={ s with heap:=h',toks:=tk }) (n:="range_iterator") st' rfl rfl (by decide) ⟨.int (lo - i),H,J1,⟨t,?_⟩,⟨rfl,rfl⟩,st',fun b hb=>(hf b hb).1⟩⟩
  rw[show lo + (i:Int) * (-1)=lo - i by lia]
 done:=by
  intro Y hP hw hK hc i pins s σ H E I hf st hg
  subst hP hw hK
  obtain⟨f0,f1,f2,f3,f4,f5⟩:=hf it (by simp)
  exact Ra (I.ok.hd hc) st (by have hh:n<=i:=hg;lia) fun h' eb=>⟨rfl,I.turned (t':=s.toks) (fun b o hb e=>eb b o hb e) f0 f1 f3 f4 f5⟩
 self:=fun _ _ _ _ _ st h=>Rb st h
theorem nj{lo hi:Int}:O_ lo hi (-1)=(((lo - hi).toNat:Nat):Int):=by
 unfold O_
 rw[if_neg (by decide)]
 split
 ·rw[show - (-1:Int)=1 from rfl,MT];lia
 lia
theorem sS{lo hi:Int}(h1:-(2 ^ 60)<=lo)(h2:lo < 2 ^ 60)(h3:-(2 ^ 60)<=hi)(h4:hi < 2 ^ 60):RQ lo hi (-1)=true:=by
 unfold RQ
 rw[nj,if_neg (by decide)]
 unfold TB
 simp only[H_,JX,decide_eq_true_eq]
 refine⟨⟨⟨⟨⟨?_,?_⟩,?_,?_⟩,by decide,by decide⟩,?_,?_⟩,.inr ⟨?_,?_⟩⟩ <;> lia
theorem BA{pins:List (M9 × Obj)}{σ:St}{H:Hp}{s:M_}{tg:Nn}{R:It->Hp->Prop}{E:M7->M_->Prop}{lo hi:Int}{t u v:Tok}{tk:Nat}(I:Inv X pins σ H s)(h1:-(2 ^ 60)<=lo)(h2:lo < 2 ^ 60)(h3:-(2 ^ 60)<=hi)(h4:hi < 2 ^ 60)
  (q:R (Idn lo (lo - hi).toNat) H):Nb (Ni X.prog X.w) X.A (P6 (.ref s.heap.objs.size)) (PIE X pins σ tg R) E { s with heap:=s.heap.push { cls:=.type "range",data:=.fields #[.int lo t,.int hi u,.int (-1) v] },toks:=tk }:=by
 refine RV (Si ..) (sS h1 h2 h3 h4) ?_
 obtain⟨hp,ehp⟩:∃ hp,hp=s.heap.push { cls:=.type "range",data:=.fields #[.int lo t,.int hi u,.int (-1) v] }:=⟨_,rfl⟩
 have J1:Inv X pins σ H { s with heap:=hp,toks:=tk }:=by rw[ehp];exact I.kept fun b o e=>Na _ e
 dsimp only
 rw[<-ehp]
 refine⟨hp.objs.size,[hp.objs.size],_,_,H,rfl,J1.kept (t':=tk) fun b o e=>Na _ e,vT _ lo (lo - hi).toNat,?_,fun b hb=>?_,q⟩
 ·have e1:lo + ((0:Nat):Int) * (-1)=lo:=by simp
  have e2:(((lo - hi).toNat:Nat):Int) - ((0:Nat):Int)=O_ lo hi (-1):=by rw[nj];lia
  show Q9 _ _ (lo + ((0:Nat):Int) * (-1)) ((((lo - hi).toNat:Nat):Int) - ((0:Nat):Int)) (-1)
  rw[e1,e2]
  exact Nf _ rfl
 have e:b=hp.objs.size:=by simpa using hb
 subst e
 exact J1.tu (d_ _) (J1.hok.fresh (d_ _))
noncomputable def Hh(ta:TA):TI:=fun σ H R=>ta σ H fun vs H1=>∃ i j:Int,vs=[.int i,.int j,.int (-1)]/\(-(2 ^ 60)<=i/\i < 2 ^ 60/\-(2 ^ 60)<=j/\j < 2 ^ 60)/\R (Idn i (i - j).toNat) H1
theorem wL{tg a b c:Nn}{ta:TA}{p pos:Pos}(hg:Gl X "range")(hm:X.mg "range"=none)(ha:PA X [a,b,c] ta)(hs:Np [a,b,c] X.env=[(false,NA a X.env),(false,NA b X.env),(false,NA c X.env)]:=by rfl)(hs2:Np [b,c] X.env=[(false,NA b X.env),(false,NA c X.env)]:=by rfl) :
  PI X tg (.Call (.Name "range" p) [a,b,c] [] pos) (Hh ta):=by
 intro pins s σ H R I h
 refine Vc (bT I hg hm SK (callWith_type1 (thn (ha pos pins s σ H _ I h) fun us s1 ⟨vs,H1,I1,r1,q1⟩=>?_) (by rw[hs,hs2]) (by rw[hs2];rfl)))
 obtain⟨i,j,e,⟨q1,q2,q3,q4⟩,q⟩:=q1
 subst e
 cases r1 with
 | cons r rr=>
  cases rr with
  | cons r' rr=>
   cases rr with
   | cons r'' rr=>
    cases rr
    obtain⟨t,rfl⟩:=r
    obtain⟨t',rfl⟩:=r'
    obtain⟨t'',rfl⟩:=r''
    refine call_range_3 (by decide) ?_ (.inl ?_)
    ·exact BA I1 q1 q2 q3 q4 q
    unfold Builtin.divisionGoesByPylong
    rfl
theorem vx{K:M8}{H:Hp}:∀ {ds:List Dt} {xs:List V} {us:List M7},az K H ds xs->Vals xs us->∀ p∈us.zip ds,∃ x,RelV x p.1/\Has K H p.2 x
 | [],_,_,_,_=>fun p hp=>by simp at hp
 | d::ds,_,_,h,v=>fun p hp=>by
  rw[az]at h
  obtain⟨x,t,rfl,h1,h2⟩:=h
  cases v with
  | cons r v'=>
   rw[JG]at hp
   rcases u_.mp hp with rfl | hp
   ·exact⟨x,r,h1⟩
   exact vx h2 v' p hp
theorem sF{pins:List (M9 × Obj)}{σ:St}{H:Hp}{s:M_}(I:Inv X pins σ H s){A:Nw}{n:Nat}(hA:A.units + n < cLine){d:Dt}{x:V}{v:M7}(hd:Has X.K H d x)(rx:RelV x v) :
  ∀ {ds:List Dt} {xs:List V} {us:List M7},bH ds<=n->az X.K H ds xs->Vals xs us->∃ e:M7->Bool,(∀ u∈us,Pm A s u v (e u))/\(∀ p∈us.zip ds,e p.1=eqD p.2 d)/\us.any e=ds.any fun d'=>eqD d' d
 | [],_,_,_,h,r=>by
  rw[az]at h
  subst h
  cases r
  exact⟨fun _=>false,fun u hu=>(by cases hu),fun p hp=>(by simp at hp),rfl⟩
 | d'::ds,_,_,hn,h,r=>by
  rw[az]at h
  obtain⟨x',t,rfl,h1,h2⟩:=h
  rw[bH]at hn
  cases r with
  | @cons _ u' _ us r1 r2=>
   obtain⟨e0,a1,a2,a3⟩:=sF I hA hd rx (by lia) h2 r2
   have q1:Pm A s u' v (eqD d' d):=(oH I n A d' d x' x u' v (by lia) hA h1 hd r1 rx).2.2
   have same:∀ p∈us.zip ds,p.1=u'->p.2=d':=fun p hp z=>by
    obtain⟨y,ry,hy⟩:=vx h2 r2 p hp
    rw[z]at ry
    have:=RelV.inj ry r1
    subst this
    exact Has.inj I hy h1
   have ev:∀ p∈us.zip ds,(if p.1=u' then eqD d' d else e0 p.1)=eqD p.2 d:=fun p hp=>by
    split
    ·rename_i z
     rw[same p hp z]
    exact a2 p hp
   have len:us.length=ds.length:=by
    have m1:=h2.len
    have m2:=r2.length
    lia
   have DR:∀(f:M7->Bool) (us:List M7) (ds:List Dt),us.length=ds.length->(∀ p∈us.zip ds,f p.1=eqD p.2 d)->us.any f=ds.any fun d'=>eqD d' d:=fun f us=>by
    induction us with
    | nil=>intro ds z _;cases ds with
     | nil=>rfl
     | cons _ _=>cases z
    | cons u us ih=>intro ds z h;cases ds with
     | nil=>cases z
     | cons c cs=>
      rw[JB,JB,ih cs (JT z) fun p hp=>h p (by rw[JG];exact l_ _ hp),h (u,c) (by rw[JG];exact r_ ..)]
   refine⟨fun y=>if y=u' then eqD d' d else e0 y,fun u hu=>?_,fun p hp=>?_,?_⟩
   ·show Pm A s u v (if u=u' then eqD d' d else e0 u)
    split
    ·rename_i z
     rw[z]
     exact q1
    rename_i z
    rcases u_.mp hu with rfl | hu
    ·exact absurd rfl z
    exact a1 u hu
   ·rw[JG]at hp
    rcases u_.mp hp with rfl | hp
    ·exact if_pos rfl
    exact ev p hp
   rw[JB,JB,DR _ us ds len ev,if_pos rfl]
noncomputable def Im(K:M8)(A:Nw)(neg:Bool):R2:=fun x y H Q=>∃ p xs d ds,y=.ref p/\SqL K H p xs/\Has K H d x/\az K H ds xs/\A.in1.units + bH ds < cLine/\Q (.bl (if neg then !(ds.any fun e=>eqD e d)else ds.any fun e=>eqD e d)) H
theorem DH:OpR X (NP .In) (Im X.K X.A false):=by
 intro pins s σ H x y v u Q I rx ry h
 obtain⟨p,xs,d,ds,rfl,hq,hd,hl,hA,q⟩:=h
 cases ry
 obtain⟨its,r,pl,hz⟩:=I.list hq
 obtain⟨e,e1,_,e3⟩:=sF I (A:=X.A.in1) hA hd rx (d_ _) hl r
 refine SeqAt.in_listAt e pl.isList (fun w hw=>e1 w (by simpa using hw)) ⟨.bl _,H,I,rfl,?_⟩
 rw[show its.toArray.any e=its.any e by simp,e3]
 exact q
end
end L2
namespace ZM
open PySem
section
variable{prog:Nl}{w:Nq}{A:Nw}{E:M7->M_->Prop}{s:M_}
noncomputable def lx:List Int->List Int->Bool
 | [],[]=>false
 | [],_::_=>true
 | _::_,[]=>false
 | a::x,b::y=>if a=b then lx x y else decide (a < b)
end
section
variable{prog:Nl}{w:Nq}{A:Nw}{E:M7->M_->Prop}{s:M_}
def IntsAre:List M7->List Int->Prop
 | [],[]=>True
 | v::l,n::r=>(∃ t,v=.int n t)/\IntsAre l r
 | _,_=>False
theorem DN:∀ {l:List M7} {n:List Int},IntsAre l n->l.length=n.length:=by
 intro l
 induction l with
 | nil=>
  intro n h
  cases n with
  | nil=>rfl
  | cons a n=>exact h.elim
 | cons v l ih=>
  intro n h
  cases n with
  | nil=>exact h.elim
  | cons a n=>rw[o_,o_,ih h.2]
end
theorem AY{bt:Nat->Nat->Bool}(tr:∀ i j k,bt i j=true->bt j k=true->bt i k=true)(ir:∀ i,bt i i=false):∀ n,Oo bt n<=n/\∀ j,j<=n->bt j (Oo bt n)=false:=by
 intro n
 induction n with
 | zero=>exact⟨d_ _,fun j hj=>by rw[Nat.le_zero.mp hj];exact ir _⟩
 | succ n ih=>
  cases hb:bt (n + 1) (Oo bt n)with
  | true=>
   have e:Oo bt (n + 1)=n + 1:=by rw[Oo,hb];rfl
   rw[e]
   refine⟨d_ _,fun j hj=>?_⟩
   rcases MV n j with h | h
   ·rw[show j=n + 1 by omega];exact ir _
   ·rw[JN]
    intro z
    have:=tr _ _ _ z hb
    rw[ih.2 j h]at this
    cases this
  | false=>
   have e:Oo bt (n + 1)=Oo bt n:=by rw[Oo,hb];rfl
   rw[e]
   refine⟨Mt ih.1,fun j hj=>?_⟩
   rcases MV n j with h | h
   ·rw[show j=n + 1 by omega];exact hb
   exact ih.2 j h
end ZM
namespace L2
open PySem PySem.Spec PyProof.Rows
section
variable{X:Cx}
theorem pg:∀ {ns:List Int} {us:List M7},Vals (ns.map V.int) us->ZM.IntsAre us ns:=by
 intro ns
 induction ns with
 | nil=>intro us h;cases h;exact trivial
 | cons n ns ih=>
  intro us h
  cases h with
  | cons r t=>exact⟨r,ih t⟩
end
end L2
namespace ZS
open PySem PyProof.Rows
def gal:Bool->Keyed->Array Keyed->Nat->Nat->Nat->StateT SortSt Sem (Option Nat):=sortPriv% PySem.Builtin.gallop
def mLo:Array Keyed->Array Keyed->StateT SortSt Sem (Array Keyed):=sortPriv% PySem.Builtin.mergeLo
def mHi:Array Keyed->Array Keyed->StateT SortSt Sem (Array Keyed):=sortPriv% PySem.Builtin.mergeHi
noncomputable def bey(lf:Bool)(ky:Nc)(ar:Array Nc)(b0 i:Nat):StateT Nj Sem (Option Bool):=do
 let xx <-NT ar (b0 + i)
 if lf then lt' xx ky else return (<-lt' ky xx).map (!·)
noncomputable def eN(lf:Bool)(ky:Nc)(ar:Array Nc)(b0 n l0 h0:Nat):StateT Nj Sem (Option Nat):=do
 let mut l:=l0
 let mut h:=h0
 for _ in [0:n]do
  if l>=h then break
  let m:=l + (h - l) / 2
  let some mo <-bey lf ky ar b0 m | return none
  if mo then l:=m + 1 else h:=m
 return some h
noncomputable def CF(lf:Bool)(ky:Nc)(ar:Array Nc)(b0 n h0:Nat):StateT Nj Sem (Option Nat):=do
 let mut la:=0
 let mut of:=1
 for _ in [0:n]do
  if of>=n - h0 then break
  let some mo <-bey lf ky ar b0 (h0 + of) | return none
  if !mo then break
  la:=of
  of:=2 * of + 1
 eN lf ky ar b0 n (h0 + la + 1) (h0 + min of (n - h0))
noncomputable def v7(lf:Bool)(ky:Nc)(ar:Array Nc)(b0 n h0:Nat):StateT Nj Sem (Option Nat):=do
 let mut la:=0
 let mut of:=1
 for _ in [0:n]do
  if of>=h0 + 1 then break
  let some fo <-bey lf ky ar b0 (h0 - of) | return none
  if fo then break
  la:=of
  of:=2 * of + 1
 eN lf ky ar b0 n (h0 + 1 - min of (h0 + 1)) (h0 - la)
theorem Fn(lf:Bool)(ky:Nc)(ar:Array Nc)(b0 n h0:Nat):gal lf ky ar b0 n h0=(do
 let some rt <-bey lf ky ar b0 h0 | return none
 if rt then CF lf ky ar b0 n h0 else v7 lf ky ar b0 n h0):=rfl
section
variable{M:Pf}{A:Nw}{E:M7->M_->Prop}{s:M_}
theorem Fj{lf:Bool}{ky:Nc}{ar:Array Nc}{b0 n h0:Nat}{st:Nj}{Q:Option Nat->Nj->Prop}{bd:Nat->Bool}(hh:h0 < n)(hb:∀(i:Nat) (R:Option Bool->Nj->Prop),i < n->R (some (bd i)) st->wpS M A E s (bey lf ky ar b0 i) R st)
  (mono:∀ i j,i<=j->j < n->bd j=true->bd i=true) (h:∀ k,k<=n->(∀ i,i < k->bd i=true)->(∀ i,k<=i->i < n->bd i=false)->Q (some k) st):wpS M A E s (gal lf ky ar b0 n h0) Q st:=by
 rw[Fn]
 have last:∀(l hi:Nat),l<=hi->hi<=n->(∀ i,i < l->bd i=true)->(∀ i,hi<=i->i < n->bd i=false)->wpS M A E s (eN lf ky ar b0 n l hi) Q st:=fun l hi h1 h2 h3 h4=>by
  unfold eN
  dsimp only
  refine Nh (NS (I:=fun x c st'=>st'=st/\∃ l hi,c=(none,l,hi)/\l<=hi/\hi<=n/\hi - l<=n - x/\(∀ i,i < l->bd i=true)/\(∀ i,hi<=i->i < n->bd i=false)) ?_ ?_ ⟨rfl,l,hi,rfl,h1,h2,by lia,h3,h4⟩)
  ·rintro x c st' _ hx ⟨rfl,l,hi,rfl,g1,g2,g3,g4,g5⟩
   dsimp only
   by_cases z:l>=hi
   ·rw[if_pos z]
    have e:l=hi:=by lia
    subst e
    exact Nm (Nm (h l g2 g4 g5))
   rw[if_neg z]
   have m1:l<=l + (hi - l) / 2:=LJ ..
   have m2:l + (hi - l) / 2 < hi:=by omega
   generalize l + (hi - l) / 2=m at m1 m2 ⊢
   have m3:=x_ m2 g2
   refine Nh (hb _ _ m3 ?_)
   dsimp only
   cases e:bd m with
   | true=>
    simp only[if_true]
    exact Nm ⟨rfl,_,_,rfl,m2,g2,by lia,fun i hi'=>mono i _ (KQ hi') m3 e,g5⟩
   | false=>
    simp only[Jf,if_false]
    refine Nm ⟨rfl,_,_,rfl,m1,IJ m3,by lia,g4,fun i h1 h2=>?_⟩
    cases e2:bd i with
    | false=>rfl
    | true=>rw[mono _ i h1 h2 e2]at e;cases e
  rintro c st' ⟨rfl,l,hi,rfl,g1,g2,g3,g4,g5⟩
  have e:l=hi:=by lia
  subst e
  exact Nm (h l g2 g4 g5)
 have up:∀ la of,la < of->h0 + la < n->bd (h0 + la)=true->(n - h0<=of\/bd (h0 + of)=false)->wpS M A E s (eN lf ky ar b0 n (h0 + la + 1) (h0 + min of (n - h0))) Q st:=fun la of g1 g3 g4 g5=>by
  have k1:h0 + min of (n - h0)<=n:=by lia
  refine last _ _ (by lia) k1 (fun i hi=>mono i _ (KQ hi) g3 g4) (fun i h1 h2=>?_)
  rcases g5 with g5 | g5
  ·rw[LK g5]at h1
   lia
  cases e2:bd i with
  | false=>rfl
  | true=>rw[mono (h0 + of) i (by lia) h2 e2]at g5;cases g5
 have dwn:∀ la of,la < of->la<=h0->bd (h0 - la)=false->(h0 + 1<=of\/of<=h0/\bd (h0 - of)=true)->wpS M A E s (eN lf ky ar b0 n (h0 + 1 - min of (h0 + 1)) (h0 - la)) Q st:=fun la of g1 g3 g4 g5=>by
  refine last _ _ (by omega) (z_ (Jx ..) (IJ hh)) (fun i hi=>?_) (fun i h1 h2=>?_)
  ·rcases g5 with g5 | ⟨g5,g6⟩
   ·rw[LK g5,KC]at hi
    exact absurd hi (La _)
   rw[L0 (Mt g5)]at hi
   exact mono i _ (by lia) (Je (Jx ..) hh) g6
  cases e2:bd i with
  | false=>rfl
  | true=>rw[mono (h0 - la) i h1 h2 e2]at g4;cases g4
 refine Nh (hb _ _ hh ?_)
 dsimp only
 cases e0:bd h0 with
 | true=>
  simp only[if_true]
  unfold CF
  dsimp only
  refine Nh (NS (I:=fun x c st'=>st'=st/\∃ la of,c=(none,la,of)/\la < of/\x + 1<=of/\h0 + la < n/\bd (h0 + la)=true) ?_ ?_ ⟨rfl,0,1,rfl,J3,d_ _,hh,e0⟩)
  ·rintro x c st' _ hx ⟨rfl,la,of,rfl,g1,g2,g3,g4⟩
   dsimp only
   by_cases z:of>=n - h0
   ·rw[if_pos z]
    exact Nm (up la of g1 g3 g4 (.inl z))
   rw[if_neg z]
   refine Nh (hb _ _ (by lia) ?_)
   dsimp only
   cases e:bd (h0 + of)with
   | false=>
    simp only[L9,if_true]
    exact Nm (up la of g1 g3 g4 (.inr e))
   | true=>
    simp only[Mf,Jf,if_false]
    exact Nm ⟨rfl,_,_,rfl,by lia,by lia,by lia,e⟩
  ·rintro c st' ⟨rfl,la,of,rfl,g1,g2,g3,g4⟩
   exact up la of g1 g3 g4 (.inl (by lia))
 | false=>
  simp only[Jf,if_false]
  unfold v7
  dsimp only
  refine Nh (NS (I:=fun x c st'=>st'=st/\∃ la of,c=(none,la,of)/\la < of/\x + 1<=of/\la<=h0/\bd (h0 - la)=false) ?_ ?_ ⟨rfl,0,1,rfl,J3,d_ _,F_ _,e0⟩)
  ·rintro x c st' _ hx ⟨rfl,la,of,rfl,g1,g2,g3,g4⟩
   dsimp only
   by_cases z:of>=h0 + 1
   ·rw[if_pos z]
    exact Nm (dwn la of g1 g3 g4 (.inl z))
   rw[if_neg z]
   have z:=Nat.lt_succ_iff.mp (LL z)
   refine Nh (hb _ _ (Je (Jx ..) hh) ?_)
   dsimp only
   cases e:bd (h0 - of)with
   | true=>
    simp only[if_true]
    exact Nm (dwn la of g1 g3 g4 (.inr ⟨z,e⟩))
   | false=>
    simp only[Jf,if_false]
    exact Nm ⟨rfl,_,_,rfl,by lia,by lia,z,e⟩
  rintro c st' ⟨rfl,la,of,rfl,g1,g2,g3,g4⟩
  exact dwn la of g1 g3 g4 (.inl (by lia))
end
def setG(g:Nat):StateT Nj Sem Unit:=modify fun s=>OX (kindOf s) (Nd s) (Nt s) g (NU s)
def dn(a b out:Array Nc)(i j:Nat):Array Nc:=out++a.extract i a.size++b.extract j b.size
def fJ(a b out:Array Nc)(i j:Nat):Array Nc:=out++b.extract j b.size++a.extract i a.size
theorem EO(a b:Array Nc):mLo a b=(do
 rule "list.sort.merge-lo"
 let mut out:Array Nc:=#[<-NT b 0]
 let mut i:=0
 let mut j:=1
 if j == b.size then return dn a b out i j
 if i + 1 == a.size then return fJ a b out i j
 let mut mg:=QW (<-get)
 for _ in [0:a.size + b.size]do
  let mut ca:=0
  let mut cb:=0
  for _ in [0:a.size + b.size]do
   let some bw <-lt' (<-NT b j) (<-NT a i) | return dn a b out i j
   if bw then
    out:=out.push (<-NT b j);j:=j + 1;cb:=cb + 1;ca:=0
    if j == b.size then return dn a b out i j
    if cb>=mg then break
   else
    out:=out.push (<-NT a i);i:=i + 1;ca:=ca + 1;cb:=0
    if i + 1 == a.size then return fJ a b out i j
    if ca>=mg then break
  rule "list.sort.gallop"
  mg:=mg + 1
  for _ in [0:a.size + b.size]do
   if mg > 1 then mg:=mg - 1
   setG mg
   let some k <-gal false (<-NT b j) a i (a.size - i) 0 | return dn a b out i j
   ca:=k
   if k > 0 then
    out:=out++a.extract i (i + k);i:=i + k
    if i + 1 == a.size then return fJ a b out i j
    if i == a.size then return dn a b out i j
   out:=out.push (<-NT b j);j:=j + 1
   if j == b.size then return dn a b out i j
   let some k <-gal true (<-NT a i) b j (b.size - j) 0 | return dn a b out i j
   cb:=k
   if k > 0 then
    out:=out++b.extract j (j + k);j:=j + k
    if j == b.size then return dn a b out i j
   out:=out.push (<-NT a i);i:=i + 1
   if i + 1 == a.size then return fJ a b out i j
   if ca < 7 && cb < 7 then break
  mg:=mg + 1
  setG mg
 unsupported "internal:list.sort.merge-bound"):=rfl
abbrev GS:=Option (Array Nc) × Array Nc × Nat × Nat × Nat × Nat × Nat
abbrev FS:=Option (Array Nc) × Array Nc × Nat × Nat × Nat × Nat
abbrev OS:=Option (Array Nc) × Array Nc × Nat × Nat × Nat
noncomputable def g3(a b out:Array Nc)(i j mg ca cb:Nat):StateT Nj Sem (ForInStep GS):=do
 let y <-NT a i
 if(i + 1 + 1 == a.size)=true then pure (Nk (some (fJ a b (out.push y) (i + 1) j),out.push y,i + 1,j,mg,ca,cb))
 else if(decide (ca < 7) && decide (cb < 7))=true then pure (Nk (none,out.push y,i + 1,j,mg,ca,cb))
 else pure (Nv (none,out.push y,i + 1,j,mg,ca,cb))
noncomputable def g2(a b out:Array Nc)(i j mg ca cb:Nat):StateT Nj Sem (ForInStep GS):=do
 let y <-NT b j
 if(j + 1 == b.size)=true then pure (Nk (some (dn a b (out.push y) i (j + 1)),out.push y,i,j + 1,mg,ca,cb))
 else do
  let z <-NT a i
  let some k <-gal true z b (j + 1) (b.size - (j + 1)) 0 | pure (Nk (some (dn a b (out.push y) i (j + 1)),out.push y,i,j + 1,mg,ca,cb))
  if k > 0 then
    if(j + 1 + k == b.size)=true then pure (Nk (some (dn a b (out.push y++b.extract (j + 1) (j + 1 + k)) i (j + 1 + k)),out.push y++b.extract (j + 1) (j + 1 + k),i,j + 1 + k,mg,ca,k))
    else g3 a b (out.push y++b.extract (j + 1) (j + 1 + k)) i (j + 1 + k) mg ca k
  else g3 a b (out.push y) i (j + 1) mg ca k
noncomputable def g1(a b out:Array Nc)(i j mg ca cb:Nat):StateT Nj Sem (ForInStep GS):=do
 setG mg
 let y <-NT b j
 let some k <-gal false y a i (a.size - i) 0 | pure (Nk (some (dn a b out i j),out,i,j,mg,ca,cb))
 if k > 0 then
   if(i + k + 1 == a.size)=true then pure (Nk (some (fJ a b (out++a.extract i (i + k)) (i + k) j),out++a.extract i (i + k),i + k,j,mg,k,cb))
   else if(i + k == a.size)=true then pure (Nk (some (dn a b (out++a.extract i (i + k)) (i + k) j),out++a.extract i (i + k),i + k,j,mg,k,cb))
   else g2 a b (out++a.extract i (i + k)) (i + k) j mg k cb
 else g2 a b out i j mg k cb
noncomputable def f1(a b out:Array Nc)(i j ca cb mg:Nat):StateT Nj Sem (ForInStep FS):=do
 let y <-NT b j
 let z <-NT a i
 let some bw <-lt' y z | pure (Nk (some (dn a b out i j),out,i,j,ca,cb))
 if bw=true then do
   let y <-NT b j
   if(j + 1 == b.size)=true then pure (Nk (some (dn a b (out.push y) i (j + 1)),out.push y,i,j + 1,0,cb + 1))
   else if cb + 1>=mg then pure (Nk (none,out.push y,i,j + 1,0,cb + 1))else pure (Nv (none,out.push y,i,j + 1,0,cb + 1))
 else do
   let z <-NT a i
   if(i + 1 + 1 == a.size)=true then pure (Nk (some (fJ a b (out.push z) (i + 1) j),out.push z,i + 1,j,ca + 1,0))
   else if ca + 1>=mg then pure (Nk (none,out.push z,i + 1,j,ca + 1,0))else pure (Nv (none,out.push z,i + 1,j,ca + 1,0))
noncomputable def oLo(a b:Array Nc)(c:OS):StateT Nj Sem (ForInStep OS):=do
 let r <-forIn [0:a.size + b.size] ((none,c.2.1,c.2.2.1,c.2.2.2.1,0,0):FS) fun _ d=>f1 a b d.2.1 d.2.2.1 d.2.2.2.1 d.2.2.2.2.1 d.2.2.2.2.2 c.2.2.2.2
 match r.1 with
 | some q=>pure (Nk (some q,r.2.1,r.2.2.1,r.2.2.2.1,c.2.2.2.2))
 | none=>do
  liftM (rule "list.sort.gallop")
  let e <-forIn [0:a.size + b.size] ((none,r.2.1,r.2.2.1,r.2.2.2.1,c.2.2.2.2 + 1,r.2.2.2.2.1,r.2.2.2.2.2):GS) fun _ d=>
   if d.2.2.2.2.1 > 1 then g1 a b d.2.1 d.2.2.1 d.2.2.2.1 (d.2.2.2.2.1 - 1) d.2.2.2.2.2.1 d.2.2.2.2.2.2 else g1 a b d.2.1 d.2.2.1 d.2.2.2.1 d.2.2.2.2.1 d.2.2.2.2.2.1 d.2.2.2.2.2.2
  match e.1 with
  | some q=>pure (Nk (some q,e.2.1,e.2.2.1,e.2.2.2.1,e.2.2.2.2.1))
  | none=>do
   setG (e.2.2.2.2.1 + 1)
   pure (Nv (none,e.2.1,e.2.2.1,e.2.2.2.1,e.2.2.2.2.1 + 1))
set_option maxHeartbeats 2000000 in
theorem A6(a b:Array Nc):mLo a b=(do
  liftM (rule "list.sort.merge-lo")
  let y <-NT b 0
  if(1 == b.size)=true then pure (dn a b #[y] 0 1)
  else if(0 + 1 == a.size)=true then pure (fJ a b #[y] 0 1)
  else do
   let st <-get
   let r <-forIn [0:a.size + b.size] ((none,#[y],0,1,QW st):OS) fun _ c=>oLo a b c
   match r.1 with
   | some q=>pure q
   | none=>liftM (unsupported "internal:list.sort.merge-bound":Sem (Array Nc))):=by
 rw[EO]
 unfold oLo
 refine congrArg (bind _) (funext fun _=>?_)
 refine congrArg (bind _) (funext fun y=>?_)
 refine ite_congr rfl (fun _=>rfl) (fun _=>?_)
 refine ite_congr rfl (fun _=>rfl) (fun _=>?_)
 refine congrArg (bind _) (funext fun st=>?_)
 refine congr (congrArg bind (congrArg (forIn _ _) (funext fun _=>funext fun c=>?_))) ?_
 ·refine congr (congrArg bind (congrArg (forIn _ _) (funext fun _=>funext fun d=>?_))) ?_
  ·unfold f1
   rfl
  funext r
  obtain⟨r1,r2⟩:=r
  cases r1 with
  | some q=>rfl
  | none=>
   refine congrArg (bind _) (funext fun _=>?_)
   refine congr (congrArg bind (congrArg (forIn _ _) (funext fun _=>funext fun d=>?_))) ?_
   ·
    unfold g1
    refine ite_congr rfl (fun _=>?_) (fun _=>?_)
    all_goals
     refine congrArg (bind _) (funext fun _=>?_)
     refine congrArg (bind _) (funext fun y=>?_)
     refine congrArg (bind _) (funext fun r=>?_)
     cases r with
     | none=>rfl
     | some k=>
      refine ite_congr rfl (fun _=>?_) (fun _=>?_)
      ·refine ite_congr rfl (fun _=>rfl) (fun _=>?_)
       refine ite_congr rfl (fun _=>rfl) (fun _=>?_)
       unfold g2
       rfl
      unfold g2
      rfl
   funext e;obtain⟨e1,e2⟩:=e;cases e1 <;> rfl
 funext e;obtain⟨e1,e2⟩:=e;cases e1 <;> rfl
noncomputable def cz(M:Pf)(A:Nw)(E:M7->M_->Prop)(s:M_)(kd:O5)(rk:Nc->Nat)(S:Nc->Prop):Prop:=
 ∀(x y:Nc) (st:Nj) (Q:Option Bool->Nj->Prop),S x->S y->kindOf st=kd->Q (some (decide (rk x < rk y))) st->wpS M A E s (lt' x y) Q st
structure Keep (st st':Nj):Prop where
 k:kindOf st'=kindOf st
 a:Nd st'=Nd st
 p:Nt st'=Nt st
 f:NU st'=NU st
theorem Keep.bq {st:Nj}:Keep st st:=⟨rfl,rfl,rfl,rfl⟩
theorem Keep.g {st st':Nj}(h:Keep st st')(g:Nat):Keep st (OX (kindOf st') (Nd st') (Nt st') g (NU st')):=⟨h.k,h.a,h.p,h.f⟩
section
variable{rk:Nc->Nat}
abbrev Srt(rk:Nc->Nat)(l:List Nc):Prop:=l.Pairwise fun x y=>rk x<=rk y
structure MS (rk:Nc->Nat) (a b out:List Nc) (i j:Nat):Prop where
 perm:out.Perm (a.take i++b.take j)
 srt:Srt rk out
 le:∀ x∈out,(∀ y∈a.drop i,rk x<=rk y)/\∀ y∈b.drop j,rk x<=rk y
def Res(rk:Nc->Nat)(a b r:List Nc):Prop:=r.Perm (a++b)/\Srt rk r
theorem MS.pK {a b out:List Nc}{i j k:Nat}(h:MS rk a b out i j)(sa:Srt rk a)(hc:∀ y∈(a.drop i).take k,∀ z∈b.drop j,rk y<=rk z):MS rk a b (out++(a.drop i).take k) (i + k) j:=by
 have sd:Srt rk (a.drop i):=Ja (J8 _ _) sa
 have split:a.drop i=(a.drop i).take k++a.drop (i + k):=by rw[<-KL];exact(IF k (a.drop i)).symm
 refine⟨?_,?_,fun x hx=>?_⟩
 ·rw[Lx]
  refine(h.perm.append_right _).trans ?_
  rw[h_,h_]
  exact IL _ Jt
 ·refine G'.mpr ⟨h.srt,Ja (J5 _ _) sd,fun x hx y hy=>(h.le x hx).1 y (IX hy)⟩
 rcases D_.mp hx with hx | hx
 ·refine⟨fun y hy=>(h.le x hx).1 y ?_,(h.le x hx).2⟩
  rw[split]
  exact n_ _ hy
 refine⟨fun y hy=>?_,hc x hx⟩
 rw[split]at sd
 exact(G'.mp sd).2.2 x hx y hy
theorem MS.oA {a b out:List Nc}{i j k:Nat}(h:MS rk a b out i j)(sb:Srt rk b)(hc:∀ y∈(b.drop j).take k,∀ z∈a.drop i,rk y<=rk z):MS rk a b (out++(b.drop j).take k) i (j + k):=by
 have sd:Srt rk (b.drop j):=Ja (J8 _ _) sb
 have split:b.drop j=(b.drop j).take k++b.drop (j + k):=by rw[<-KL];exact(IF k (b.drop j)).symm
 refine⟨?_,?_,fun x hx=>?_⟩
 ·rw[Lx,<-h_]
  exact h.perm.append_right _
 ·refine G'.mpr ⟨h.srt,Ja (J5 _ _) sd,fun x hx y hy=>(h.le x hx).2 y (IX hy)⟩
 rcases D_.mp hx with hx | hx
 ·refine⟨(h.le x hx).1,fun y hy=>(h.le x hx).2 y ?_⟩
  rw[split]
  exact n_ _ hy
 refine⟨hc x hx,fun y hy=>?_⟩
 rw[split]at sd
 exact(G'.mp sd).2.2 x hx y hy
theorem MS.all {a b out:List Nc}{i j:Nat}(h:MS rk a b out i j)(h1:a.length<=i)(h2:b.length<=j):Res rk a b out:=by
 have:=h.perm
 rw[IY h1,IY h2]at this
 exact⟨this,h.srt⟩
theorem gQ{l:List Nc}(i:Nat):(l.drop i).take l.length=l.drop i:=IY (by rw[IS];lia)
theorem MS.done {a b out:List Nc}{i j:Nat}(h:MS rk a b out i j)(sa:Srt rk a)(sb:Srt rk b)(e:a.length<=i\/b.length<=j):Res rk a b (out++a.drop i++b.drop j):=by
 have h1:=h.pK (k:=a.length) sa fun y hy z hz=>by
  rcases e with e | e
  ·rw[Jr e]at hy;simp at hy
  rw[Jr e]at hz;simp at hz
 have h2:=h1.oA (k:=b.length) sb fun y hy z hz=>by
  rw[Jr (by lia)]at hz;simp at hz
 rw[gQ,gQ]at h2
 exact h2.all (by lia) (by lia)
theorem MS.last {a b out:List Nc}{i j:Nat}(h:MS rk a b out i j)(sa:Srt rk a)(sb:Srt rk b)(e:∀ y∈b.drop j,∀ z∈a.drop i,rk y<=rk z):Res rk a b (out++b.drop j++a.drop i):=by
 have h1:=h.oA (k:=b.length) sb fun y hy z hz=>e y (IX hy) z hz
 have h2:=h1.pK (k:=a.length) sa fun y hy z hz=>by
  rw[Jr (by lia)]at hz;simp at hz
 rw[gQ,gQ]at h2
 exact h2.all (by lia) (by lia)
theorem kq(a:Array Nc)(i:Nat):(a.extract i a.size).toList=a.toList.drop i:=by
 rw[Kg,JQ]
 exact IY (by rw[IS,gV];exact d_ _)
theorem iq(a:Array Nc)(i k:Nat):(a.extract i (i + k)).toList=(a.toList.drop i).take k:=by
 rw[Kg,JQ,KN]
theorem drop_one{l:List Nc}{i:Nat}{y:Nc}(h:l[i]?=some y):(l.drop i).take 1=[y]:=by
 obtain⟨hl,e⟩:=c_.mp h
 rw[Jv hl,List.take_succ_cons,MM,e]
theorem rC{l:List Nc}{i:Nat}{y:Nc}(h:l[i]?=some y)(s:Srt rk l):∀ z∈l.drop i,rk y<=rk z:=by
 obtain⟨hl,e⟩:=c_.mp h
 intro z hz
 have sd:Srt rk (l.drop i):=Ja (J8 _ _) s
 rw[Jv hl,e]at sd hz
 rcases u_.mp hz with rfl | hz
 ·exact d_ _
 exact(Lo.mp sd).1 z hz
theorem lP{l:List Nc}(s:Srt rk l){i j:Nat}{x y:Nc}(hij:i<=j)(hx:l[i]?=some x)(hy:l[j]?=some y):rk x<=rk y:=by
 refine rC hx s y ?_
 rw[IH]
 exact⟨j - i,by rw[JY,show i + (j - i)=j by lia];exact hy⟩
theorem cq{l:List Nc}{i k:Nat}{y:Nc}(h:y∈(l.drop i).take k):∃ j,j < k/\l[i + j]?=some y:=by
 obtain⟨j,hj⟩:=IH.mp h
 rw[JZ]at hj
 split at hj
 ·next hlt=>exact⟨j,hlt,by rw[JY]at hj;exact hj⟩
 cases hj
theorem fv{l:List Nc}{i:Nat}{y:Nc}(h:y∈l.drop i):∃ j,l[i + j]?=some y:=by
 obtain⟨j,hj⟩:=IH.mp h
 exact⟨j,by rw[JY]at hj;exact hj⟩
end
section
variable{M:Pf}{A:Nw}{E:M7->M_->Prop}{s:M_}{kd:O5}{rk:Nc->Nat}{S:Nc->Prop}
theorem aL{ar:Array Nc}{i:Nat}{p:Nc}{st:Nj}{Q:Nc->Nj->Prop}(h:ar[i]?=some p)(q:Q p st):wpS M A E s (NT ar i) Q st:=by
 rw[elem'_eq,h]
 exact Nm q
theorem Dm{lf:Bool}{ky p:Nc}{ar:Array Nc}{b0 i:Nat}{st:Nj}{Q:Option Bool->Nj->Prop}(L:cz M A E s kd rk S)(hk:kindOf st=kd)(hp:ar[b0 + i]?=some p)(Sp:S p)(Sk:S ky)
  (q:Q (some (if lf=true then decide (rk p < rk ky)else !decide (rk ky < rk p))) st):wpS M A E s (bey lf ky ar b0 i) Q st:=by
 unfold bey
 refine Nh (aL hp ?_)
 cases lf with
 | true=>exact L p ky st _ Sp Sk hk q
 | false=>exact Nh (L ky p st _ Sk Sp hk (Nm q))
theorem fm{lf:Bool}{ky:Nc}{ar:Array Nc}{b0 n h0:Nat}{st:Nj}{Q:Option Nat->Nj->Prop}(L:cz M A E s kd rk S)(hk:kindOf st=kd)(hh:h0 < n)(hsz:b0 + n<=ar.size)(Sa:∀(i:Nat) p,ar[i]?=some p->S p)(Sk:S ky)
  (srt:∀(i j:Nat) p q,i<=j->j < n->ar[b0 + i]?=some p->ar[b0 + j]?=some q->rk p<=rk q)
  (h:∀ k,k<=n->(∀(i:Nat) p,i < k->ar[b0 + i]?=some p->if lf=true then rk p < rk ky else rk p<=rk ky)->(∀(i:Nat) p,k<=i->i < n->ar[b0 + i]?=some p->if lf=true then rk ky<=rk p else rk ky < rk p)->Q (some k) st) :
  wpS M A E s (gal lf ky ar b0 n h0) Q st:=by
 have get:∀ i,i < n->ar[b0 + i]?=some (ar.getD (b0 + i) (NR,NR)):=fun i hi=>by
  rw[JH,g_ (by lia)]
  rfl
 refine Fj (bd:=fun i=>if lf=true then decide (rk (ar.getD (b0 + i) (NR,NR)) < rk ky)else !decide (rk ky < rk (ar.getD (b0 + i) (NR,NR)))) hh (fun i R hi r=>Dm L hk (get i hi) (Sa _ _ (get i hi)) Sk r) ?_ ?_
 ·intro i j hij hj hb
  have:=srt i j _ _ hij hj (get i (by lia)) (get j hj)
  cases lf with
  | true=>
   simp only[if_true,decide_eq_true_eq]at hb ⊢
   lia
  | false=>
   simp only[Jf,if_false,KR,decide_eq_false_iff_not]at hb ⊢
   lia
 intro k hk' h1 h2
 refine h k hk' (fun i p hi hp=>?_) (fun i p h3 h4 hp=>?_)
 ·have e:=get i (by lia)
  rw[hp]at e
  cases e
  have:=h1 i hi
  cases lf with
  | true=>simpa using this
  | false=>simpa using this
 have e:=get i h4
 rw[hp]at e
 cases e
 have:=h2 i h3 h4
 cases lf with
 | true=>simpa using this
 | false=>simpa using this
theorem kG{g:Nat}{st:Nj}{Q:Unit->Nj->Prop}(q:Q () (OX (kindOf st) (Nd st) (Nt st) g (NU st))):wpS M A E s (setG g) Q st:=Qi q
end
section
variable{M:Pf}{A:Nw}{E:M7->M_->Prop}{s:M_}{kd:O5}{rk:Nc->Nat}{S:Nc->Prop}{a b:Array Nc}
structure LoOk (rk:Nc->Nat) (S:Nc->Prop) (a b:Array Nc):Prop where
 sa:Srt rk a.toList
 sb:Srt rk b.toList
 Sa:∀(i:Nat) p,a[i]?=some p->S p
 Sb:∀(i:Nat) p,b[i]?=some p->S p
 pa:0 < a.size
 pb:0 < b.size
 first:∀ p,b[0]?=some p->∀ z∈a.toList,rk p<=rk z
 last:∀ p,a[a.size - 1]?=some p->∀ z∈b.toList,rk z<=rk p
theorem LoOk.kA (h:LoOk rk S a b){out:Array Nc}{i j:Nat}(m:MS rk a.toList b.toList out.toList i j)(e:i + 1=a.size):Res rk a.toList b.toList (fJ a b out i j).toList:=by
 unfold fJ
 rw[IM,IM,kq,kq]
 refine m.last h.sa h.sb fun y hy z hz=>?_
 obtain⟨k,hk⟩:=fv hz
 have hk':i + k < a.toList.length:=(c_.mp hk).1
 rw[gV]at hk'
 have k0:k=0:=by lia
 subst k0
 refine h.last z ?_ y (JO hy)
 rw[<-fk,show a.size - 1=i + 0 by lia]
 exact hk
theorem LoOk.gH (h:LoOk rk S a b){out:Array Nc}{i j:Nat}(m:MS rk a.toList b.toList out.toList i j)(e:a.size<=i\/b.size<=j):Res rk a.toList b.toList (dn a b out i j).toList:=by
 unfold dn
 rw[IM,IM,kq,kq]
 exact m.done h.sa h.sb (by rw[gV,gV];exact e)
structure LI (rk:Nc->Nat) (a b out:Array Nc) (i j:Nat):Prop where
 m:MS rk a.toList b.toList out.toList i j
 i:i + 1 < a.size
 j:j < b.size
theorem MS.iN {out:Array Nc}{i j:Nat}(m:MS rk a.toList b.toList out.toList i j)(H:LoOk rk S a b){y:Nc}(hy:b[j]?=some y)(hc:∀ z∈a.toList.drop i,rk y<=rk z):MS rk a.toList b.toList (out.push y).toList i (j + 1):=by
 have hy':b.toList[j]?=some y:=by rw[fk];exact hy
 have:=m.oA (k:=1) H.sb (by rw[drop_one hy'];intro w hw;rw[C'.mp hw];exact hc)
 rw[drop_one hy']at this
 rw[Jz]
 exact this
theorem MS.jc {out:Array Nc}{i j:Nat}(m:MS rk a.toList b.toList out.toList i j)(H:LoOk rk S a b){y:Nc}(hy:a[i]?=some y)(hc:∀ z∈b.toList.drop j,rk y<=rk z):MS rk a.toList b.toList (out.push y).toList (i + 1) j:=by
 have hy':a.toList[i]?=some y:=by rw[fk];exact hy
 have:=m.pK (k:=1) H.sa (by rw[drop_one hy'];intro w hw;rw[C'.mp hw];exact hc)
 rw[drop_one hy']at this
 rw[Jz]
 exact this
theorem gM{l:Array Nc}{i:Nat}{y:Nc}(srt:Srt rk l.toList)(hy:l[i]?=some y):∀ z∈l.toList.drop i,rk y<=rk z:=rC (by rw[fk];exact hy) srt
noncomputable def dF(rk:Nc->Nat)(a b:Array Nc)(lo:Nat)(st:Nj)(r:Option (Array Nc))(out:Array Nc)(i j:Nat)(st':Nj):Prop:=
 Keep st st'/\match r with
 | some q=>Res rk a.toList b.toList q.toList
 | none=>LI rk a b out i j/\lo < i + j
theorem H0{out:Array Nc}{i j ca cb mg:Nat}{st st':Nj}{Q:ForInStep FS->Nj->Prop}(L:cz M A E s kd rk S)(H:LoOk rk S a b)(hk:kindOf st=kd)(K:Keep st st')(I:LI rk a b out i j)
  (h:∀(d:Bool) (c:FS),dF rk a b (i + j) st c.1 c.2.1 c.2.2.1 c.2.2.2.1 st'->(d=false->c.1=none)->Q (if d=true then Nk c else Nv c) st'):wpS M A E s (f1 a b out i j ca cb mg) Q st':=by
 have hi:i < a.size:=by have:=I.i;lia
 obtain⟨y,hy⟩:∃ y,b[j]?=some y:=⟨_,g_ I.j⟩
 obtain⟨z,hz⟩:∃ z,a[i]?=some z:=⟨_,g_ hi⟩
 unfold f1
 refine Nh (aL hy (Nh (aL hz (Nh (L y z st' _ (H.Sb _ _ hy) (H.Sa _ _ hz) (K.k.trans hk) ?_)))))
 dsimp only
 by_cases w:rk y < rk z
 ·rw[decide_eq_true w,if_pos rfl]
  have m:=I.m.iN H hy fun u hu=>z_ (IJ w) (gM H.sa hz u hu)
  refine Nh (aL hy ?_)
  by_cases e:j + 1=b.size
  ·rw[if_pos (by rw[e];exact beq_self_eq_true _)]
   exact Nm (h true _ ⟨K,H.gH m (.inr (by lia))⟩ (fun z=>nomatch z))
  rw[if_neg (by simpa using e)]
  have I2:LI rk a b (out.push y) i (j + 1):=⟨m,I.i,by have:=I.j;lia⟩
  split
  ·exact Nm (h true _ ⟨K,I2,by dsimp only;lia⟩ (fun z=>nomatch z))
  exact Nm (h false _ ⟨K,I2,by dsimp only;lia⟩ (fun _=>rfl))
 rw[decide_eq_false w,if_neg (by simp)]
 have m:=I.m.jc H hz fun u hu=>z_ (by lia) (gM H.sb hy u hu)
 refine Nh (aL hz ?_)
 by_cases e:i + 1 + 1=a.size
 ·rw[if_pos (by rw[e];exact beq_self_eq_true _)]
  exact Nm (h true _ ⟨K,H.kA m e⟩ (fun z=>nomatch z))
 rw[if_neg (by simpa using e)]
 have I2:LI rk a b (out.push z) (i + 1) j:=⟨m,by have:=I.i;lia,I.j⟩
 split
 ·exact Nm (h true _ ⟨K,I2,by dsimp only;lia⟩ (fun z=>nomatch z))
 exact Nm (h false _ ⟨K,I2,by dsimp only;lia⟩ (fun _=>rfl))
theorem Cq{out:Array Nc}{i j mg ca cb lo:Nat}{st st':Nj}{Q:ForInStep GS->Nj->Prop}(H:LoOk rk S a b)(K:Keep st st')(I:LI rk a b out i j)(hc:∀ z,a[i]?=some z->∀ u∈b.toList.drop j,rk z<=rk u)(hl:lo<=i + j)
  (h:∀(d:Bool) (c:GS),dF rk a b lo st c.1 c.2.1 c.2.2.1 c.2.2.2.1 st'->(d=false->c.1=none)->Q (if d=true then Nk c else Nv c) st'):wpS M A E s (g3 a b out i j mg ca cb) Q st':=by
 have hi:i < a.size:=by have:=I.i;lia
 obtain⟨z,hz⟩:∃ z,a[i]?=some z:=⟨_,g_ hi⟩
 unfold g3
 have m:=I.m.jc H hz (hc z hz)
 refine Nh (aL hz ?_)
 by_cases e:i + 1 + 1=a.size
 ·rw[if_pos (by rw[e];exact beq_self_eq_true _)]
  exact Nm (h true _ ⟨K,H.kA m e⟩ (fun z=>nomatch z))
 rw[if_neg (by simpa using e)]
 have I2:LI rk a b (out.push z) (i + 1) j:=⟨m,by have:=I.i;lia,I.j⟩
 split
 ·exact Nm (h true _ ⟨K,I2,by dsimp only;lia⟩ (fun z=>nomatch z))
 exact Nm (h false _ ⟨K,I2,by dsimp only;lia⟩ (fun _=>rfl))
theorem CC{out:Array Nc}{i j mg ca cb lo:Nat}{st st':Nj}{Q:ForInStep GS->Nj->Prop}(L:cz M A E s kd rk S)(H:LoOk rk S a b)(hk:kindOf st=kd)(K:Keep st st')(I:LI rk a b out i j)(hc:∀ y,b[j]?=some y->∀ u∈a.toList.drop i,rk y<=rk u)(hl:lo<=i + j)
  (h:∀(d:Bool) (c:GS),dF rk a b lo st c.1 c.2.1 c.2.2.1 c.2.2.2.1 st'->(d=false->c.1=none)->Q (if d=true then Nk c else Nv c) st'):wpS M A E s (g2 a b out i j mg ca cb) Q st':=by
 have hi:i < a.size:=by have:=I.i;lia
 obtain⟨y,hy⟩:∃ y,b[j]?=some y:=⟨_,g_ I.j⟩
 obtain⟨z,hz⟩:∃ z,a[i]?=some z:=⟨_,g_ hi⟩
 unfold g2
 have m:=I.m.iN H hy (hc y hy)
 refine Nh (aL hy ?_)
 by_cases e:j + 1=b.size
 ·rw[if_pos (by rw[e];exact beq_self_eq_true _)]
  exact Nm (h true _ ⟨K,H.gH m (.inr (by lia))⟩ (fun z=>nomatch z))
 rw[if_neg (by simpa using e)]
 have hj:j + 1 < b.size:=by have:=I.j;lia
 refine Nh (aL hz (Nh (fm L (K.k.trans hk) (by lia) (by lia) H.Sb (H.Sa _ _ hz) (fun p q x w h1 h2 h3 h4=>lP H.sb (i:=j + 1 + p) (j:=j + 1 + q) (by(clear h4 h3 h2 hj e m hz hy hi h hl hc I K hk H L;lia)) (by rw[fk];exact h3) (by rw[fk];exact h4)) fun k k1 k2 k3=>?_)))
 dsimp only
 have after:∀ u∈b.toList.drop (j + 1 + k),rk z<=rk u:=fun u hu=>by
  obtain⟨p,hp⟩:=fv hu
  rw[fk]at hp
  have hlt:j + 1 + k + p < b.size:=(Km.mp hp).1
  have:=k3 (k + p) u (by lia) (by(clear hp hu k3 k2 k1 hj e m hz hy hi h hl hc I K hk H L;lia)) (by rw[show j + 1 + (k + p)=j + 1 + k + p by(clear hlt hp hu k3 k2 k1 hj e m hz hy hi h hl hc I K hk H L;lia)];exact hp)
  simpa using this
 by_cases pk:k > 0
 ·rw[if_pos pk]
  have m2:MS rk a.toList b.toList (out.push y++b.extract (j + 1) (j + 1 + k)).toList i (j + 1 + k):=by
   rw[IM,iq]
   refine m.oA H.sb fun u hu w hw=>?_
   obtain⟨p,hp1,hp⟩:=cq hu
   rw[fk]at hp
   have:=k2 p u hp1 hp
   simp only[if_true]at this
   exact z_ (IJ this) (gM H.sa hz w hw)
  by_cases e2:j + 1 + k=b.size
  ·rw[if_pos (by rw[e2];exact beq_self_eq_true _)]
   exact Nm (h true _ ⟨K,H.gH m2 (.inr (by(clear m2 pk after k3 k2 k1 hj e m hz hy hi h hl hc I K hk H L;lia)))⟩ (fun z=>nomatch z))
  rw[if_neg (by simpa using e2)]
  refine Cq H K ⟨m2,I.i,by(clear m2 after k3 k2 hj e m hz hy hi h hl hc I K hk H L;lia)⟩ (fun z' hz'=>?_) (by(clear e2 m2 pk after k3 k2 k1 hj e m hz hy hi h hc I K hk H L;lia)) h
  rw[hz]at hz'
  cases hz'
  exact after
 rw[if_neg pk]
 have k0:k=0:=by lia
 subst k0
 refine Cq H K ⟨m,I.i,by(clear pk after k3 k2 k1 e m hz hy hi h hl hc I K hk H L;omega)⟩ (fun z' hz'=>?_) (by lia) h
 rw[hz]at hz'
 cases hz'
 exact after
theorem Gu{out:Array Nc}{i j mg ca cb:Nat}{st st':Nj}{Q:ForInStep GS->Nj->Prop}(L:cz M A E s kd rk S)(H:LoOk rk S a b)(hk:kindOf st=kd)(K:Keep st st')(I:LI rk a b out i j)
  (h:∀(d:Bool) (c:GS) (st2:Nj),dF rk a b (i + j) st c.1 c.2.1 c.2.2.1 c.2.2.2.1 st2->(d=false->c.1=none)->Q (if d=true then Nk c else Nv c) st2):wpS M A E s (g1 a b out i j mg ca cb) Q st':=by
 have hi:i < a.size:=by have:=I.i;lia
 obtain⟨y,hy⟩:∃ y,b[j]?=some y:=⟨_,g_ I.j⟩
 unfold g1
 refine Nh (kG (Nh (aL hy ?_)))
 have K2:=K.g mg
 revert K2
 generalize OX (kindOf st') (Nd st') (Nt st') mg (NU st')=st2
 intro K2
 refine Nh (fm L (K2.k.trans hk) (by lia) (by lia) H.Sa (H.Sb _ _ hy) (fun p q x w h1 h2 h3 h4=>lP H.sa (i:=i + p) (j:=i + q) (by lia) (by rw[fk];exact h3) (by rw[fk];exact h4)) fun k k1 k2 k3=>?_)
 dsimp only
 have after:∀ u∈a.toList.drop (i + k),rk y<=rk u:=fun u hu=>by
  obtain⟨p,hp⟩:=fv hu
  rw[fk]at hp
  have hlt:i + k + p < a.size:=(Km.mp hp).1
  have:=k3 (k + p) u (by lia) (by lia) (by rw[show i + (k + p)=i + k + p by lia];exact hp)
  simp at this
  lia
 by_cases pk:k > 0
 ·rw[if_pos pk]
  have m2:MS rk a.toList b.toList (out++a.extract i (i + k)).toList (i + k) j:=by
   rw[IM,iq]
   refine I.m.pK H.sa fun u hu w hw=>?_
   obtain⟨p,hp1,hp⟩:=cq hu
   rw[fk]at hp
   have:=k2 p u hp1 hp
   simp at this
   exact z_ this (gM H.sb hy w hw)
  by_cases e1:i + k + 1=a.size
  ·rw[if_pos (by rw[e1];exact beq_self_eq_true _)]
   exact Nm (h true _ _ ⟨K2,H.kA m2 e1⟩ (fun z=>nomatch z))
  rw[if_neg (by simpa using e1)]
  by_cases e2:i + k=a.size
  ·rw[if_pos (by rw[e2];exact beq_self_eq_true _)]
   exact Nm (h true _ _ ⟨K2,H.gH m2 (.inl (by lia))⟩ (fun z=>nomatch z))
  rw[if_neg (by simpa using e2)]
  refine CC L H hk K2 ⟨m2,by(clear m2 after k3 k2 K2 hy hi h I K hk H L;lia),I.j⟩ (fun y' hy'=>?_) (by lia) fun d c x1 x2=>h d c _ x1 x2
  rw[hy]at hy'
  cases hy'
  exact after
 rw[if_neg pk]
 have k0:k=0:=by lia
 subst k0
 refine CC L H hk K2 I (fun y' hy'=>?_) (d_ _) fun d c x1 x2=>h d c _ x1 x2
 rw[hy]at hy'
 cases hy'
 exact after
theorem Dk{st:Nj}{Q:Array Nc->Nj->Prop}(L:cz M A E s kd rk S)(H:LoOk rk S a b)(hk:kindOf st=kd)(h:∀ r st',Keep st st'->Res rk a.toList b.toList r.toList->Q r st')(hr:∀ x,Nb M A (rule x) (fun _ s'=>s'=s) E s):wpS M A E s (mLo a b) Q st:=by
 rw[A6]
 obtain⟨y,hy⟩:∃ y,b[0]?=some y:=⟨_,g_ H.pb⟩
 have rl:∀ {x:String} {R:Unit->Nj->Prop} {st':Nj},R () st'->wpS M A E s (liftM (rule x):StateT Nj Sem Unit) R st':=fun{x R st'} q=>RF (Nz (hr x) (fun _ _ z=>⟨z,q⟩) fun _ _ z=>z)
 refine Nh (rl (Nh (aL hy ?_)))
 have m0:MS rk a.toList b.toList (#[]:Array Nc).toList 0 0:=⟨by simp,KP,fun x hx=>by simp at hx⟩
 have m1:MS rk a.toList b.toList (#[y]:Array Nc).toList 0 1:=m0.iN H hy fun z hz=>H.first y hy z (by simpa using hz)
 by_cases e1:1=b.size
 ·rw[if_pos (by rw[<-e1];rfl)]
  exact Nm (h _ _ .bq (H.gH m1 (.inr (by lia))))
 rw[if_neg (by simpa using e1)]
 by_cases e2:0 + 1=a.size
 ·rw[if_pos (by rw[<-e2];rfl)]
  exact Nm (h _ _ .bq (H.kA m1 e2))
 rw[if_neg (by simpa using e2)]
 refine Nh (PU ?_)
 have pa:=H.pa
 have pb:=H.pb
 refine Nh (Oj (NS (I:=fun x (c:OS) st'=>c.1=none/\Keep st st'/\LI rk a b c.2.1 c.2.2.1 c.2.2.2.1/\x < c.2.2.1 + c.2.2.2.1) (Q:=fun(c:OS) st'=>∃ q,c.1=some q/\Keep st st'/\Res rk a.toList b.toList q.toList) ?_ ?_ ⟨rfl,.bq,⟨m1,by dsimp only;lia,by dsimp only;lia⟩,by show 0 < 0 + 1;lia⟩) ?_)
 ·rintro x ⟨c1,out,i,j,mg⟩ st1 _ hx ⟨rfl,K1,I1,px⟩
  unfold oLo
  dsimp only at I1 px ⊢
  refine Nh (Oj (NS (I:=fun x (c:FS) st'=>c.1=none/\Keep st st'/\LI rk a b c.2.1 c.2.2.1 c.2.2.2.1/\i + j + x<=c.2.2.1 + c.2.2.2.1) (Q:=fun(c:FS) st'=>dF rk a b (i + j) st c.1 c.2.1 c.2.2.1 c.2.2.2.1 st') ?_ ?_ ⟨rfl,K1,I1,d_ _⟩) ?_)
  ·rintro x2 ⟨d1,out2,i2,j2,ca,cb⟩ st2 _ hx2 ⟨rfl,K2,I2,p2⟩
   dsimp only at I2 p2 ⊢
   refine H0 L H hk K2 I2 fun d c hs hn=>?_
   cases d with
   | true=>
    show dF _ _ _ _ _ _ _ _ _ _
    refine⟨hs.1,?_⟩
    have h2:=hs.2
    cases e:c.1 with
    | some q=>rw[e]at h2;exact h2
    | none=>rw[e]at h2;exact⟨h2.1,by have:=h2.2;(clear e h2 hn hs I2 K2 hx2 px I1 K1 hx pb pa e2 e1 m1 m0 rl hy hr h hk H L;lia)⟩
   | false=>
    have h2:=hs.2
    rw[hn rfl]at h2
    exact⟨hn rfl,hs.1,h2.1,by have:=h2.2;(clear h2 hn hs I2 K2 hx2 px I1 K1 hx pb pa e2 e1 m1 m0 rl hy hr h hk H L;lia)⟩
  ·rintro⟨c1,out2,i2,j2,ca,cb⟩ st2 ⟨rfl,K2,I2,p2⟩
   dsimp only at I2 p2 ⊢
   have:=I2.i
   have:=I2.j
   (clear I2 K2 px I1 K1 hx pb pa e2 e1 m1 m0 rl hy hr h hk H L;lia)
  rintro⟨c1,out2,i2,j2,ca,cb⟩ st2 ⟨K2,h2⟩
  cases c1 with
  | some q=>exact Nm ⟨q,rfl,K2,h2⟩
  | none=>
   obtain⟨I2,p2⟩:=h2
   dsimp only at I2 p2 ⊢
   refine Nh (rl ?_)
   refine Nh (Oj (NS (I:=fun _ (c:GS) st'=>c.1=none/\Keep st st'/\LI rk a b c.2.1 c.2.2.1 c.2.2.2.1/\i + j < c.2.2.1 + c.2.2.2.1) (Q:=fun(c:GS) st'=>dF rk a b (i + j) st c.1 c.2.1 c.2.2.1 c.2.2.2.1 st') ?_ ?_ ⟨rfl,K2,I2,p2⟩) ?_)
   ·rintro x3 ⟨d1,out3,i3,j3,mg3,ca3,cb3⟩ st3 _ hx3 ⟨rfl,K3,I3,p3⟩
    dsimp only at I3 p3 ⊢
    have go:∀ mg',wpS M A E s (g1 a b out3 i3 j3 mg' ca3 cb3) (fun r st'=>match r with | .done c'=>dF rk a b (i + j) st c'.1 c'.2.1 c'.2.2.1 c'.2.2.2.1 st' | .yield c'=>c'.1=none/\Keep st st'/\LI rk a b c'.2.1 c'.2.2.1 c'.2.2.2.1/\i + j < c'.2.2.1 + c'.2.2.2.1) st3:=fun mg'=>by
     refine Gu L H hk K3 I3 fun d c st4 hs hn=>?_
     cases d with
     | true=>
      show dF _ _ _ _ _ _ _ _ _ _
      refine⟨hs.1,?_⟩
      have h2:=hs.2
      cases e:c.1 with
      | some q=>rw[e]at h2;exact h2
      | none=>rw[e]at h2;exact⟨h2.1,by have:=h2.2;(clear e h2 hn hs I3 K3 hx3 p2 I2 K2 px I1 K1 hx pb pa e2 e1 m1 m0 rl hy hr h hk H L;lia)⟩
     | false=>
      have h2:=hs.2
      rw[hn rfl]at h2
      exact⟨hn rfl,hs.1,h2.1,by have:=h2.2;(clear h2 hn hs I3 K3 hx3 p2 I2 K2 px I1 K1 hx pb pa e2 e1 m1 m0 rl hy hr h hk H L;lia)⟩
    split
    ·exact Oj (go _) fun r st' h=>by cases r <;> exact h
    exact Oj (go _) fun r st' h=>by cases r <;> exact h
   ·rintro⟨c1,out3,i3,j3,mg3,ca3,cb3⟩ st3 ⟨rfl,K3,I3,p3⟩
    exact⟨K3,I3,p3⟩
   rintro⟨c1,out3,i3,j3,mg3,ca3,cb3⟩ st3 ⟨K3,h3⟩
   cases c1 with
   | some q=>exact Nm ⟨q,rfl,K3,h3⟩
   | none=>
    obtain⟨I3,p3⟩:=h3
    refine Nh (kG (Nm ⟨rfl,K3.g _,I3,?_⟩))
    dsimp only at p3 ⊢
    lia
 ·rintro⟨c1,out,i,j,mg⟩ st1 ⟨rfl,K1,I1,px⟩
  have h1:=I1.i
  have h2:=I1.j
  dsimp only at h1 h2 px
  (clear I1 K1 pb pa e2 e1 m1 m0 rl hy hr h hk H L;lia)
 rintro⟨c1,out,i,j,mg⟩ st1 ⟨q,e,K1,r⟩
 dsimp only at e
 subst e
 exact Nm (h q st1 K1 r)
end
def dnH(a b out:Array Nc)(i j:Nat):Array Nc:=a.extract 0 i++b.extract 0 j++out.reverse
def cT(a b out:Array Nc)(i j:Nat):Array Nc:=b.extract 0 j++a.extract 0 i++out.reverse
theorem CV(a b:Array Nc):mHi a b=(do
 rule "list.sort.merge-hi"
 let mut i:=a.size - 1
 let mut j:=b.size
 let mut out:Array Nc:=#[<-NT a i]
 if i == 0 then return dnH a b out i j
 if j == 1 then return cT a b out i j
 let mut mg:=QW (<-get)
 for _ in [0:a.size + b.size]do
  let mut ca:=0
  let mut cb:=0
  for _ in [0:a.size + b.size]do
   let some aw <-lt' (<-NT b (j - 1)) (<-NT a (i - 1)) | return dnH a b out i j
   if aw then
    i:=i - 1;out:=out.push (<-NT a i);ca:=ca + 1;cb:=0
    if i == 0 then return dnH a b out i j
    if ca>=mg then break
   else
    j:=j - 1;out:=out.push (<-NT b j);cb:=cb + 1;ca:=0
    if j == 1 then return cT a b out i j
    if cb>=mg then break
  rule "list.sort.gallop"
  mg:=mg + 1
  for _ in [0:a.size + b.size]do
   if mg > 1 then mg:=mg - 1
   setG mg
   let some at' <-gal false (<-NT b (j - 1)) a 0 i (i - 1) | return dnH a b out i j
   let k:=i - at'
   ca:=k
   if k > 0 then
    out:=out++(a.extract at' i).reverse;i:=at'
    if i == 0 then return dnH a b out i j
   j:=j - 1;out:=out.push (<-NT b j)
   if j == 1 then return cT a b out i j
   let some at' <-gal true (<-NT a (i - 1)) b 0 j (j - 1) | return dnH a b out i j
   let k:=j - at'
   cb:=k
   if k > 0 then
    out:=out++(b.extract at' j).reverse;j:=at'
    if j == 1 then return cT a b out i j
    if j == 0 then return dnH a b out i j
   i:=i - 1;out:=out.push (<-NT a i)
   if i == 0 then return dnH a b out i j
   if ca < 7 && cb < 7 then break
  mg:=mg + 1
  setG mg
 unsupported "internal:list.sort.merge-bound"):=rfl
abbrev GT:=Option (Array Nc) × Nat × Nat × Array Nc × Nat × Nat × Nat
abbrev FT:=Option (Array Nc) × Nat × Nat × Array Nc × Nat × Nat
abbrev OT:=Option (Array Nc) × Nat × Nat × Array Nc × Nat
noncomputable def k3(a b out:Array Nc)(i j mg ca cb:Nat):StateT Nj Sem (ForInStep GT):=do
 let y <-NT a (i - 1)
 if(i - 1 == 0)=true then pure (Nk (some (dnH a b (out.push y) (i - 1) j),i - 1,j,out.push y,mg,ca,cb))
 else if(decide (ca < 7) && decide (cb < 7))=true then pure (Nk (none,i - 1,j,out.push y,mg,ca,cb))
 else pure (Nv (none,i - 1,j,out.push y,mg,ca,cb))
noncomputable def k2(a b out:Array Nc)(i j mg ca cb:Nat):StateT Nj Sem (ForInStep GT):=do
 let y <-NT b (j - 1)
 if(j - 1 == 1)=true then pure (Nk (some (cT a b (out.push y) i (j - 1)),i,j - 1,out.push y,mg,ca,cb))
 else do
  let z <-NT a (i - 1)
  let some at' <-gal true z b 0 (j - 1) (j - 1 - 1) | pure (Nk (some (dnH a b (out.push y) i (j - 1)),i,j - 1,out.push y,mg,ca,cb))
  if j - 1 - at' > 0 then
    if(at' == 1)=true then pure (Nk (some (cT a b (out.push y++(b.extract at' (j - 1)).reverse) i at'),i,at',out.push y++(b.extract at' (j - 1)).reverse,mg,ca,j - 1 - at'))
    else if(at' == 0)=true then pure (Nk (some (dnH a b (out.push y++(b.extract at' (j - 1)).reverse) i at'),i,at',out.push y++(b.extract at' (j - 1)).reverse,mg,ca,j - 1 - at'))
    else k3 a b (out.push y++(b.extract at' (j - 1)).reverse) i at' mg ca (j - 1 - at')
  else k3 a b (out.push y) i (j - 1) mg ca (j - 1 - at')
noncomputable def k1(a b out:Array Nc)(i j mg ca cb:Nat):StateT Nj Sem (ForInStep GT):=do
 setG mg
 let y <-NT b (j - 1)
 let some at' <-gal false y a 0 i (i - 1) | pure (Nk (some (dnH a b out i j),i,j,out,mg,ca,cb))
 if i - at' > 0 then
   if(at' == 0)=true then pure (Nk (some (dnH a b (out++(a.extract at' i).reverse) at' j),at',j,out++(a.extract at' i).reverse,mg,i - at',cb))
   else k2 a b (out++(a.extract at' i).reverse) at' j mg (i - at') cb
 else k2 a b out i j mg (i - at') cb
noncomputable def e1(a b out:Array Nc)(i j ca cb mg:Nat):StateT Nj Sem (ForInStep FT):=do
 let y <-NT b (j - 1)
 let z <-NT a (i - 1)
 let some aw <-lt' y z | pure (Nk (some (dnH a b out i j),i,j,out,ca,cb))
 if aw=true then do
   let z <-NT a (i - 1)
   if(i - 1 == 0)=true then pure (Nk (some (dnH a b (out.push z) (i - 1) j),i - 1,j,out.push z,ca + 1,0))
   else if ca + 1>=mg then pure (Nk (none,i - 1,j,out.push z,ca + 1,0))else pure (Nv (none,i - 1,j,out.push z,ca + 1,0))
 else do
   let y <-NT b (j - 1)
   if(j - 1 == 1)=true then pure (Nk (some (cT a b (out.push y) i (j - 1)),i,j - 1,out.push y,0,cb + 1))
   else if cb + 1>=mg then pure (Nk (none,i,j - 1,out.push y,0,cb + 1))else pure (Nv (none,i,j - 1,out.push y,0,cb + 1))
noncomputable def oHi(a b:Array Nc)(c:OT):StateT Nj Sem (ForInStep OT):=do
 let r <-forIn [0:a.size + b.size] ((none,c.2.1,c.2.2.1,c.2.2.2.1,0,0):FT) fun _ d=>e1 a b d.2.2.2.1 d.2.1 d.2.2.1 d.2.2.2.2.1 d.2.2.2.2.2 c.2.2.2.2
 match r.1 with
 | some q=>pure (Nk (some q,r.2.1,r.2.2.1,r.2.2.2.1,c.2.2.2.2))
 | none=>do
  liftM (rule "list.sort.gallop")
  let e <-forIn [0:a.size + b.size] ((none,r.2.1,r.2.2.1,r.2.2.2.1,c.2.2.2.2 + 1,r.2.2.2.2.1,r.2.2.2.2.2):GT) fun _ d=>
   if d.2.2.2.2.1 > 1 then k1 a b d.2.2.2.1 d.2.1 d.2.2.1 (d.2.2.2.2.1 - 1) d.2.2.2.2.2.1 d.2.2.2.2.2.2 else k1 a b d.2.2.2.1 d.2.1 d.2.2.1 d.2.2.2.2.1 d.2.2.2.2.2.1 d.2.2.2.2.2.2
  match e.1 with
  | some q=>pure (Nk (some q,e.2.1,e.2.2.1,e.2.2.2.1,e.2.2.2.2.1))
  | none=>do
   setG (e.2.2.2.2.1 + 1)
   pure (Nv (none,e.2.1,e.2.2.1,e.2.2.2.1,e.2.2.2.2.1 + 1))
set_option maxHeartbeats 2000000 in
theorem AG(a b:Array Nc):mHi a b=(do
  liftM (rule "list.sort.merge-hi")
  let y <-NT a (a.size - 1)
  if(a.size - 1 == 0)=true then pure (dnH a b #[y] (a.size - 1) b.size)
  else if(b.size == 1)=true then pure (cT a b #[y] (a.size - 1) b.size)
  else do
   let st <-get
   let r <-forIn [0:a.size + b.size] ((none,a.size - 1,b.size,#[y],QW st):OT) fun _ c=>oHi a b c
   match r.1 with
   | some q=>pure q
   | none=>liftM (unsupported "internal:list.sort.merge-bound":Sem (Array Nc))):=by
 rw[CV]
 unfold oHi
 refine congrArg (bind _) (funext fun _=>?_)
 refine congrArg (bind _) (funext fun y=>?_)
 refine ite_congr rfl (fun _=>rfl) (fun _=>?_)
 refine ite_congr rfl (fun _=>rfl) (fun _=>?_)
 refine congrArg (bind _) (funext fun st=>?_)
 refine congr (congrArg bind (congrArg (forIn _ _) (funext fun _=>funext fun c=>?_))) ?_
 ·refine congr (congrArg bind (congrArg (forIn _ _) (funext fun _=>funext fun d=>?_))) ?_
  ·unfold e1
   rfl
  funext r
  obtain⟨r1,r2⟩:=r
  cases r1 with
  | some q=>rfl
  | none=>
   refine congrArg (bind _) (funext fun _=>?_)
   refine congr (congrArg bind (congrArg (forIn _ _) (funext fun _=>funext fun d=>?_))) ?_
   ·unfold k1
    refine ite_congr rfl (fun _=>?_) (fun _=>?_)
    all_goals
     refine congrArg (bind _) (funext fun _=>?_)
     refine congrArg (bind _) (funext fun y=>?_)
     refine congrArg (bind _) (funext fun r=>?_)
     cases r with
     | none=>rfl
     | some k=>
      refine ite_congr rfl (fun _=>?_) (fun _=>?_)
      ·refine ite_congr rfl (fun _=>rfl) (fun _=>?_)
       unfold k2
       rfl
      unfold k2
      rfl
   funext e;obtain⟨e1,e2⟩:=e;cases e1 <;> rfl
 funext e;obtain⟨e1,e2⟩:=e;cases e1 <;> rfl
section
variable{rk:Nc->Nat}
structure MH (rk:Nc->Nat) (a b o:List Nc) (i j:Nat):Prop where
 perm:o.Perm (a.drop i++b.drop j)
 srt:Srt rk o
 le:∀ x∈o,(∀ y∈a.take i,rk y<=rk x)/\∀ y∈b.take j,rk y<=rk x
theorem qg{l:List Nc}{i t:Nat}(h:t<=i):l.drop t=(l.take i).drop t++l.drop i:=by
 by_cases hi:i<=l.length
 ·have e:=IF i l
  have h2:(l.take i++l.drop i).drop t=(l.take i).drop t++l.drop i:=Lg (by rw[D'];lia)
  rw[e]at h2
  exact h2
 rw[IY (by lia),Jr (by lia:l.length<=i),IP]
theorem iG{l:List Nc}{i t:Nat}(h:t<=i):l.take i=l.take t++(l.take i).drop t:=by
 have:=IF t (l.take i)
 rw[List.take_take,L0 h]at this
 exact this.symm
theorem MH.pK {a b o:List Nc}{i j t:Nat}(h:MH rk a b o i j)(sa:Srt rk a)(ht:t<=i)(hc:∀ y∈(a.take i).drop t,∀ z∈b.take j,rk z<=rk y):MH rk a b ((a.take i).drop t++o) t j:=by
 have st:Srt rk (a.take i):=Ja (J5 _ _) sa
 refine⟨?_,?_,fun x hx=>?_⟩
 ·rw[qg (l:=a) ht,h_]
  exact IL _ h.perm
 ·exact G'.mpr ⟨Ja (J8 _ _) st,h.srt,fun x hx y hy=>(h.le y hy).1 x (JO hx)⟩
 rcases D_.mp hx with hx | hx
 ·refine⟨fun y hy=>?_,hc x hx⟩
  rw[iG ht]at st
  exact(G'.mp st).2.2 y hy x hx
 refine⟨fun y hy=>(h.le x hx).1 y ?_,(h.le x hx).2⟩
 rw[iG ht]
 exact IG _ hy
theorem MH.oA {a b o:List Nc}{i j t:Nat}(h:MH rk a b o i j)(sb:Srt rk b)(ht:t<=j)(hc:∀ y∈(b.take j).drop t,∀ z∈a.take i,rk z<=rk y):MH rk a b ((b.take j).drop t++o) i t:=by
 have st:Srt rk (b.take j):=Ja (J5 _ _) sb
 refine⟨?_,?_,fun x hx=>?_⟩
 ·rw[qg (l:=b) ht]
  refine(IL _ h.perm).trans ?_
  rw[<-h_,<-h_]
  exact L6 _ Jt
 ·exact G'.mpr ⟨Ja (J8 _ _) st,h.srt,fun x hx y hy=>(h.le y hy).2 x (JO hx)⟩
 rcases D_.mp hx with hx | hx
 ·refine⟨hc x hx,fun y hy=>?_⟩
  rw[iG ht]at st
  exact(G'.mp st).2.2 y hy x hx
 refine⟨(h.le x hx).1,fun y hy=>(h.le x hx).2 y ?_⟩
 rw[iG ht]
 exact IG _ hy
theorem MH.done {a b o:List Nc}{i j:Nat}(h:MH rk a b o i j)(sa:Srt rk a)(sb:Srt rk b)(e:i=0\/j=0):Res rk a b (a.take i++b.take j++o):=by
 have h1:=h.oA (t:=0) sb (F_ _) fun y hy z hz=>by
  rcases e with e | e
  ·rw[e]at hz;simp at hz
  rw[e]at hy;simp at hy
 have h2:=h1.pK (t:=0) sa (F_ _) fun y hy z hz=>by simp at hz
 have p:=h2.perm
 have q:=h2.srt
 simp only[Kd]at p q
 rw[h_]
 exact⟨p,q⟩
theorem MH.first {a b o:List Nc}{i j:Nat}(h:MH rk a b o i j)(sa:Srt rk a)(sb:Srt rk b)(e:∀ y∈a.take i,∀ z∈b.take j,rk z<=rk y):Res rk a b (b.take j++a.take i++o):=by
 have h1:=h.pK (t:=0) sa (F_ _) fun y hy z hz=>e y (by rw[Kd]at hy;exact hy) z hz
 have h2:=h1.oA (t:=0) sb (F_ _) fun y hy z hz=>by simp at hz
 have p:=h2.perm
 have q:=h2.srt
 simp only[Kd]at p q
 rw[h_]
 exact⟨p,q⟩
theorem kK(a:Array Nc)(i:Nat):(a.extract 0 i).toList=a.toList.take i:=by
 rw[Kg,JQ,Kd,MW]
theorem uW(a:Array Nc)(t i:Nat):(a.extract t i).toList=(a.toList.take i).drop t:=by
 rw[Kg,JQ,List.drop_take]
theorem take_one{l:List Nc}{i:Nat}{y:Nc}(h0:0 < i)(h:l[i - 1]?=some y):(l.take i).drop (i - 1)=[y]:=by
 obtain⟨hl,e⟩:=c_.mp h
 have:l.take i=l.take (i - 1)++[y]:=by
  conv=>lhs;rw[show i=i - 1 + 1 by lia,Jn,h]
  rfl
 rw[this,Lg (by rw[D'];omega),Jr (by rw[D'];omega)]
 rfl
theorem eV{l:List Nc}{i:Nat}{y:Nc}(h:y∈l.take i):∃ j,j < i/\l[j]?=some y:=by
 obtain⟨j,hj⟩:=IH.mp h
 rw[JZ]at hj
 split at hj
 ·next hlt=>exact⟨j,hlt,hj⟩
 cases hj
theorem rB{l:List Nc}{t i:Nat}{y:Nc}(h:y∈(l.take i).drop t):∃ j,t<=j/\j < i/\l[j]?=some y:=by
 obtain⟨j,hj⟩:=fv h
 rw[JZ]at hj
 split at hj
 ·next hlt=>exact⟨t + j,by lia,hlt,hj⟩
 cases hj
end
section
variable{M:Pf}{A:Nw}{E:M7->M_->Prop}{s:M_}{kd:O5}{rk:Nc->Nat}{S:Nc->Prop}{a b:Array Nc}
abbrev MHo(rk:Nc->Nat)(a b out:Array Nc)(i j:Nat):Prop:=MH rk a.toList b.toList out.toList.reverse i j
theorem LoOk.qx (h:LoOk rk S a b){out:Array Nc}{i j:Nat}(m:MHo rk a b out i j)(e:i=0\/j=0):Res rk a.toList b.toList (dnH a b out i j).toList:=by
 unfold dnH
 rw[IM,IM,kK,kK,Kh]
 exact m.done h.sa h.sb e
theorem LoOk.oZ (h:LoOk rk S a b){out:Array Nc}{i j:Nat}(m:MHo rk a b out i j)(e:j=1):Res rk a.toList b.toList (cT a b out i j).toList:=by
 unfold cT
 rw[IM,IM,kK,kK,Kh]
 refine m.first h.sa h.sb fun y hy z hz=>?_
 subst e
 obtain⟨k,hk,hz'⟩:=eV hz
 have k0:k=0:=by lia
 subst k0
 exact h.first z (by rw[<-fk];exact hz') y (IX hy)
structure HI (rk:Nc->Nat) (a b out:Array Nc) (i j:Nat):Prop where
 m:MHo rk a b out i j
 i0:0 < i
 j1:1 < j
 ia:i<=a.size
 jb:j<=b.size
theorem MH.jc {out:Array Nc}{i j:Nat}(m:MHo rk a b out i j)(H:LoOk rk S a b)(h0:0 < i){y:Nc}(hy:a[i - 1]?=some y)(hc:∀ z∈b.toList.take j,rk z<=rk y):MHo rk a b (out.push y) (i - 1) j:=by
 have hy':a.toList[i - 1]?=some y:=by rw[fk];exact hy
 have:=m.pK (t:=i - 1) H.sa (by lia) (by rw[take_one h0 hy'];intro w hw;rw[C'.mp hw];exact hc)
 rw[take_one h0 hy']at this
 show MH _ _ _ (out.push y).toList.reverse _ _
 rw[Jz,Kr]
 exact this
theorem MH.iN {out:Array Nc}{i j:Nat}(m:MHo rk a b out i j)(H:LoOk rk S a b)(h0:0 < j){y:Nc}(hy:b[j - 1]?=some y)(hc:∀ z∈a.toList.take i,rk z<=rk y):MHo rk a b (out.push y) i (j - 1):=by
 have hy':b.toList[j - 1]?=some y:=by rw[fk];exact hy
 have:=m.oA (t:=j - 1) H.sb (by lia) (by rw[take_one h0 hy'];intro w hw;rw[C'.mp hw];exact hc)
 rw[take_one h0 hy']at this
 show MH _ _ _ (out.push y).toList.reverse _ _
 rw[Jz,Kr]
 exact this
theorem i6{l:Array Nc}{i:Nat}{y:Nc}(srt:Srt rk l.toList)(hy:l[i - 1]?=some y):∀ z∈l.toList.take i,rk z<=rk y:=fun z hz=>by
 obtain⟨k,hk,hz'⟩:=eV hz
 exact lP srt (i:=k) (j:=i - 1) (by lia) hz' (by rw[fk];exact hy)
noncomputable def iy(rk:Nc->Nat)(a b:Array Nc)(lo:Nat)(st:Nj)(r:Option (Array Nc))(out:Array Nc)(i j:Nat)(st':Nj):Prop:=
 Keep st st'/\match r with
 | some q=>Res rk a.toList b.toList q.toList
 | none=>HI rk a b out i j/\i + j < lo
theorem HI.get (I:HI rk a b out i j):(∃ y,b[j - 1]?=some y)/\∃ z,a[i - 1]?=some z:=
 ⟨⟨_,g_ (x_ (LD (K9 J3 I.j1) J3) I.jb)⟩,⟨_,g_ (x_ (LD I.i0 J3) I.ia)⟩⟩
theorem G7{out:Array Nc}{i j ca cb mg:Nat}{st st':Nj}{Q:ForInStep FT->Nj->Prop}(L:cz M A E s kd rk S)(H:LoOk rk S a b)(hk:kindOf st=kd)(K:Keep st st')(I:HI rk a b out i j)
  (h:∀(d:Bool) (c:FT),iy rk a b (i + j) st c.1 c.2.2.2.1 c.2.1 c.2.2.1 st'->(d=false->c.1=none)->Q (if d=true then Nk c else Nv c) st'):wpS M A E s (e1 a b out i j ca cb mg) Q st':=by
 obtain⟨⟨y,hy⟩,⟨z,hz⟩⟩:=I.get
 have i0:=I.i0
 have j1:=I.j1
 have ia:=I.ia
 have jb:=I.jb
 unfold e1
 refine Nh (aL hy (Nh (aL hz (Nh (L y z st' _ (H.Sb _ _ hy) (H.Sa _ _ hz) (K.k.trans hk) ?_)))))
 dsimp only
 by_cases w:rk y < rk z
 ·rw[decide_eq_true w,if_pos rfl]
  have m:=I.m.jc H i0 hz fun u hu=>z_ (i6 H.sb hy u hu) (IJ w)
  refine Nh (aL hz ?_)
  by_cases e:i - 1=0
  ·rw[if_pos (by rw[e];rfl)]
   exact Nm (h true _ ⟨K,H.qx m (.inl e)⟩ (fun z=>nomatch z))
  rw[if_neg (by simpa using e)]
  have I2:HI rk a b (out.push z) (i - 1) j:=⟨m,J0 e,j1,z_ (Jx ..) ia,jb⟩
  split
  ·exact Nm (h true _ ⟨K,I2,by dsimp only;lia⟩ (fun z=>nomatch z))
  exact Nm (h false _ ⟨K,I2,by dsimp only;lia⟩ (fun _=>rfl))
 rw[decide_eq_false w,if_neg (by simp)]
 have m:=I.m.iN H (by lia) hy fun u hu=>z_ (i6 H.sa hz u hu) (by lia)
 refine Nh (aL hy ?_)
 by_cases e:j - 1=1
 ·rw[if_pos (by rw[e];rfl)]
  exact Nm (h true _ ⟨K,H.oZ m e⟩ (fun z=>nomatch z))
 rw[if_neg (by simpa using e)]
 have I2:HI rk a b (out.push y) i (j - 1):=⟨m,i0,by lia,ia,z_ (Jx ..) jb⟩
 split
 ·exact Nm (h true _ ⟨K,I2,by dsimp only;lia⟩ (fun z=>nomatch z))
 exact Nm (h false _ ⟨K,I2,by dsimp only;lia⟩ (fun _=>rfl))
theorem CO{out:Array Nc}{i j mg ca cb lo:Nat}{st st':Nj}{Q:ForInStep GT->Nj->Prop}(H:LoOk rk S a b)(K:Keep st st')(I:HI rk a b out i j)(hc:∀ z,a[i - 1]?=some z->∀ u∈b.toList.take j,rk u<=rk z)(hl:i + j<=lo)
  (h:∀(d:Bool) (c:GT),iy rk a b lo st c.1 c.2.2.2.1 c.2.1 c.2.2.1 st'->(d=false->c.1=none)->Q (if d=true then Nk c else Nv c) st'):wpS M A E s (k3 a b out i j mg ca cb) Q st':=by
 obtain⟨⟨y,hy⟩,⟨z,hz⟩⟩:=I.get
 have i0:=I.i0
 have j1:=I.j1
 have ia:=I.ia
 have jb:=I.jb
 unfold k3
 have m:=I.m.jc H i0 hz (hc z hz)
 refine Nh (aL hz ?_)
 by_cases e:i - 1=0
 ·rw[if_pos (by rw[e];rfl)]
  exact Nm (h true _ ⟨K,H.qx m (.inl e)⟩ (fun z=>nomatch z))
 rw[if_neg (by simpa using e)]
 have I2:HI rk a b (out.push z) (i - 1) j:=⟨m,J0 e,j1,z_ (Jx ..) ia,jb⟩
 split
 ·exact Nm (h true _ ⟨K,I2,by dsimp only;lia⟩ (fun z=>nomatch z))
 exact Nm (h false _ ⟨K,I2,by dsimp only;lia⟩ (fun _=>rfl))
theorem MHo.block {out:Array Nc}{i j t:Nat}(m:MHo rk a b out i j)(H:LoOk rk S a b)(ht:t<=j)(hc:∀ y∈(b.toList.take j).drop t,∀ z∈a.toList.take i,rk z<=rk y):MHo rk a b (out++(b.extract t j).reverse) i t:=by
 have:=m.oA H.sb ht hc
 show MH _ _ _ (out++(b.extract t j).reverse).toList.reverse _ _
 rw[IM,Kr,Kh,Mc,uW]
 exact this
theorem MHo.E4 {out:Array Nc}{i j t:Nat}(m:MHo rk a b out i j)(H:LoOk rk S a b)(ht:t<=i)(hc:∀ y∈(a.toList.take i).drop t,∀ z∈b.toList.take j,rk z<=rk y):MHo rk a b (out++(a.extract t i).reverse) t j:=by
 have:=m.pK H.sa ht hc
 show MH _ _ _ (out++(a.extract t i).reverse).toList.reverse _ _
 rw[IM,Kr,Kh,Mc,uW]
 exact this
theorem CK{out:Array Nc}{i j mg ca cb lo:Nat}{st st':Nj}{Q:ForInStep GT->Nj->Prop}(L:cz M A E s kd rk S)(H:LoOk rk S a b)(hk:kindOf st=kd)(K:Keep st st')(I:HI rk a b out i j)(hc:∀ y,b[j - 1]?=some y->∀ u∈a.toList.take i,rk u<=rk y)(hl:i + j<=lo)
  (h:∀(d:Bool) (c:GT),iy rk a b lo st c.1 c.2.2.2.1 c.2.1 c.2.2.1 st'->(d=false->c.1=none)->Q (if d=true then Nk c else Nv c) st'):wpS M A E s (k2 a b out i j mg ca cb) Q st':=by
 obtain⟨⟨y,hy⟩,⟨z,hz⟩⟩:=I.get
 have i0:=I.i0
 have j1:=I.j1
 have ia:=I.ia
 have jb:=I.jb
 unfold k2
 have m:=I.m.iN H (by lia) hy (hc y hy)
 refine Nh (aL hy ?_)
 by_cases e:j - 1=1
 ·rw[if_pos (by rw[e];rfl)]
  exact Nm (h true _ ⟨K,H.oZ m e⟩ (fun z=>nomatch z))
 rw[if_neg (by simpa using e)]
 refine Nh (aL hz (Nh (fm L (K.k.trans hk) (by lia) (by lia) H.Sb (H.Sa _ _ hz) (fun p q x w h1 h2 h3 h4=>lP H.sb (i:=0 + p) (j:=0 + q) (by lia) (by rw[fk];exact h3) (by rw[fk];exact h4)) fun t t1 t2 t3=>?_)))
 dsimp only
 have before:∀ u∈b.toList.take t,rk u<=rk z:=fun u hu=>by
  obtain⟨p,hp1,hp⟩:=eV hu
  rw[fk]at hp
  have:=t2 p u hp1 (by rw[KD];exact hp)
  simp at this
  lia
 by_cases pk:j - 1 - t > 0
 ·rw[if_pos pk]
  have m2:MHo rk a b (out.push y++(b.extract t (j - 1)).reverse) i t:=by
   refine MHo.block m H (by omega) fun u hu w hw=>?_
   obtain⟨p,hp0,hp1,hp⟩:=rB hu
   rw[fk]at hp
   have:=t3 p u hp0 hp1 (by rw[KD];exact hp)
   simp at this
   exact z_ (i6 H.sa hz w hw) this
  by_cases e1:t=1
  ·rw[if_pos (by rw[e1];rfl)]
   exact Nm (h true _ ⟨K,H.oZ m2 e1⟩ (fun z=>nomatch z))
  rw[if_neg (by simpa using e1)]
  by_cases e2:t=0
  ·rw[if_pos (by rw[e2];rfl)]
   exact Nm (h true _ ⟨K,H.qx m2 (.inr e2)⟩ (fun z=>nomatch z))
  rw[if_neg (by simpa using e2)]
  refine CO H K ⟨m2,i0,Ju (J0 e2) (Oi e1),ia,z_ t1 (z_ (Jx ..) jb)⟩ (fun z' hz'=>?_) (by lia) h
  rw[hz]at hz'
  cases hz'
  exact before
 rw[if_neg pk]
 have k0:t=j - 1:=by lia
 refine CO H K ⟨m,i0,by lia,ia,z_ (Jx ..) jb⟩ (fun z' hz'=>?_) (by lia) h
 rw[hz]at hz'
 cases hz'
 rw[k0]at before
 exact before
theorem G9{out:Array Nc}{i j mg ca cb:Nat}{st st':Nj}{Q:ForInStep GT->Nj->Prop}(L:cz M A E s kd rk S)(H:LoOk rk S a b)(hk:kindOf st=kd)(K:Keep st st')(I:HI rk a b out i j)
  (h:∀(d:Bool) (c:GT) (st2:Nj),iy rk a b (i + j) st c.1 c.2.2.2.1 c.2.1 c.2.2.1 st2->(d=false->c.1=none)->Q (if d=true then Nk c else Nv c) st2):wpS M A E s (k1 a b out i j mg ca cb) Q st':=by
 obtain⟨⟨y,hy⟩,⟨z,hz⟩⟩:=I.get
 have i0:=I.i0
 have j1:=I.j1
 have ia:=I.ia
 have jb:=I.jb
 unfold k1
 refine Nh (kG (Nh (aL hy ?_)))
 have K2:=K.g mg
 revert K2
 generalize OX (kindOf st') (Nd st') (Nt st') mg (NU st')=st2
 intro K2
 refine Nh (fm L (K2.k.trans hk) (by lia) (by lia) H.Sa (H.Sb _ _ hy) (fun p q x w h1 h2 h3 h4=>lP H.sa (i:=0 + p) (j:=0 + q) (by lia) (by rw[fk];exact h3) (by rw[fk];exact h4)) fun t t1 t2 t3=>?_)
 dsimp only
 have before:∀ u∈a.toList.take t,rk u<=rk y:=fun u hu=>by
  obtain⟨p,hp1,hp⟩:=eV hu
  rw[fk]at hp
  have:=t2 p u hp1 (by rw[KD];exact hp)
  simpa using this
 by_cases pk:i - t > 0
 ·rw[if_pos pk]
  have m2:MHo rk a b (out++(a.extract t i).reverse) t j:=by
   refine MHo.E4 I.m H (by omega) fun u hu w hw=>?_
   obtain⟨p,hp0,hp1,hp⟩:=rB hu
   rw[fk]at hp
   have:=t3 p u hp0 hp1 (by rw[KD];exact hp)
   simp at this
   exact z_ (i6 H.sb hy w hw) (IJ this)
  by_cases e2:t=0
  ·rw[if_pos (by rw[e2];rfl)]
   exact Nm (h true _ _ ⟨K2,H.qx m2 (.inl e2)⟩ (fun z=>nomatch z))
  rw[if_neg (by simpa using e2)]
  refine CK L H hk K2 ⟨m2,by lia,j1,by lia,jb⟩ (fun y' hy'=>?_) (by lia) fun d c x1 x2=>h d c _ x1 x2
  rw[hy]at hy'
  cases hy'
  exact before
 rw[if_neg pk]
 have k0:t=i:=by lia
 rw[k0]at before
 refine CK L H hk K2 I (fun y' hy'=>?_) (d_ _) fun d c x1 x2=>h d c _ x1 x2
 rw[hy]at hy'
 cases hy'
 exact before
theorem Fu{st:Nj}{Q:Array Nc->Nj->Prop}(L:cz M A E s kd rk S)(H:LoOk rk S a b)(hk:kindOf st=kd)(h:∀ r st',Keep st st'->Res rk a.toList b.toList r.toList->Q r st')(hr:∀ x,Nb M A (rule x) (fun _ s'=>s'=s) E s):wpS M A E s (mHi a b) Q st:=by
 rw[AG]
 have pa:=H.pa
 have pb:=H.pb
 obtain⟨y,hy⟩:∃ y,a[a.size - 1]?=some y:=⟨_,g_ (by lia)⟩
 have rl:∀ {x:String} {R:Unit->Nj->Prop} {st':Nj},R () st'->wpS M A E s (liftM (rule x):StateT Nj Sem Unit) R st':=fun{x R st'} q=>RF (Nz (hr x) (fun _ _ z=>⟨z,q⟩) fun _ _ z=>z)
 refine Nh (rl (Nh (aL hy ?_)))
 have m0:MHo rk a b #[] a.size b.size:=⟨by simp,KP,fun x hx=>by simp at hx⟩
 have m1:MHo rk a b #[y] (a.size - 1) b.size:=m0.jc H pa hy fun z hz=>H.last y hy z (IX hz)
 by_cases e1:a.size - 1=0
 ·rw[if_pos (by rw[e1];rfl)]
  exact Nm (h _ _ .bq (H.qx m1 (.inl e1)))
 rw[if_neg (by simpa using e1)]
 by_cases e2:b.size=1
 ·rw[if_pos (by rw[e2];rfl)]
  exact Nm (h _ _ .bq (H.oZ m1 e2))
 rw[if_neg (by simpa using e2)]
 refine Nh (PU ?_)
 refine Nh (Oj (NS (I:=fun x (c:OT) st'=>c.1=none/\Keep st st'/\HI rk a b c.2.2.2.1 c.2.1 c.2.2.1/\c.2.1 + c.2.2.1 + x < a.size + b.size) (Q:=fun(c:OT) st'=>∃ q,c.1=some q/\Keep st st'/\Res rk a.toList b.toList q.toList) ?_ ?_ ⟨rfl,.bq,⟨m1,by dsimp only;lia,by dsimp only;lia,by dsimp only;lia,by dsimp only;lia⟩,by dsimp only;lia⟩) ?_)
 ·rintro x ⟨c1,i,j,out,mg⟩ st1 _ hx ⟨rfl,K1,I1,px⟩
  unfold oHi
  dsimp only at I1 px ⊢
  refine Nh (Oj (NS (I:=fun x (c:FT) st'=>c.1=none/\Keep st st'/\HI rk a b c.2.2.2.1 c.2.1 c.2.2.1/\c.2.1 + c.2.2.1 + x<=i + j) (Q:=fun(c:FT) st'=>iy rk a b (i + j) st c.1 c.2.2.2.1 c.2.1 c.2.2.1 st') ?_ ?_ ⟨rfl,K1,I1,d_ _⟩) ?_)
  ·rintro x2 ⟨d1,i2,j2,out2,ca,cb⟩ st2 _ hx2 ⟨rfl,K2,I2,p2⟩
   dsimp only at I2 p2 ⊢
   refine G7 L H hk K2 I2 fun d c hs hn=>?_
   cases d with
   | true=>
    show iy _ _ _ _ _ _ _ _ _ _
    refine⟨hs.1,?_⟩
    have h2:=hs.2
    cases e:c.1 with
    | some q=>rw[e]at h2;exact h2
    | none=>rw[e]at h2;exact⟨h2.1,by have:=h2.2;lia⟩
   | false=>
    have h2:=hs.2
    rw[hn rfl]at h2
    exact⟨hn rfl,hs.1,h2.1,by have:=h2.2;lia⟩
  ·rintro⟨c1,i2,j2,out2,ca,cb⟩ st2 ⟨rfl,K2,I2,p2⟩
   dsimp only at I2 p2 ⊢
   have:=I2.i0
   have:=I2.j1
   lia
  rintro⟨c1,i2,j2,out2,ca,cb⟩ st2 ⟨K2,h2⟩
  cases c1 with
  | some q=>exact Nm ⟨q,rfl,K2,h2⟩
  | none=>
   obtain⟨I2,p2⟩:=h2
   dsimp only at I2 p2 ⊢
   refine Nh (rl ?_)
   refine Nh (Oj (NS (I:=fun _ (c:GT) st'=>c.1=none/\Keep st st'/\HI rk a b c.2.2.2.1 c.2.1 c.2.2.1/\c.2.1 + c.2.2.1 < i + j) (Q:=fun(c:GT) st'=>iy rk a b (i + j) st c.1 c.2.2.2.1 c.2.1 c.2.2.1 st') ?_ ?_ ⟨rfl,K2,I2,p2⟩) ?_)
   ·rintro x3 ⟨d1,i3,j3,out3,mg3,ca3,cb3⟩ st3 _ hx3 ⟨rfl,K3,I3,p3⟩
    dsimp only at I3 p3 ⊢
    have go:∀ mg',wpS M A E s (k1 a b out3 i3 j3 mg' ca3 cb3) (fun r st'=>match r with | .done c'=>iy rk a b (i + j) st c'.1 c'.2.2.2.1 c'.2.1 c'.2.2.1 st' | .yield c'=>c'.1=none/\Keep st st'/\HI rk a b c'.2.2.2.1 c'.2.1 c'.2.2.1/\c'.2.1 + c'.2.2.1 < i + j) st3:=fun mg'=>by
     refine G9 L H hk K3 I3 fun d c st4 hs hn=>?_
     cases d with
     | true=>
      show iy _ _ _ _ _ _ _ _ _ _
      refine⟨hs.1,?_⟩
      have h2:=hs.2
      cases e:c.1 with
      | some q=>rw[e]at h2;exact h2
      | none=>rw[e]at h2;exact⟨h2.1,by have:=h2.2;lia⟩
     | false=>
      have h2:=hs.2
      rw[hn rfl]at h2
      exact⟨hn rfl,hs.1,h2.1,by have:=h2.2;lia⟩
    split
    ·exact Oj (go _) fun r st' h=>by cases r <;> exact h
    exact Oj (go _) fun r st' h=>by cases r <;> exact h
   ·rintro⟨c1,i3,j3,out3,mg3,ca3,cb3⟩ st3 ⟨rfl,K3,I3,p3⟩
    exact⟨K3,I3,p3⟩
   rintro⟨c1,i3,j3,out3,mg3,ca3,cb3⟩ st3 ⟨K3,h3⟩
   cases c1 with
   | some q=>exact Nm ⟨q,rfl,K3,h3⟩
   | none=>
    obtain⟨I3,p3⟩:=h3
    refine Nh (kG (Nm ⟨rfl,K3.g _,I3,?_⟩))
    dsimp only at p3 ⊢
    lia
 ·rintro⟨c1,i,j,out,mg⟩ st1 ⟨rfl,K1,I1,px⟩
  dsimp only at px
  lia
 rintro⟨c1,i,j,out,mg⟩ st1 ⟨q,e,K1,r⟩
 dsimp only at e
 subst e
 exact Nm (h q st1 K1 r)
end
def R(rk:Nc->Nat)(xs:Array Nc)(i:Nat):Nat:=match xs[i]? with
 | some p=>rk p
 | none=>0
structure Kp2 (st st':Nj):Prop where
 k:kindOf st'=kindOf st
 p:Nt st'=Nt st
 f:NU st'=NU st
 a:(Nd st').Perm (Nd st)
theorem Kp2.bq {st:Nj}:Kp2 st st:=⟨rfl,rfl,rfl,L4 _⟩
theorem Kp2.trans {s1 s2 s3:Nj}(h:Kp2 s1 s2)(g:Kp2 s2 s3):Kp2 s1 s3:=⟨g.k.trans h.k,g.p.trans h.p,g.f.trans h.f,g.a.trans h.a⟩
theorem Kp2.size {st st':Nj}(h:Kp2 st st'):(Nd st').size=(Nd st).size:=h.a.size_eq
section
variable{rk:Nc->Nat}
theorem cC{xs ys:Array Nc}{i j:Nat}(h:xs[i]?=ys[j]?):R rk xs i=R rk ys j:=by unfold R;rw[h]
theorem zm{xs:Array Nc}{i j:Nat}(hj:j<=xs.size)(k:Nat):R rk (mirror xs i j ((j - i) / 2)) k=if i<=k/\k < j then R rk xs (i + j - 1 - k)else R rk xs k:=by
 have:=RS (i:=i) hj k
 split at this <;> rename_i h
 ·rw[if_pos h];exact cC this
 rw[if_neg h];exact cC this
theorem yE{xs:Array Nc}{src d:Nat}(hs:src < xs.size)(hd:d<=src)(k:Nat):R rk (SW xs src d) k=if k=src - d then R rk xs src else if src - d < k/\k<=src then R rk xs (k - 1)else R rk xs k:=by
 have:=SX hs d hd k
 split at this
 ·rename_i h;rw[if_pos h];exact cC this
 rename_i h
 rw[if_neg h]
 split at this
 ·rename_i h2;rw[if_pos h2];exact cC this
 rename_i h2;rw[if_neg h2];exact cC this
def bG(rk:Nc->Nat)(xs:Array Nc)(lo n:Nat):Prop:=∀ i j,i<=j->j < n->R rk xs (lo + i)<=R rk xs (lo + j)
def rh(rk:Nc->Nat)(xs:Array Nc)(lo n:Nat):Prop:=∀ i j,i<=j->j < n->R rk xs (lo + j)<=R rk xs (lo + i)
end
structure Within (st st':Nj) (lo n:Nat):Prop where
 kp:Kp2 st st'
 out:∀ k,(k < lo\/lo + n<=k)->(Nd st')[k]?=(Nd st)[k]?
theorem Within.bq {st:Nj}{lo n:Nat}:Within st st lo n:=⟨.bq,fun _ _=>rfl⟩
theorem Within.trans {s1 s2 s3:Nj}{lo n:Nat}(h:Within s1 s2 lo n)(g:Within s2 s3 lo n):Within s1 s3 lo n:=⟨h.kp.trans g.kp,fun k hk=>(g.out k hk).trans (h.out k hk)⟩
section
variable{M:Pf}{A:Nw}{E:M7->M_->Prop}{s:M_}{kd:O5}{rk:Nc->Nat}{S:Nc->Prop}
def iL(S:Nc->Prop)(st:Nj):Prop:=∀ p∈(Nd st).toList,S p
theorem iL.at {st:Nj}(h:iL S st){i:Nat}{p:Nc}(e:(Nd st)[i]?=some p):S p:=h p (by rw[<-fk]at e;exact t_ e)
theorem iL.kp {st st':Nj}(h:iL S st)(k:Kp2 st st'):iL S st':=fun p hp=>h p ((JM.mp k.a).mem_iff.mp hp)
theorem fE{i j:Nat}{st:Nj}{Q:Option Bool->Nj->Prop}(L:cz M A E s kd rk S)(hk:kindOf st=kd)(hS:iL S st)(hi:i < (Nd st).size)(hj:j < (Nd st).size)(q:Q (some (decide (R rk (Nd st) i < R rk (Nd st) j))) st):wpS M A E s (SY i j) Q st:=by
 rw[ltAt'_eq]
 refine Nh (PU ?_)
 have e1:(Nd st)[i]?=some (Nd st)[i]:=g_ hi
 have e2:(Nd st)[j]?=some (Nd st)[j]:=g_ hj
 refine Nh (aL e1 (Nh (aL e2 (L _ _ st _ (hS.at e1) (hS.at e2) hk ?_))))
 unfold R at q
 rw[e1,e2]at q
 exact q
theorem xH{i j lo n:Nat}{st:Nj}{Q:Unit->Nj->Prop}(hl:lo<=i)(hj:j<=lo + n)(hsz:j<=(Nd st).size)(h:∀ st',Within st st' lo n->(∀ k,R rk (Nd st') k=if i<=k/\k < j then R rk (Nd st) (i + j - 1 - k)else R rk (Nd st) k)->Q () st'):wpS M A E s (Pq i j) Q st:=by
 rw[reverseSlice'_eq]
 refine Qi (h _ ⟨⟨rfl,rfl,rfl,mirror_perm _ _ _ _⟩,fun k hk=>?_⟩ fun k=>zm hsz k)
 show(mirror (Nd st) i j ((j - i) / 2))[k]?=_
 rw[RS hsz,if_neg (by lia)]
theorem C8{lo n ok:Nat}{st:Nj}{Q:Bool->Nj->Prop}(L:cz M A E s kd rk S)(hk:kindOf st=kd)(hS:iL S st)(hn:lo + n<=(Nd st).size)(hok:ok<=n)(hs:bG rk (Nd st) lo ok)
  (h:∀ st',Within st st' lo n->bG rk (Nd st') lo n->Q true st'):wpS M A E s (U5 lo n ok) Q st:=by
 rw[binarySort'_eq]
 refine Nh (Oj (NS (I:=fun k c st'=>c=(none,())/\Within st st' lo n/\bG rk (Nd st') lo k) (Q:=fun c st'=>c=(none,())/\Within st st' lo n/\bG rk (Nd st') lo (max (max ok 1) n)) ?_ (fun c st' z=>z) ⟨rfl,.bq,fun i j h1 h2=>?_⟩) ?_)
 ·rintro k c st1 hk1 hk2 ⟨rfl,W,s1⟩
  have sz1:=W.kp.size
  have hS1:=hS.kp W.kp
  refine Nh (Oj (NS (I:=fun x c st'=>st'=st1/\∃ l r,c=(none,l,r)/\l<=r/\r<=k/\r - l<=k - x/\(∀ i,i < l->R rk (Nd st1) (lo + i)<=R rk (Nd st1) (lo + k))/\(∀ i,r<=i->i < k->R rk (Nd st1) (lo + k) < R rk (Nd st1) (lo + i)))
   (Q:=fun c st'=>st'=st1/\∃ l,c=(none,l,l)/\l<=k/\(∀ i,i < l->R rk (Nd st1) (lo + i)<=R rk (Nd st1) (lo + k))/\(∀ i,l<=i->i < k->R rk (Nd st1) (lo + k) < R rk (Nd st1) (lo + i))) ?_ ?_ ⟨rfl,0,k,rfl,F_ _,d_ _,by lia,fun i hi=>by lia,fun i h1 h2=>by lia⟩) ?_)
  ·rintro x c st2 _ hx ⟨rfl,l,r,rfl,g1,g2,g3,g4,g5⟩
   dsimp only
   by_cases z:l>=r
   ·rw[if_pos z]
    have e:l=r:=by lia
    subst e
    exact Nm ⟨rfl,l,rfl,g2,g4,g5⟩
   rw[if_neg z]
   have m1:l<=(l + r) / 2:=by omega
   have m2:(l + r) / 2 < r:=by omega
   generalize (l + r) / 2=m at m1 m2 ⊢
   have m3:=x_ m2 g2
   have sz:∀ {y},y<=k->lo + y < (Nd st2).size:=fun h=>by lia
   refine Nh (fE L (W.kp.k.trans hk) hS1 (sz (d_ _)) (sz (IJ m3)) ?_)
   dsimp only
   by_cases w:R rk (Nd st2) (lo + k) < R rk (Nd st2) (lo + m)
   ·rw[decide_eq_true w,if_pos rfl]
    exact Nm ⟨rfl,l,m,rfl,m1,IJ m3,by lia,g4,fun i h1 h2=>x_ w (s1 m i h1 h2)⟩
   rw[decide_eq_false w,if_neg (by simp)]
   exact Nm ⟨rfl,m + 1,r,rfl,m2,g2,by lia,fun i hi=>z_ (s1 i m (KQ hi) m3) (IU w),g5⟩
  ·rintro c st2 ⟨rfl,l,r,rfl,g1,g2,g3,g4,g5⟩
   have e:l=r:=by lia
   subst e
   exact⟨rfl,l,rfl,g2,g4,g5⟩
  rintro c st2 ⟨rfl,l,rfl,g2,g4,g5⟩
  dsimp only
  rw[moveDown'_eq]
  have hk1:lo + k < (Nd st2).size:=by lia
  have e0:lo + k - (lo + k - (lo + l))=lo + l:=Nat.sub_sub_self (Kq g2 lo)
  have hb:∀ j,R rk (SW (Nd st2) (lo + k) (lo + k - (lo + l))) (lo + j)=if j=l then R rk (Nd st2) (lo + k)else if l < j/\j<=k then R rk (Nd st2) (lo + (j - 1))else R rk (Nd st2) (lo + j):=fun j=>by
   rw[yE hk1 (Jx ..),e0]
   by_cases c1:j=l
   ·rw[if_pos c1,if_pos (congrArg (lo + ·) c1)]
   rw[if_neg c1,if_neg (fun z=>c1 (Nat.add_left_cancel z))]
   by_cases c2:l < j/\j<=k
   ·rw[if_pos c2,if_pos ⟨Li c2.1 lo,Kq c2.2 lo⟩,Mu (Nat.one_le_of_lt c2.1)]
   rw[if_neg c2,if_neg (fun z=>c2 ⟨Nat.lt_of_add_lt_add_left z.1,Nat.le_of_add_le_add_left z.2⟩)]
  refine Nh (Qi (Nm ⟨rfl,W.trans ⟨⟨rfl,rfl,rfl,bubble_perm _ _ _⟩,fun j hj=>?_⟩,fun i j hij hj=>?_⟩))
  ·show(SW (Nd st2) (lo + k) (lo + k - (lo + l)))[j]?=_
   rw[SX hk1 _ (Jx ..),e0,if_neg (by lia),if_neg (by lia)]
  show R rk (SW (Nd st2) (lo + k) (lo + k - (lo + l))) (lo + i)<=R rk (SW (Nd st2) (lo + k) (lo + k - (lo + l))) (lo + j)
  rw[hb,hb]
  have ss:∀ p q,p<=q->q < k->R rk (Nd st2) (lo + p)<=R rk (Nd st2) (lo + q):=s1
  have hj:j<=k:=KQ hj
  have dn:∀ {x},l < x->x<=k->x - 1 < k:=fun a b=>x_ (Nat.sub_one_lt_of_lt a) b
  by_cases i1:i < l
  ·rw[if_neg (q_ i1),if_neg (fun z=>Nat.lt_asymm z.1 i1)]
   by_cases j2:j=l
   ·rw[if_pos j2]
    exact g4 i i1
   rw[if_neg j2]
   by_cases j1:l < j
   ·rw[if_pos ⟨j1,hj⟩]
    exact ss i (j - 1) (Lb (K9 i1 j1)) (dn j1 hj)
   rw[if_neg (fun z=>j1 z.1)]
   exact ss i j hij (x_ (Ju (IU j1) j2) g2)
  by_cases i2:i=l
  ·rw[if_pos i2]
   by_cases j2:j=l
   ·rw[if_pos j2]
    exact d_ _
   have j1:l < j:=Ju (i2 ▸ hij) (fun z=>j2 z.symm)
   rw[if_neg j2,if_pos ⟨j1,hj⟩]
   exact IJ (g5 (j - 1) (Lb j1) (dn j1 hj))
  have i3:l < i:=Ju (IU i1) (fun z=>i2 z.symm)
  have j1:=x_ i3 hij
  rw[if_neg i2,if_pos ⟨i3,z_ hij hj⟩,if_neg (fun z=>Jc _ (z ▸ j1)),if_pos ⟨j1,hj⟩]
  exact ss (i - 1) (j - 1) (Md hij 1) (dn j1 hj)
 ·by_cases z:1<=ok
  ·rw[Nat.max_eq_left z]at h2
   exact hs i j h1 h2
  have:i=j:=by lia
  subst this
  exact d_ _
 rintro c st1 ⟨rfl,W,s1⟩
 exact Nm (h st1 W fun i j h1 h2=>s1 i j h1 (by lia))
end
theorem wH{l x:Nat}(h:1<=x):l + (x - 1)=l + x - 1:=(Mu h l).symm
theorem ES{l k:Nat}(h:l<=k):l + (k - l)=k:=Ks h
theorem Hm{l a i:Nat}(h:i < a):l + (l + a) - 1 - (l + i)=l + (a - 1 - i):=by lia
theorem Dw{l x k:Nat}(h0:l<=k)(h:k < l + x):k - l < x:=Kw h0 h
noncomputable def y8(l0 a0 q0:Nat):StateT Nj Sem (Option Nat):=do
 let mut n:=a0
 for _ in [a0:q0]do
  let some sm <-SY (l0 + n) (l0 + n - 1) | return none
  if sm then break
  n:=n + 1
 return some n
def oo(l0 a0 q0:Nat):StateT Nj Sem (Option Nat):=do
 Pq l0 (l0 + a0)
 y8 l0 a0 q0
noncomputable def oG(l0 a0 q0:Nat):StateT Nj Sem (Option Nat):=do
 rule "list.sort.descending-run"
 let mut n:=a0 + 1
 let mut eq:=0
 for _ in [n:q0]do
  let some sm <-SY (l0 + n) (l0 + n - 1) | return none
  if sm then
   if eq > 0 then Pq (l0 + n - (eq + 1)) (l0 + n)
   eq:=0
  else
   let some la <-SY (l0 + n - 1) (l0 + n) | return none
   if la then break
   eq:=eq + 1
  n:=n + 1
 if eq > 0 then
  Pq (l0 + n - (eq + 1)) (l0 + n)
  oo l0 n q0
 else oo l0 n q0
theorem FZ(l0 q0:Nat):TC l0 q0=(do
 let mut n:=1
 for _ in [1:q0]do
  let some sm <-SY (l0 + n) (l0 + n - 1) | return none
  if sm then break
  n:=n + 1
 if n == q0 then return some n
 if n > 1 then
  let some ro <-SY l0 (l0 + n - 1) | return none
  if ro then return some n
  Pq l0 (l0 + n)
  oG l0 n q0
 else oG l0 n q0):=rfl
section
variable{M:Pf}{A:Nw}{E:M7->M_->Prop}{s:M_}{kd:O5}{rk:Nc->Nat}{S:Nc->Prop}
theorem bG.snoc {xs:Array Nc}{lo n:Nat}(h:bG rk xs lo n)(h1:1<=n)(k:R rk xs (lo + n - 1)<=R rk xs (lo + n)):bG rk xs lo (n + 1):=fun i j hij hj=>by
 by_cases z:j < n
 ·exact h i j hij z
 have e:j=n:=by lia
 subst e
 by_cases w:i=j
 ·subst w;exact d_ _
 have:=h i (j - 1) (by lia) (by lia)
 rw[wH h1]at this
 exact z_ this k
theorem zg{l0 a0 q0:Nat}{st:Nj}{Q:Option Nat->Nj->Prop}(L:cz M A E s kd rk S)(hk:kindOf st=kd)(hS:iL S st)(hsz:l0 + q0<=(Nd st).size)(h1:1<=a0)(h2:a0<=q0)(hs:bG rk (Nd st) l0 a0)
  (h:∀ n,a0<=n->n<=q0->bG rk (Nd st) l0 n->Q (some n) st):wpS M A E s (y8 l0 a0 q0) Q st:=by
 unfold y8
 dsimp only
 refine Nh (Oj (NS (I:=fun x c st'=>st'=st/\c=(none,x)/\bG rk (Nd st) l0 x) (Q:=fun c st'=>st'=st/\∃ n,c=(none,n)/\a0<=n/\n<=q0/\bG rk (Nd st) l0 n) ?_ ?_ ⟨rfl,rfl,hs⟩) ?_)
 ·rintro x c st1 hx1 hx2 ⟨rfl,rfl,s1⟩
  dsimp only
  refine Nh (fE L hk hS (by lia) (by lia) ?_)
  dsimp only
  by_cases w:R rk (Nd st1) (l0 + x) < R rk (Nd st1) (l0 + x - 1)
  ·rw[decide_eq_true w,if_pos rfl]
   exact Nm ⟨rfl,x,rfl,hx1,by lia,s1⟩
  rw[decide_eq_false w,if_neg (by simp)]
  exact Nm ⟨rfl,rfl,s1.snoc (by lia) (by lia)⟩
 ·rintro c st1 ⟨rfl,rfl,s1⟩
  rw[LM h2]at s1 ⊢
  exact⟨rfl,q0,rfl,h2,d_ _,s1⟩
 rintro c st1 ⟨rfl,n,rfl,g1,g2,g3⟩
 exact Nm (h n g1 g2 g3)
theorem mG{l0 a0 q0:Nat}{st:Nj}{Q:Option Nat->Nj->Prop}(L:cz M A E s kd rk S)(hk:kindOf st=kd)(hS:iL S st)(hsz:l0 + q0<=(Nd st).size)(h1:1<=a0)(h2:a0<=q0)(hs:rh rk (Nd st) l0 a0)
  (h:∀ n st',a0<=n->n<=q0->Within st st' l0 q0->bG rk (Nd st') l0 n->Q (some n) st'):wpS M A E s (oo l0 a0 q0) Q st:=by
 unfold oo
 refine Nh (xH (rk:=rk) (lo:=l0) (n:=q0) (d_ _) (by lia) (by lia) fun st1 W1 r1=>?_)
 refine zg L (W1.kp.k.trans hk) (hS.kp W1.kp) (by rw[W1.kp.size];exact hsz) h1 h2 (fun i j hij hj=>?_) fun n g1 g2 g3=>h n st1 g1 g2 W1 g3
 have hi:=Je hij hj
 rw[r1,r1,if_pos ⟨LJ ..,Li hi l0⟩,if_pos ⟨LJ ..,Li hj l0⟩,Hm hi,Hm hj]
 exact hs (a0 - 1 - j) (a0 - 1 - i) (Nat.sub_le_sub_left hij _) (Je (Jx _ _) (LD h1 J3))
theorem lW{i j lo n:Nat}{st:Nj}{Q:Unit->Nj->Prop}(hl:lo<=i)(hj:j<=lo + n)(hsz:j<=(Nd st).size)(heq:∀ k,i<=k->k < j->R rk (Nd st) k=R rk (Nd st) (j - 1))(h:∀ st',Within st st' lo n->(∀ k,R rk (Nd st') k=R rk (Nd st) k)->Q () st'):wpS M A E s (Pq i j) Q st:=by
 refine xH (rk:=rk) hl hj hsz fun st1 W r1=>h st1 W fun k=>?_
 rw[r1]
 split
 ·rename_i z
  rw[heq k z.1 z.2,heq (i + j - 1 - k) (by(clear r1 W h heq hsz hj hl;lia)) (by(clear r1 W h heq hsz hj hl;lia))]
 rfl
theorem rh.snoc {xs:Array Nc}{lo n:Nat}(h:rh rk xs lo n)(h1:1<=n)(k:R rk xs (lo + n)<=R rk xs (lo + n - 1)):rh rk xs lo (n + 1):=fun i j hij hj=>by
 by_cases z:j < n
 ·exact h i j hij z
 have e:j=n:=by lia
 subst e
 by_cases w:i=j
 ·subst w;exact d_ _
 have:=h i (j - 1) (by lia) (by lia)
 rw[show lo + (j - 1)=lo + j - 1 by lia]at this
 exact z_ k this
theorem mY{l0 a0 q0:Nat}{st:Nj}{Q:Option Nat->Nj->Prop}(L:cz M A E s kd rk S)(hk:kindOf st=kd)(hS:iL S st)(hsz:l0 + q0<=(Nd st).size)(h2:a0 + 1<=q0)(hs:rh rk (Nd st) l0 (a0 + 1))(hr:∀ x,Nb M A (rule x) (fun _ s'=>s'=s) E s)
  (h:∀ n st',1<=n->n<=q0->Within st st' l0 q0->bG rk (Nd st') l0 n->Q (some n) st'):wpS M A E s (oG l0 a0 q0) Q st:=by
 unfold oG
 refine Nh (RF (Nz (hr _) (fun _ _ z=>⟨z,?_⟩) fun _ _ z=>z))
 dsimp only
 refine Nh (Oj (NS (I:=fun x c st'=>∃ eq,c=(none,x,eq)/\Within st st' l0 q0/\rh rk (Nd st') l0 x/\eq + 1<=x/\∀ k,x - 1 - eq<=k->k < x->R rk (Nd st') (l0 + k)=R rk (Nd st') (l0 + (x - 1)))
  (Q:=fun c st'=>∃ n eq,c=(none,n,eq)/\a0 + 1<=n/\n<=q0/\Within st st' l0 q0/\rh rk (Nd st') l0 n/\eq + 1<=n/\∀ k,n - 1 - eq<=k->k < n->R rk (Nd st') (l0 + k)=R rk (Nd st') (l0 + (n - 1))) ?_ ?_ ⟨0,rfl,.bq,hs,by lia,fun k h1 h2=>by rw[show k=a0 + 1 - 1 by lia]⟩) ?_)
 ·rintro x c st1 hx1 hx2 ⟨eq,rfl,W,d1,e1,ev⟩
  dsimp only
  have hk1:=W.kp.k.trans hk
  have hS1:=hS.kp W.kp
  have sz1:=W.kp.size
  have x1:1<=x:=z_ (MF 1 eq) e1
  have b1:l0 + x < (Nd st1).size:=by lia
  have b2:l0 + x - 1 < (Nd st1).size:=Je (Jx ..) b1
  refine Nh (fE L hk1 hS1 b1 b2 ?_)
  dsimp only
  by_cases w:R rk (Nd st1) (l0 + x) < R rk (Nd st1) (l0 + x - 1)
  ·rw[decide_eq_true w,if_pos rfl]
   have fin:∀ st2,Within st st2 l0 q0->(∀ k,R rk (Nd st2) k=R rk (Nd st1) k)->∃ eq',((none,x + 1,0):Option (Option Nat) × Nat × Nat)=(none,x + 1,eq')/\Within st st2 l0 q0/\rh rk (Nd st2) l0 (x + 1)/\eq' + 1<=x + 1/\∀ k,x + 1 - 1 - eq'<=k->k < x + 1->R rk (Nd st2) (l0 + k)=R rk (Nd st2) (l0 + (x + 1 - 1)):=fun st2 W2 r2=>by
    refine⟨0,rfl,W2,fun i j hij hj=>?_,by lia,fun k h1 h2=>by rw[show k=x + 1 - 1 by lia]⟩
    rw[r2,r2]
    exact d1.snoc x1 (IJ w) i j hij hj
   by_cases z:eq > 0
   ·rw[if_pos z]
    refine Nh (lW (rk:=rk) (lo:=l0) (n:=q0) (by lia) (by lia) (by lia) (fun k h1 h2=>?_) fun st2 W2 r2=>Nm (fin st2 (W.trans W2) r2))
    have k0:l0<=k:=by lia
    have:=ev (k - l0) (by lia) (Dw k0 h2)
    rw[ES k0,wH x1]at this
    exact this
   rw[if_neg z]
   exact Nm (fin st1 W fun _=>rfl)
  rw[decide_eq_false w,if_neg (by simp)]
  refine Nh (fE L hk1 hS1 b2 b1 ?_)
  dsimp only
  by_cases v:R rk (Nd st1) (l0 + x - 1) < R rk (Nd st1) (l0 + x)
  ·rw[decide_eq_true v,if_pos rfl]
   exact Nm ⟨x,eq,rfl,hx1,by lia,W,d1,e1,ev⟩
  rw[decide_eq_false v,if_neg (by simp)]
  have ee:R rk (Nd st1) (l0 + x)=R rk (Nd st1) (l0 + x - 1):=MG (IU v) (IU w)
  refine Nm ⟨eq + 1,rfl,W,d1.snoc x1 (Kz ee),by lia,fun k h1 h2=>?_⟩
  rw[show l0 + (x + 1 - 1)=l0 + x by lia]
  by_cases y:k=x
  ·rw[y]
  have:=ev k (by lia) (by lia)
  rw[wH x1]at this
  exact this.trans ee.symm
 ·rintro c st1 ⟨eq,rfl,W,d1,e1,ev⟩
  rw[LM h2]at d1 e1 ev ⊢
  exact⟨q0,eq,rfl,h2,d_ _,W,d1,e1,ev⟩
 rintro c st1 ⟨n,eq,rfl,g1,g2,W,d1,e1,ev⟩
 have sz1:=W.kp.size
 dsimp only
 by_cases z:eq > 0
 ·rw[if_pos z]
  refine Nh (lW (rk:=rk) (lo:=l0) (n:=q0) (by lia) (by lia) (by lia) (fun k h1 h2=>?_) fun st2 W2 r2=>?_)
  ·have k0:l0<=k:=by lia
   have:=ev (k - l0) (by lia) (Dw k0 h2)
   rw[ES k0,wH (z_ (MF 1 eq) e1)]at this
   exact this
  refine mG L ((W.trans W2).kp.k.trans hk) (hS.kp (W.trans W2).kp) (by rw[(W.trans W2).kp.size];exact hsz) (by lia) g2 (fun i j hij hj=>by rw[r2,r2];exact d1 i j hij hj) fun m st3 k1 k2 W3 s3=>h m st3 (by lia) k2 ((W.trans W2).trans W3) s3
 rw[if_neg z]
 exact mG L (W.kp.k.trans hk) (hS.kp W.kp) (by rw[sz1];exact hsz) (by lia) g2 d1 fun m st3 k1 k2 W3 s3=>h m st3 (by lia) k2 (W.trans W3) s3
theorem rX{l0 q0:Nat}{st:Nj}{Q:Option Nat->Nj->Prop}(L:cz M A E s kd rk S)(hk:kindOf st=kd)(hS:iL S st)(hsz:l0 + q0<=(Nd st).size)(h1:1<=q0)(hr:∀ x,Nb M A (rule x) (fun _ s'=>s'=s) E s)
  (h:∀ n st',1<=n->n<=q0->Within st st' l0 q0->bG rk (Nd st') l0 n->Q (some n) st'):wpS M A E s (TC l0 q0) Q st:=by
 rw[FZ]
 dsimp only
 refine Nh (Oj (NS (I:=fun x c st'=>st'=st/\c=(none,x)/\bG rk (Nd st) l0 x) (Q:=fun c st'=>st'=st/\∃ n,c=(none,n)/\1<=n/\n<=q0/\bG rk (Nd st) l0 n/\(n=q0\/R rk (Nd st) (l0 + n) < R rk (Nd st) (l0 + n - 1))) ?_ ?_ ⟨rfl,rfl,fun i j h1 h2=>by rw[show i=j by lia];exact d_ _⟩) ?_)
 ·rintro x c st1 hx1 hx2 ⟨rfl,rfl,s1⟩
  dsimp only
  refine Nh (fE L hk hS (by lia) (by lia) ?_)
  dsimp only
  by_cases w:R rk (Nd st1) (l0 + x) < R rk (Nd st1) (l0 + x - 1)
  ·rw[decide_eq_true w,if_pos rfl]
   exact Nm ⟨rfl,x,rfl,hx1,by lia,s1,.inr w⟩
  rw[decide_eq_false w,if_neg (by simp)]
  exact Nm ⟨rfl,rfl,s1.snoc (by(clear w s1 h hsz hS hk hx2 hr h1 L;omega)) (by lia)⟩
 ·rintro c st1 ⟨rfl,rfl,s1⟩
  rw[LM h1]at s1 ⊢
  exact⟨rfl,q0,rfl,h1,d_ _,s1,.inl rfl⟩
 rintro c st1 ⟨rfl,n,rfl,g1,g2,g3,g4⟩
 dsimp only
 by_cases e:n=q0
 ·rw[if_pos (by rw[e];exact beq_self_eq_true _)]
  exact Nm (h n st1 g1 g2 .bq g3)
 rw[if_neg (by simpa using e)]
 have lt:=g4.resolve_left e
 by_cases z:n > 1
 ·rw[if_pos z]
  refine Nh (fE L hk hS (by lia) (by(clear lt e g4 g3 g1 h hS hk hr h1 L;lia)) ?_)
  dsimp only
  by_cases w:R rk (Nd st1) l0 < R rk (Nd st1) (l0 + n - 1)
  ·rw[decide_eq_true w,if_pos rfl]
   exact Nm (h n st1 g1 g2 .bq g3)
  rw[decide_eq_false w,if_neg (by simp)]
  have all:∀ k,l0<=k->k < l0 + n->R rk (Nd st1) k=R rk (Nd st1) (l0 + n - 1):=fun k h1 h2=>by
   have kn:=Dw h1 h2
   have a:=g3 0 (k - l0) (F_ _) kn
   have b:=g3 (k - l0) (n - 1) (Lb kn) (LD g1 J3)
   rw[ES h1]at a b
   rw[wH g1]at b
   rw[LN]at a
   exact MG b (z_ (IU w) a)
  refine Nh (lW (rk:=rk) (lo:=l0) (n:=q0) (d_ _) (by(clear all w z lt e g4 g3 g1 h hsz hS hk hr h1 L;lia)) (by(clear all w z lt e g4 g3 g1 h hS hk hr h1 L;lia)) all fun st2 W2 r2=>?_)
  refine mY L (W2.kp.k.trans hk) (hS.kp W2.kp) (by rw[W2.kp.size];exact hsz) (by lia) (fun i j hij hj=>?_) hr fun m st3 k1 k2 W3 s3=>h m st3 k1 k2 (W2.trans W3) s3
  rw[r2,r2]
  by_cases y:j < n
  ·rw[all (l0 + i) (by lia) (by lia),all (l0 + j) (by lia) (by(clear hj hij r2 W2 all w z lt e g4 g3 g2 g1 h hsz hS hk hr h1 L;lia))]
   exact d_ _
  rw[show j=n by lia]
  by_cases y2:i < n
  ·rw[all (l0 + i) (by lia) (by(clear y hj hij r2 W2 all w z lt e g4 g3 g2 g1 h hsz hS hk hr h1 L;lia))];exact IJ lt
  rw[show i=n by(clear y r2 W2 all w z lt e g4 g3 g2 g1 h hsz hS hk hr h1 L;lia)];exact d_ _
 rw[if_neg z]
 have n1:n=1:=by lia
 subst n1
 refine mY L hk hS hsz (by lia) (fun i j hij hj=>?_) hr fun m st3 k1 k2 W3 s3=>h m st3 k1 k2 W3 s3
 by_cases y:i=j
 ·rw[y];exact d_ _
 rw[show i=0 by lia,show j=1 by lia]
 exact IJ lt
end
def wrote(xs:Array Nc)(q:Nat)(ys:Array Nc):Array Nc:=ys.toList.zipIdx.foldl (fun u (p,j)=>u.setIfInBounds (q + j) p) xs
theorem En(i:Nat):RG i=(do
 let st <-get
 let (some (s1,n1,pw),some (s2,n2,_)):=((Nt st)[i]?,(Nt st)[i + 1]?) | unsupported "internal:list.sort.pending"
 set (OX (kindOf st) (Nd st) (((Nt st).setIfInBounds i (s1,n1 + n2,pw)).eraseIdxIfInBounds (i + 1)) (QW st) (NU st))
 let some k <-gal false (<-NT (Nd st) s2) (Nd st) s1 n1 0 | return false
 let (s1,n1):=(s1 + k,n1 - k)
 if n1 == 0 then return true
 let some n2 <-gal true (<-NT (Nd st) (s1 + n1 - 1)) (Nd st) s2 n2 (n2 - 1) | return false
 if n2 == 0 then return true
 let x:=(Nd st).extract s1 s2
 let y:=(Nd st).extract s2 (s2 + n2)
 let mm <-if n1<=n2 then mLo x y else mHi x y
 modify fun z=>setArr z (wrote (Nd z) s1 mm)
 return (NU (<-get)).isNone):=rfl
theorem mK(q:Nat):∀(l:List Nc) (n:Nat) (xs:Array Nc),q + n + l.length<=xs.size->((l.zipIdx n).foldl (fun u (p,j)=>u.setIfInBounds (q + j) p) xs).toList=xs.toList.take (q + n)++(l++xs.toList.drop (q + n + l.length))
 | [],n,xs,_=>by
  simp
 | p::t,n,xs,h=>by
  rw[o_]at h
  rw[LH,Kt,mK q t (n + 1) _ (by rw[LO];lia),Ly]
  have hl:q + n < xs.toList.length:=by rw[gV];lia
  rw[show q + (n + 1)=q + n + 1 by lia,Jn,List.take_set_of_le (d_ _),Jq hl,List.drop_set_of_lt (by lia),o_,show q + n + 1 + t.length=q + n + (t.length + 1) by lia]
  simp
theorem sI{xs ys:Array Nc}{q:Nat}(h:q + ys.size<=xs.size):(wrote xs q ys).toList=xs.toList.take q++(ys.toList++xs.toList.drop (q + ys.size)):=by
 have:=mK q ys.toList 0 xs (by rw[gV];exact h)
 rw[gV]at this
 exact this
theorem xC{a b c:List Nc}{i:Nat}(h:a.length=b.length)(hi:a.length<=i):(a++c)[i]?=(b++c)[i]?:=by rw[IT hi,IT (by lia),h]
section
variable{rk:Nc->Nat}
theorem vo{xs:Array Nc}{i:Nat}{p:Nc}(h:xs.toList[i]?=some p):R rk xs i=rk p:=by
 unfold R
 rw[<-fk,h]
theorem dU{xs:Array Nc}{lo n:Nat}(h:bG rk xs lo n):Srt rk ((xs.toList.drop lo).take n):=by
 refine Kx.mpr fun i j hi hj hij=>?_
 have hj':j < n:=by rw[D']at hj;lia
 have ei:=a_ hi
 have ej:=a_ hj
 rw[JZ,if_pos (by lia),JY]at ei ej
 have:=h i j (by lia) hj'
 rw[vo ei,vo ej]at this
 exact this
theorem pB{l k n:Nat}(h:k<=n):l + k + (n - k)=l + n:=by rw[K0,Ks h]
theorem xg{xs:Array Nc}{lo n:Nat}(hn:lo + n<=xs.size)(h:Srt rk ((xs.toList.drop lo).take n)):bG rk xs lo n:=by
 intro i j hij hj
 by_cases e:i=j
 ·rw[e];exact d_ _
 have len:((xs.toList.drop lo).take n).length=n:=by rw[D',IS,gV];lia
 have hi':i < ((xs.toList.drop lo).take n).length:=by lia
 have hj':j < ((xs.toList.drop lo).take n).length:=by lia
 have:=Kx.mp h i j hi' hj' (by lia)
 have ei:=a_ hi'
 have ej:=a_ hj'
 rw[JZ,if_pos (by lia),JY]at ei ej
 rw[vo ei,vo ej]
 exact this
theorem qW{xs:Array Nc}{lo n m:Nat}(h1:bG rk xs lo n)(h2:bG rk xs (lo + n) m)(h:∀ i j,i < n->j < m->R rk xs (lo + i)<=R rk xs (lo + n + j)):bG rk xs lo (n + m):=by
 intro i j hij hj
 by_cases z:j < n
 ·exact h1 i j hij z
 by_cases w:i < n
 ·have:=h i (j - n) w (Kw (IU z) hj)
  rw[pB (IU z)]at this
  exact this
 have:=h2 (i - n) (j - n) (Md hij n) (Kw (IU z) hj)
 rw[pB (IU z),pB (IU w)]at this
 exact this
theorem i8{T:List Nc}{lo k n:Nat}(h:k<=n):(T.drop lo).take n=(T.drop lo).take k++(T.drop (lo + k)).take (n - k):=by
 conv=>lhs;rw[show n=k + (n - k)from(Ks h).symm,Lx,KL]
theorem merged{xs r:Array Nc}{lo k n m c:Nat}(hk:k<=n)(hc:c<=m)(hsz:lo + n + m<=xs.size)(o1:bG rk xs lo n)(o2:bG rk xs (lo + n) m)
  (a1:∀ p∈(xs.toList.drop lo).take k,∀ q∈(xs.toList.drop (lo + n)).take m,rk p<=rk q) (a2:∀ p∈(xs.toList.drop lo).take n,∀ q∈(xs.toList.drop (lo + n + c)).take (m - c),rk p<=rk q)
  (hr:Res rk ((xs.toList.drop (lo + k)).take (n - k)) ((xs.toList.drop (lo + n)).take c) r.toList) :
  (wrote xs (lo + k) r).Perm xs/\(∀ i,(i < lo\/lo + n + m<=i)->(wrote xs (lo + k) r)[i]?=xs[i]?)/\bG rk (wrote xs (lo + k) r) lo (n + m):=by
 have lr:r.size=n - k + c:=by
  have:=hr.1.length_eq
  rw[j_,D',D',IS,IS,gV,gV]at this
  lia
 have wl:(wrote xs (lo + k) r).toList=xs.toList.take lo++((xs.toList.drop lo).take k++(r.toList++((xs.toList.drop (lo + n + c)).take (m - c)++xs.toList.drop (lo + n + m)))):=by
  rw[sI (by lia),Lx,h_,lr,<-K0,pB hk]
  congr 3
  have:=(IF (m - c) (xs.toList.drop (lo + n + c))).symm
  rw[KL,pB hc]at this
  exact this
 have xl:xs.toList=xs.toList.take lo++((xs.toList.drop lo).take k++((xs.toList.drop (lo + k)).take (n - k)++(xs.toList.drop (lo + n)).take c++((xs.toList.drop (lo + n + c)).take (m - c)++xs.toList.drop (lo + n + m)))):=by
  have e1:=(IF lo xs.toList).symm
  have e2:=(IF k (xs.toList.drop lo)).symm
  have e3:=(IF (n - k) (xs.toList.drop (lo + k))).symm
  have e4:=(IF c (xs.toList.drop (lo + n))).symm
  have e5:=(IF (m - c) (xs.toList.drop (lo + n + c))).symm
  rw[KL]at e2 e3 e4 e5
  rw[pB hk]at e3
  rw[pB hc]at e5
  rw[h_,<-e5,<-e4,<-e3,<-e2,<-e1]
 have sz:(wrote xs (lo + k) r).size=xs.size:=by
  have:=congrArg Lm wl
  have h2:=congrArg Lm xl
  have h3:=hr.1.length_eq
  simp only[j_]at this h2 h3
  have e1:=@gV _ (wrote xs (lo + k) r)
  have e2:=@gV _ xs
  lia
 have X:(xs.toList.drop lo).take n=(xs.toList.drop lo).take k++(xs.toList.drop (lo + k)).take (n - k):=i8 hk
 have Y:(xs.toList.drop (lo + n)).take m=(xs.toList.drop (lo + n)).take c++(xs.toList.drop (lo + n + c)).take (m - c):=i8 hc
 have sX:=dU o1
 have sY:=dU o2
 rw[X]at sX
 rw[Y]at sY
 obtain⟨sx1,sx2,sx⟩:=G'.mp sX
 obtain⟨sy1,sy2,sy⟩:=G'.mp sY
 refine⟨JM.mpr ?_,fun i hi=>?_,xg (by lia) ?_⟩
 ·rw[wl]
  conv=>rhs;rw[xl]
  exact IL _ (IL _ (L6 _ hr.1))
 ·rw[<-fk,<-fk,wl]
  conv=>rhs;rw[xl]
  have hl1:(xs.toList.take lo).length=lo:=by rw[D',gV];lia
  rcases hi with hi | hi
  ·rw[Jg (by lia),Jg (by lia)]
  have hl2:((xs.toList.drop lo).take k).length=k:=by rw[D',IS,gV];lia
  have hl3:r.toList.length=n - k + c:=by rw[gV];exact lr
  have hl4:=hr.1.length_eq
  rw[<-h_,<-h_]
  conv=>rhs;rw[<-h_,<-h_]
  refine xC ?_ ?_
  ·rw[j_,j_,j_,j_,hl4]
  rw[j_,j_,hl1,hl2,hl3];lia
 have hl1:(xs.toList.take lo).length=lo:=by rw[D',gV];lia
 have e:((wrote xs (lo + k) r).toList.drop lo).take (n + m)=(xs.toList.drop lo).take k++(r.toList++(xs.toList.drop (lo + n + c)).take (m - c)):=by
  rw[wl,List.drop_left' hl1,<-h_,<-h_,List.take_left',h_]
  rw[j_,j_,D',D',IS,IS,gV,gV]
  lia
 rw[e]
 have mr:∀ q∈r.toList,q∈(xs.toList.drop (lo + k)).take (n - k)\/q∈(xs.toList.drop (lo + n)).take c:=fun q hq=>D_.mp (hr.1.mem_iff.mp hq)
 refine G'.mpr ⟨sx1,G'.mpr ⟨hr.2,sy2,fun p hp q hq=>?_⟩,fun p hp q hq=>?_⟩
 ·rcases mr p hp with hp | hp
  ·exact a2 p (by rw[X];exact n_ _ hp) q hq
  exact sy p hp q hq
 rcases D_.mp hq with hq | hq
 ·rcases mr q hq with hq | hq
  ·exact sx p hp q hq
  exact a1 p hp q (by rw[Y];exact IG _ hq)
 exact a1 p hp q (by rw[Y];exact n_ _ hq)
end
theorem Bh{α:Type}{ps:Array α}{pre post:List α}{x y:α}(h:ps.toList=pre++x::y::post):ps[pre.length]?=some x/\ps[pre.length + 1]?=some y:=by
 rw[<-fk,<-fk,h]
 constructor
 ·rw[IT (d_ _),KC];rfl
 rw[IT (by lia),KN];rfl
theorem wM{α:Type}{ps:Array α}{pre post:List α}{x y z:α}(h:ps.toList=pre++x::y::post):((ps.setIfInBounds pre.length z).eraseIdxIfInBounds (pre.length + 1)).toList=pre++z::post:=by
 have hs:ps.size=pre.length + (post.length + 2):=by rw[<-gV,h,j_];rfl
 have hb:pre.length + 1 < (ps.setIfInBounds pre.length z).size:=by rw[LO];lia
 unfold Array.eraseIdxIfInBounds
 rw[dif_pos hb,Array.toList_eraseIdx,Ly,h]
 rw[List.set_append_right _ _ (d_ _),KC,Mk,KY (by lia),KN]
 rfl
section
variable{M:Pf}{A:Nw}{E:M7->M_->Prop}{s:M_}{kd:O5}{rk:Nc->Nat}{S:Nc->Prop}
theorem Et{σ:Type}{v st:σ}{Q:PUnit->σ->Prop}(q:Q ⟨⟩ v):wpS M A E s (set v:StateT σ Sem PUnit) Q st:=by
 unfold wpS
 rw[StateT.run_set]
 exact M' ⟨rfl,q⟩
structure Mgd (rk:Nc->Nat) (st st':Nj) (lo n:Nat) (ps:List (Nat × Nat × Nat)):Prop where
 k:kindOf st'=kindOf st
 f:NU st'=none
 p:(Nt st').toList=ps
 a:(Nd st').Perm (Nd st)
 out:∀ i,(i < lo\/lo + n<=i)->(Nd st')[i]?=(Nd st)[i]?
 srt:bG rk (Nd st') lo n
theorem Fo{pre post:List (Nat × Nat × Nat)}{s1 n1 pw n2 p2:Nat}{st:Nj}{Q:Bool->Nj->Prop}(L:cz M A E s kd rk S)(hk:kindOf st=kd)(hS:iL S st)(hf:NU st=none)(hr:∀ x,Nb M A (rule x) (fun _ s'=>s'=s) E s)
  (hp:(Nt st).toList=pre++(s1,n1,pw)::(s1 + n1,n2,p2)::post) (h1:1<=n1) (h2:1<=n2) (hsz:s1 + n1 + n2<=(Nd st).size) (o1:bG rk (Nd st) s1 n1) (o2:bG rk (Nd st) (s1 + n1) n2)
  (h:∀ st',Mgd rk st st' s1 (n1 + n2) (pre++(s1,n1 + n2,pw)::post)->Q true st'):wpS M A E s (RG pre.length) Q st:=by
 rw[En]
 refine Nh (PU ?_)
 dsimp only
 obtain⟨e1,e2⟩:=Bh hp
 rw[e1,e2]
 dsimp only
 refine Nh (Et ?_)
 generalize hst1:OX (kindOf st) (Nd st) (((Nt st).setIfInBounds pre.length (s1,n1 + n2,pw)).eraseIdxIfInBounds (pre.length + 1)) (QW st) (NU st)=st1
 have k1:kindOf st1=kd:=by rw[<-hst1];exact hk
 have a1:Nd st1=Nd st:=by rw[<-hst1]
 have f1:NU st1=none:=by rw[<-hst1];exact hf
 have p1:(Nt st1).toList=pre++(s1,n1 + n2,pw)::post:=by rw[<-hst1];exact wM hp
 have SA:∀(i:Nat) p,(Nd st)[i]?=some p->S p:=fun i p e=>hS.at e
 have gt:∀ i,i < (Nd st).size->∃ p,(Nd st)[i]?=some p:=fun i hi=>⟨_,g_ hi⟩
 have RR:∀ {i:Nat} {p:Nc},(Nd st)[i]?=some p->R rk (Nd st) i=rk p:=fun{i p} e=>by unfold R;rw[e]
 obtain⟨ky,hky⟩:=gt (s1 + n1) (by lia)
 have gI:bG rk (Nd st) s1 (n1 + n2)->Q true st1:=fun z=>h st1 ⟨k1.trans hk.symm,f1,p1,by rw[a1],fun i _=>by rw[a1],by rw[a1];exact z⟩
 refine Nh (aL hky (Nh (fm L k1 (by lia) (by lia) SA (SA _ _ hky) (fun i j p q hij hj hp hq=>?_) fun k hk1 g1 g2=>?_)))
 ·have:=o1 i j hij hj
  rw[RR hp,RR hq]at this
  exact this
 dsimp only
 have below:∀ i,i < k->∀ j,j < n2->R rk (Nd st) (s1 + i)<=R rk (Nd st) (s1 + n1 + j):=fun i hi j hj=>by
  obtain⟨p,hp⟩:=gt (s1 + i) (by lia)
  have a:=g1 i p hi hp
  rw[if_neg (by simp)]at a
  have b:=o2 0 j (F_ _) hj
  rw[LN,RR hky]at b
  rw[RR hp]
  exact z_ a b
 by_cases z:n1 - k=0
 ·rw[if_pos (by rw[z];rfl)]
  exact Nm (gI (qW o1 o2 fun i j hi hj=>below i (by lia) j hj))
 rw[if_neg (by simpa using z)]
 obtain⟨la,hla⟩:=gt (s1 + n1 - 1) (by lia)
 rw[pB hk1]
 refine Nh (aL hla (Nh (fm L k1 (by lia) (by omega) SA (SA _ _ hla) (fun i j p q hij hj hp hq=>?_) fun c hc1 d1 d2=>?_)))
 ·have:=o2 i j hij hj
  rw[RR hp,RR hq]at this
  exact this
 dsimp only
 have above:∀ i,i < n1->∀ j,c<=j->j < n2->R rk (Nd st) (s1 + i)<=R rk (Nd st) (s1 + n1 + j):=fun i hi j hj hj2=>by
  obtain⟨p,hp⟩:=gt (s1 + n1 + j) (by lia)
  have a:=d2 j p hj hj2 hp
  rw[if_pos rfl]at a
  have hn1:1<=n1:=by lia
  have b:=o1 i (n1 - 1) (by lia) (LD hn1 J3)
  rw[wH hn1,RR hla]at b
  rw[RR hp]
  exact z_ b a
 by_cases w:c=0
 ·rw[if_pos (by rw[w];rfl)]
  exact Nm (gI (qW o1 o2 fun i j hi hj=>above i hi j (by lia) hj))
 rw[if_neg (by simpa using w)]
 have ex:((Nd st).extract (s1 + k) (s1 + n1)).toList=((Nd st).toList.drop (s1 + k)).take (n1 - k):=by
  have:=iq (Nd st) (s1 + k) (n1 - k)
  rw[pB hk1]at this
  exact this
 have ey:=iq (Nd st) (s1 + n1) c
 have zx:((Nd st).extract (s1 + k) (s1 + n1)).size=n1 - k:=by rw[Ml];lia
 have zy:((Nd st).extract (s1 + n1) (s1 + n1 + c)).size=c:=by rw[Ml];lia
 have T2:∀ {i:Nat} {p:Nc},(Nd st).toList[i]?=some p->(Nd st)[i]?=some p:=fun{i p} e=>by rw[fk]at e;exact e
 have sX:=dU o1
 have sY:=dU o2
 rw[i8 hk1]at sX
 rw[i8 hc1]at sY
 have H:LoOk rk S ((Nd st).extract (s1 + k) (s1 + n1)) ((Nd st).extract (s1 + n1) (s1 + n1 + c)):=by
  refine⟨by rw[ex];exact(G'.mp sX).2.1,by rw[ey];exact(G'.mp sY).1,fun i p e=>?_,fun i p e=>?_,by lia,by lia,fun p e u hu=>?_,fun p e u hu=>?_⟩
  ·rw[J4]at e
   split at e
   ·exact SA _ _ e
   cases e
  ·rw[J4]at e
   split at e
   ·exact SA _ _ e
   cases e
  ·rw[J4,if_pos (by lia),LN,hky]at e
   cases e
   rw[ex]at hu
   obtain⟨j,hj,ej⟩:=cq hu
   have:=g2 (k + j) u (by lia) (by lia) (by rw[<-K0];exact T2 ej)
   rw[if_neg (by simp)]at this
   exact IJ this
  rw[zx,J4,if_pos (by lia),show s1 + k + (n1 - k - 1)=s1 + n1 - 1 by lia,hla]at e
  cases e
  rw[ey]at hu
  obtain⟨j,hj,ej⟩:=cq hu
  have:=d1 j u hj (T2 ej)
  rw[if_pos rfl]at this
  exact IJ this
 have fin:∀ r st2,Keep st1 st2->Res rk ((Nd st).extract (s1 + k) (s1 + n1)).toList ((Nd st).extract (s1 + n1) (s1 + n1 + c)).toList r.toList->wpS M A E s (do
   modify fun z=>setArr z (wrote (Nd z) (s1 + k) r)
   let g <-get
   pure (NU g).isNone:StateT Nj Sem Bool) Q st2:=fun r st2 K hres=>by
  rw[ex,ey]at hres
  refine Nh (Qi (Nh (PU (Nm ?_))))
  have hf2:NU st2=none:=K.f.trans f1
  have aa:Nd st2=Nd st:=K.a.trans a1
  have q1:∀ p∈((Nd st).toList.drop s1).take k,∀ q∈((Nd st).toList.drop (s1 + n1)).take n2,rk p<=rk q:=fun p hp q hq=>by
   obtain⟨i,hi,ei⟩:=cq hp
   obtain⟨j,hj,ej⟩:=cq hq
   have:=below i hi j hj
   rw[RR (T2 ei),RR (T2 ej)]at this
   exact this
  have q2:∀ p∈((Nd st).toList.drop s1).take n1,∀ q∈((Nd st).toList.drop (s1 + n1 + c)).take (n2 - c),rk p<=rk q:=fun p hp q hq=>by
   obtain⟨i,hi,ei⟩:=cq hp
   obtain⟨j,hj,ej⟩:=cq hq
   have:=above i hi (c + j) (by lia) (by lia)
   rw[<-K0,RR (T2 ei),RR (T2 ej)]at this
   exact this
  obtain⟨m1,m2,m3⟩:=merged (rk:=rk) (xs:=Nd st) (r:=r) (lo:=s1) (k:=k) (n:=n1) (m:=n2) (c:=c) hk1 hc1 (by omega) o1 o2 q1 q2 hres
  rw[show(NU (setArr st2 (wrote (Nd st2) (s1 + k) r))).isNone=true by show(NU st2).isNone=true;rw[hf2];rfl]
  refine h _ ⟨K.k.trans (k1.trans hk.symm),hf2,?_,?_,fun i hi=>?_,?_⟩
  ·show(Nt st2).toList=_
   rw[K.p]
   exact p1
  ·show(wrote (Nd st2) (s1 + k) r).Perm _
   rw[aa]
   exact m1
  ·show(wrote (Nd st2) (s1 + k) r)[i]?=_
   rw[aa]
   exact m2 i (by lia)
  show bG rk (wrote (Nd st2) (s1 + k) r) _ _
  rw[aa]
  exact m3
 by_cases v:n1 - k<=c
 ·rw[if_pos v]
  exact Nh (Dk L H k1 fin hr)
 rw[if_neg v]
 exact Nh (Fu L H k1 fin hr)
end
abbrev CS:=Option Unit × Unit
abbrev LS:=Option Unit × Nat
noncomputable def jX(w0:Nat):StateT Nj Sem (ForInStep CS):=do
 let g <-get
 match(if(Nt g).size > 1 then(Nt g)[(Nt g).size - 2]? else none)with
 | some (_,_,old)=>
  if old<=w0 then pure (Nk (none,()))
  else do
   let b <-RG ((Nt g).size - 2)
   if(!b)=true then pure (Nk (some (),()))else pure (Nv (none,()))
 | _=>pure (Nk (none,()))
noncomputable def nX(q0 n:Nat):StateT Nj Sem (ForInStep LS):=do
 modify fun z=>setPending z ((Nt z).push (q0,n,0))
 pure (Nv (none,q0 + n))
noncomputable def tl(sz q0 n:Nat):StateT Nj Sem (ForInStep LS):=do
 let g <-get
 match(Nt g).back? with
 | some (s1,n1,_)=>do
  let c <-forIn [0:sz] ((none,()):CS) fun _ _=>jX (power' sz (2 * s1 + n1) (2 * s1 + n1 + n1 + n) sz)
  match c.1 with
  | some r=>pure (Nk (some r,q0))
  | none=>do
   modify fun z=>setPending z ((Nt z).modify ((Nt z).size - 1) fun x=>(x.1,x.2.1,power' sz (2 * s1 + n1) (2 * s1 + n1 + n1 + n) sz))
   nX q0 n
 | _=>nX q0 n
noncomputable def gB(sz q0:Nat):StateT Nj Sem (ForInStep LS):=
 if q0>=sz then pure (Nk (none,q0))else do
  let f <-TC q0 (sz - q0)
  match f with
  | some n=>
   if n < R7 sz sz 0 then do
    rule "list.sort.binary-insertion"
    let b <-U5 q0 (min (sz - q0) (R7 sz sz 0)) n
    if(!b)=true then pure (Nk (some (),q0))else tl sz q0 (min (sz - q0) (R7 sz sz 0))
   else tl sz q0 n
  | _=>pure (Nk (some (),q0))
noncomputable def pick(ps:Array (Nat × Nat × Nat)):Nat:=
 if M3 (fun x=>decide (x < ps[ps.size - 2 + 1]?.elim 0 fun y=>y.2.1)) (if ps.size - 2 > 0 then J2 (fun y=>y.2.1) ps[ps.size - 2 - 1]? else none)=true then ps.size - 2 - 1 else ps.size - 2
noncomputable def vy:StateT Nj Sem (ForInStep CS):=do
 let g <-get
 if(Nt g).size<=1 then pure (Nk (none,()))
 else do
  let b <-RG (pick (Nt g))
  if(!b)=true then pure (Nk (some (),()))else pure (Nv (none,()))
theorem Gw:sortRuns'=(do
 let g <-get
 let c <-forIn [0:(Nd g).size] ((none,0):LS) fun _ c=>gB (Nd g).size c.2
 match c.1 with
 | some r=>pure r
 | none=>do
  let d <-forIn [0:(Nd g).size] ((none,()):CS) fun _ _=>vy
  match d.1 with
  | some r=>pure r
  | none=>pure ()):=by
 rw[sortRuns'_eq]
 dsimp only
 refine congrArg (bind get) (funext fun g=>?_)
 refine congr (congrArg bind ?_) (funext fun c=>?_)
 ·refine congrArg (forIn _ _) (funext fun _=>funext fun c=>?_)
  unfold gB
  refine ite_congr rfl (fun _=>rfl) (fun _=>?_)
  refine congrArg (bind _) (funext fun f=>?_)
  cases f with
  | none=>rfl
  | some n=>
   dsimp only
   refine ite_congr rfl (fun _=>congrArg (bind _) (funext fun _=>congrArg (bind _) (funext fun b=>ite_congr rfl (fun _=>rfl) (fun _=>?_)))) (fun _=>?_)
   all_goals
    unfold tl
    refine congrArg (bind _) (funext fun g=>?_)
    generalize (Nt g).back?=bk
    rcases bk with _ | ⟨s1,n1,z⟩
    ·rfl
    dsimp only
    refine congr (congrArg bind ?_) (funext fun c=>?_)
    ·refine congrArg (forIn _ _) (funext fun _=>funext fun c=>?_)
     unfold jX
     refine congrArg (bind _) (funext fun g=>?_)
     generalize (if(Nt g).size > 1 then(Nt g)[(Nt g).size - 2]? else none)=o
     rcases o with _ | ⟨_,_,_⟩ <;> rfl
    rcases c with⟨_ | _,_⟩ <;> rfl
 rcases c with⟨_ | _,_⟩
 ·dsimp only
  refine congr (congrArg bind ?_) (funext fun c=>?_)
  ·rfl
  rcases c with⟨_ | _,_⟩ <;> rfl
 rfl
noncomputable def Pd(rk:Nc->Nat)(xs:Array Nc):List (Nat × Nat × Nat)->Nat->Nat->Prop
 | [],a,b=>a=b
 | (c,n,_)::t,a,b=>c=a/\1<=n/\bG rk xs c n/\Pd rk xs t (a + n) b
section
variable{rk:Nc->Nat}
theorem Pd.le {xs:Array Nc}:∀ {l:List (Nat × Nat × Nat)} {a b:Nat},Pd rk xs l a b->a + l.length<=b
 | [],_,_,h=>Kz h
 | (c,n,_)::t,a,b,h=>by
  have:=h.2.2.2.le
  have:=h.2.1
  rw[o_]
  lia
theorem Pd.congr {xs ys:Array Nc}:∀ {l:List (Nat × Nat × Nat)} {a b:Nat},Pd rk xs l a b->(∀ i,a<=i->i < b->R rk ys i=R rk xs i)->Pd rk ys l a b
 | [],_,_,h,_=>h
 | (c,n,_)::t,a,b,h,e=>by
  have le:=h.2.2.2.le
  have ca:=h.1
  refine⟨h.1,h.2.1,fun i j hij hj=>?_,h.2.2.2.congr fun i h1 h2=>e i (by lia) h2⟩
  rw[e _ (by lia) (by lia),e _ (by lia) (by lia)]
  exact h.2.2.1 i j hij hj
theorem d7{xs:Array Nc}:∀ {l m:List (Nat × Nat × Nat)} {a b:Nat},Pd rk xs (l++m) a b↔∃ c,Pd rk xs l a c/\Pd rk xs m c b
 | [],m,a,b=>⟨fun h=>⟨a,rfl,h⟩,fun⟨c,e,h⟩=>by cases (show a=c from e);exact h⟩
 | (c,n,_)::t,m,a,b=>⟨fun h=>by
   obtain⟨d,h1,h2⟩:=d7.mp h.2.2.2
   exact⟨d,⟨h.1,h.2.1,h.2.2.1,h1⟩,h2⟩,fun⟨d,h,h2⟩=>⟨h.1,h.2.1,h.2.2.1,d7.mpr ⟨d,h.2.2.2,h2⟩⟩⟩
theorem Pd.modify {xs:Array Nc}{w0:Nat}:∀ {l:List (Nat × Nat × Nat)} {i a b:Nat},Pd rk xs l a b->Pd rk xs (l.modify i fun x=>(x.1,x.2.1,w0)) a b
 | [],i,_,_,h=>by cases i <;> exact h
 | (c,n,_)::t,0,a,b,h=>⟨h.1,h.2.1,h.2.2.1,h.2.2.2⟩
 | (c,n,_)::t,i + 1,a,b,h=>⟨h.1,h.2.1,h.2.2.1,h.2.2.2.modify⟩
theorem nO{α:Type}:∀ {l:List α} {i:Nat},i + 1 < l.length->∃ pre x y post,l=pre++x::y::post/\pre.length=i
 | x::y::t,0,_=>⟨[],x,y,t,rfl,rfl⟩
 | [_],0,h=>absurd h (by simp)
 | x::t,i + 1,h=>by
  obtain⟨p,a,b,q,e,f⟩:=nO (l:=t) (i:=i) (by rw[o_]at h;lia)
  exact⟨x::p,a,b,q,by rw[e];rfl,by rw[o_,f]⟩
 | [],_,h=>absurd h (by simp)
end
section
variable{M:Pf}{A:Nw}{E:M7->M_->Prop}{s:M_}{kd:O5}{rk:Nc->Nat}{S:Nc->Prop}{a0:Array Nc}
structure Iv (kd:O5) (rk:Nc->Nat) (a0:Array Nc) (q0:Nat) (st:Nj):Prop where
 k:kindOf st=kd
 f:NU st=none
 a:(Nd st).Perm a0
 pd:Pd rk (Nd st) (Nt st).toList 0 q0
theorem Iv.all {q0:Nat}{st:Nj}(h:Iv kd rk a0 q0 st)(hS:∀ p∈a0.toList,S p):iL S st:=fun p hp=>hS p ((JM.mp h.a).mem_iff.mp hp)
theorem rQ{q0 i:Nat}{st:Nj}{Q:Bool->Nj->Prop}(L:cz M A E s kd rk S)(hS:∀ p∈a0.toList,S p)(hr:∀ x,Nb M A (rule x) (fun _ s'=>s'=s) E s)(I:Iv kd rk a0 q0 st)(hq:q0<=a0.size)(hi:i + 1 < (Nt st).size)
  (h:∀ st',Iv kd rk a0 q0 st'->(Nt st').size + 1=(Nt st).size->(∀ j,q0<=j->(Nd st')[j]?=(Nd st)[j]?)->Q true st'):wpS M A E s (RG i) Q st:=by
 obtain⟨pre,⟨s1,n1,pw⟩,⟨s2,n2,p2⟩,post,e,el⟩:=nO (l:=(Nt st).toList) (i:=i) (by rw[gV];exact hi)
 subst el
 have P:=I.pd
 rw[e]at P
 obtain⟨c,P1,e1,k1,o1,e2,k2,o2,P3⟩:=d7.mp P
 subst e1
 subst e2
 have le:=P3.le
 have sz:=I.a.size_eq
 refine Fo L I.k (I.all hS) I.f hr e k1 k2 (by lia) o1 o2 fun st' m=>?_
 have same:∀ j,(j < s1\/s1 + n1 + n2<=j)->R rk (Nd st') j=R rk (Nd st) j:=fun j hj=>cC (m.out j (by lia))
 refine h st' ⟨m.k.trans I.k,m.f,m.a.trans I.a,?_⟩ ?_ fun j hj=>m.out j (by lia)
 ·rw[m.p]
  refine d7.mpr ⟨s1,P1.congr fun j _ hj=>same j (by lia),rfl,by lia,m.srt,?_⟩
  rw[<-K0]
  exact P3.congr fun j hj _=>same j (by lia)
 rw[<-gV,<-gV,m.p,e]
 simp only[j_,o_]
 lia
theorem t4{q0 w0:Nat}{st:Nj}{Q:ForInStep CS->Nj->Prop}(L:cz M A E s kd rk S)(hS:∀ p∈a0.toList,S p)(hr:∀ x,Nb M A (rule x) (fun _ s'=>s'=s) E s)(I:Iv kd rk a0 q0 st)(hq:q0<=a0.size)
  (h:∀ st' (d:Bool),Iv kd rk a0 q0 st'->(∀ j,q0<=j->(Nd st')[j]?=(Nd st)[j]?)->Q (if d=true then Nk (none,())else Nv (none,())) st'):wpS M A E s (jX w0) Q st:=by
 unfold jX
 refine Nh (PU ?_)
 generalize ho:(if(Nt st).size > 1 then(Nt st)[(Nt st).size - 2]? else none)=o
 rcases o with _ | ⟨x,y,old⟩
 ·exact Nm (h st true I fun _ _=>rfl)
 dsimp only
 have h1:(Nt st).size > 1:=by
  by_cases z:(Nt st).size > 1
  ·exact z
  rw[if_neg z]at ho;cases ho
 by_cases w:old<=w0
 ·rw[if_pos w]
  exact Nm (h st true I fun _ _=>rfl)
 rw[if_neg w]
 refine Nh (rQ L hS hr I hq (by lia) fun st' I' _ e=>?_)
 rw[if_neg (by simp)]
 exact Nm (h st' false I' e)
theorem nB{q0 n:Nat}{st:Nj}{Q:ForInStep LS->Nj->Prop}(I:Iv kd rk a0 q0 st)(hn:1<=n)(o:bG rk (Nd st) q0 n)(h:∀ st',Iv kd rk a0 (q0 + n) st'->Q (Nv (none,q0 + n)) st'):wpS M A E s (nX q0 n) Q st:=by
 unfold nX
 refine Nh (Qi (Nm (h _ ⟨I.k,I.f,I.a,?_⟩)))
 show Pd rk (Nd st) ((Nt st).push (q0,n,0)).toList 0 (q0 + n)
 rw[Jz]
 exact d7.mpr ⟨q0,I.pd,rfl,hn,o,rfl⟩
theorem Ci{q0 n:Nat}{st:Nj}{Q:ForInStep LS->Nj->Prop}(L:cz M A E s kd rk S)(hS:∀ p∈a0.toList,S p)(hr:∀ x,Nb M A (rule x) (fun _ s'=>s'=s) E s)(I:Iv kd rk a0 q0 st)(hq:q0<=a0.size)(hn:1<=n)(o:bG rk (Nd st) q0 n)
  (h:∀ st',Iv kd rk a0 (q0 + n) st'->Q (Nv (none,q0 + n)) st'):wpS M A E s (tl a0.size q0 n) Q st:=by
 unfold tl
 refine Nh (PU ?_)
 generalize (Nt st).back?=bk
 rcases bk with _ | ⟨s1,n1,z⟩
 ·exact nB I hn o h
 dsimp only
 generalize power' a0.size (2 * s1 + n1) (2 * s1 + n1 + n1 + n) a0.size=w0
 refine Nh (Oj (NS (I:=fun _ c st'=>c=(none,())/\Iv kd rk a0 q0 st'/\∀ j,q0<=j->(Nd st')[j]?=(Nd st)[j]?) (Q:=fun c st'=>c=(none,())/\Iv kd rk a0 q0 st'/\∀ j,q0<=j->(Nd st')[j]?=(Nd st)[j]?) ?_ (fun _ _ z=>z) ⟨rfl,I,fun _ _=>rfl⟩) ?_)
 ·rintro x c st1 _ _ ⟨rfl,I1,e1⟩
  refine t4 L hS hr I1 hq fun st2 d I2 e2=>?_
  cases d
  ·exact⟨rfl,I2,fun j hj=>(e2 j hj).trans (e1 j hj)⟩
  exact⟨rfl,I2,fun j hj=>(e2 j hj).trans (e1 j hj)⟩
 rintro c st1 ⟨rfl,I1,e1⟩
 dsimp only
 refine Nh (Qi ?_)
 refine nB ⟨I1.k,I1.f,I1.a,?_⟩ hn (fun i j hij hj=>?_) h
 ·show Pd rk (Nd st1) ((Nt st1).modify ((Nt st1).size - 1) fun x=>(x.1,x.2.1,w0)).toList 0 q0
  rw[Array.toList_modify]
  exact I1.pd.modify
 show R rk (Nd st1) (q0 + i)<=R rk (Nd st1) (q0 + j)
 rw[cC (rk:=rk) (e1 (q0 + i) (by lia)),cC (rk:=rk) (e1 (q0 + j) (by lia))]
 exact o i j hij hj
theorem Iv.within {q0 n:Nat}{st st':Nj}(I:Iv kd rk a0 q0 st)(W:Within st st' q0 n):Iv kd rk a0 q0 st':=⟨W.kp.k.trans I.k,W.kp.f.trans I.f,W.kp.a.trans I.a,by
 rw[W.kp.p]
 exact I.pd.congr fun i _ hi=>cC (W.out i (.inl hi))⟩
theorem qw{q0:Nat}{st:Nj}{Q:ForInStep LS->Nj->Prop}(L:cz M A E s kd rk S)(hS:∀ p∈a0.toList,S p)(hr:∀ x,Nb M A (rule x) (fun _ s'=>s'=s) E s)(I:Iv kd rk a0 q0 st)(hq:q0<=a0.size)
  (h1:q0=a0.size->Q (Nk (none,q0)) st) (h2:∀ n st',1<=n->q0 + n<=a0.size->Iv kd rk a0 (q0 + n) st'->Q (Nv (none,q0 + n)) st'):wpS M A E s (gB a0.size q0) Q st:=by
 unfold gB
 by_cases z:q0>=a0.size
 ·rw[if_pos z]
  exact Nm (h1 (by lia))
 rw[if_neg z]
 have qz:=IJ (LL z)
 have sz:=I.a.size_eq
 refine Nh (rX L I.k (I.all hS) (by lia) (by lia) hr fun n st1 g1 g2 W1 o1=>?_)
 dsimp only
 have I1:=I.within W1
 by_cases w:n < R7 a0.size a0.size 0
 ·rw[if_pos w]
  generalize R7 a0.size a0.size 0=mr at w ⊢
  refine Nh (RF (Nz (hr _) (fun _ _ z=>⟨z,?_⟩) fun _ _ z=>z))
  have sz1:=I1.a.size_eq
  have f1:n<=min (a0.size - q0) mr:=Nat.le_min.mpr ⟨g2,IJ w⟩
  have f4:q0 + min (a0.size - q0) mr<=a0.size:=z_ (Kq (Nat.min_le_left ..) q0) (Kz (Ks qz))
  have f5:=z_ g1 f1
  generalize min (a0.size - q0) mr=fr at f1 f4 f5 ⊢
  refine Nh (C8 L I1.k (I1.all hS) (by rw[sz1];exact f4) f1 o1 fun st2 W2 o2=>?_)
  rw[if_neg (by simp)]
  exact Ci L hS hr (I1.within W2) hq f5 o2 fun st3 I3=>h2 _ st3 f5 f4 I3
 rw[if_neg w]
 exact Ci L hS hr I1 hq g1 o1 fun st3 I3=>h2 _ st3 g1 (by lia) I3
theorem AX{ps:Array (Nat × Nat × Nat)}(h:1 < ps.size):pick ps + 1 < ps.size:=by
 unfold pick
 generalize M3 (fun x=>decide (x < ps[ps.size - 2 + 1]?.elim 0 fun y=>y.2.1)) (if ps.size - 2 > 0 then J2 (fun y=>y.2.1) ps[ps.size - 2 - 1]? else none)=b
 cases b
 ·rw[if_neg (by simp)];lia
 rw[if_pos rfl];lia
theorem rW{st:Nj}{Q:Unit->Nj->Prop}(L:cz M A E s kd rk S)(hS:∀ p∈(Nd st).toList,S p)(hr:∀ x,Nb M A (rule x) (fun _ s'=>s'=s) E s)(hk:kindOf st=kd)(hf:NU st=none)(hp:Nt st=#[])
  (h:∀ st',(Nd st').Perm (Nd st)->NU st'=none->Srt rk (Nd st').toList->Q () st'):wpS M A E s sortRuns' Q st:=by
 rw[Gw]
 refine Nh (PU ?_)
 have I0:Iv kd rk (Nd st) 0 st:=⟨hk,hf,L4 _,by rw[hp];exact rfl⟩
 revert I0 hS h
 generalize Nd st=a0
 intro hS h I0
 refine Nh (Oj (NS (I:=fun x c st'=>∃ q0,c=(none,q0)/\x<=q0/\q0<=a0.size/\Iv kd rk a0 q0 st') (Q:=fun c st'=>c=(none,a0.size)/\Iv kd rk a0 a0.size st') ?_ ?_ ⟨0,rfl,d_ _,F_ _,I0⟩) ?_)
 ·rintro x c st1 _ _ ⟨q0,rfl,g1,g2,I⟩
  exact qw L hS hr I g2 (fun e=>by subst e;exact⟨rfl,I⟩) fun n st2 k1 k2 I2=>⟨q0 + n,rfl,by lia,k2,I2⟩
 ·rintro c st1 ⟨q0,rfl,g1,g2,I⟩
  have e:q0=a0.size:=by lia
  subst e
  exact⟨rfl,I⟩
 rintro c st1 ⟨rfl,I1⟩
 dsimp only
 refine Nh (Oj (NS (I:=fun x c st'=>c=(none,())/\Iv kd rk a0 a0.size st'/\((Nt st').size<=1\/(Nt st').size + x<=a0.size)) (Q:=fun c st'=>c=(none,())/\Iv kd rk a0 a0.size st'/\(Nt st').size<=1) ?_ ?_ ⟨rfl,I1,.inr ?_⟩) ?_)
 ·rintro x c st2 _ _ ⟨rfl,I2,g⟩
  unfold vy
  refine Nh (PU ?_)
  by_cases z:(Nt st2).size<=1
  ·rw[if_pos z]
   exact Nm ⟨rfl,I2,z⟩
  rw[if_neg z]
  refine Nh (rQ L hS hr I2 (d_ _) (AX (by lia)) fun st3 I3 e _=>?_)
  rw[if_neg (by simp)]
  exact Nm ⟨rfl,I3,.inr (by lia)⟩
 ·rintro c st2 ⟨rfl,I2,g⟩
  exact⟨rfl,I2,by lia⟩
 ·have:=I1.pd.le
  rw[gV]at this
  lia
 rintro c st2 ⟨rfl,I2,g⟩
 refine Nm (h st2 I2.a I2.f ?_)
 have P:=I2.pd
 have sz:=I2.a.size_eq
 have lp:(Nt st2).toList.length<=1:=by rw[gV];exact g
 have o:bG rk (Nd st2) 0 a0.size:=by
  generalize (Nt st2).toList=l at P lp
  match l,P,lp with
  | [],P,_=>
   have e:0=a0.size:=P
   intro i j _ hj
   lia
  | [(c,n,_)],P,_=>
   obtain⟨e1,_,o,e2⟩:=P
   have e2:0 + n=a0.size:=e2
   subst e1
   rw[<-e2,KD]
   exact o
  | _::_::_,_,lp=>simp at lp
 have:=dU o
 rw[Kd,IY (by rw[gV];lia)]at this
 exact this
end
section
variable{κ:Type}{lt:κ->κ->Bool}
def rnk(lt:κ->κ->Bool)(ks:List κ)(k:κ):Nat:=ks.countP fun y=>lt y k
theorem count_le{p q:κ->Bool}:∀ {l:List κ},(∀ x∈l,p x=true->q x=true)->l.countP p<=l.countP q
 | [],_=>d_ _
 | x::t,h=>by
  have ih:=count_le (l:=t) fun y hy=>h y (.tail _ hy)
  have hx:=h x (.head _)
  rw[K5,K5]
  cases e:p x
  ·rw[if_neg (by simp)];lia
  rw[hx e,if_pos rfl];lia
theorem pS{p q:κ->Bool}:∀ {l:List κ} {z:κ},(∀ x∈l,p x=true->q x=true)->z∈l->p z=false->q z=true->l.countP p < l.countP q
 | x::t,z,h,hz,h1,h2=>by
  have ih:=count_le (l:=t) fun y hy=>h y (.tail _ hy)
  have hx:=h x (.head _)
  rw[K5,K5]
  rcases u_.mp hz with e | e
  ·subst e
   rw[h1,h2,if_neg (by simp),if_pos rfl];lia
  have:=pS (l:=t) (fun y hy=>h y (.tail _ hy)) e h1 h2
  cases e:p x
  ·rw[if_neg (by simp)];lia
  rw[hx e,if_pos rfl];lia
structure Tot (lt:κ->κ->Bool):Prop where
 irr:∀ a,lt a a=false
 tr:∀ a b c,lt a b=true->lt b c=true->lt a c=true
 tot:∀ a b,lt a b=false->lt b a=false->a=b
theorem E9(T:Tot lt){ks:List κ}{a b:κ}(h:lt b a=false):rnk lt ks a<=rnk lt ks b:=by
 refine count_le fun y _ hy=>?_
 cases e:lt a b
 ·rw[<-T.tot a b e h];exact hy
 exact T.tr _ _ _ hy e
theorem zb(T:Tot lt){ks:List κ}{a b:κ}(ha:a∈ks)(h:lt a b=true):rnk lt ks a < rnk lt ks b:=pS (fun y _ hy=>T.tr _ _ _ hy h) ha (T.irr a) h
theorem BR(T:Tot lt){ks:List κ}{a b:κ}(ha:a∈ks):decide (rnk lt ks a < rnk lt ks b)=lt a b:=by
 cases e:lt a b
 ·exact decide_eq_false (M4.mpr (E9 T e))
 exact decide_eq_true (zb T ha e)
end
def rD:M7->Int
 | .int i _=>i
 | _=>0
section
variable{prog:Nl}{w:Nq}{A:Nw}{E:M7->M_->Prop}{s:M_}
theorem m7(vs:List M7):(vs.toArray.zip vs.toArray).toList=vs.map fun v=>(v,v):=by
 rw[Array.toList_zip]
 induction vs with
 | nil=>rfl
 | cons v r ih=>exact congrArg ((v,v)::·) ih
theorem wc{a:M9}{vs:List M7}{n:Nat}{kd:O5}{rk:Nc->Nat}{S:Nc->Prop}{P:PySem.Fin->M_->Prop}(ho:s.heap.get? a=some (OK "list" vs.toArray n))(hz:vs.length<=sizeLine)(hS:∀ v∈vs,S (v,v))
  (kind:∀ h',(∀ b o,b≠a->s.heap.get? b=some o->h'.get? b=some o)->∀ {Q:O5->M_->Prop},vs≠[]->Q kd { s with heap:=h' }->Nb (Ni prog w) A (UN vs.toArray) Q E { s with heap:=h' })
  (lt:∀ h',(∀ b o,b≠a->s.heap.get? b=some o->h'.get? b=some o)->cz (Ni prog w) A E { s with heap:=h' } kd rk S)
  (h:∀(o:List M7) c h',o.Perm vs->o.Pairwise (fun x y=>rk (x,x)<=rk (y,y))->(∀ b u,b≠a->s.heap.get? b=some u->h'.get? b=some u)->h'.get? a=some (OK "list" o.toArray c)->P (.done (.ret .none)) { s with heap:=h' }) :
  Nb (Ni prog w) A (Oy.«list.sort» ⟨[.ref a],[]⟩) P E s:=by
 rw[list_sort_plain]
 have ha:a < s.heap.objs.size:=Ng ho
 refine M6 (listItems_at ho rfl ?_)
 refine M6 (TZ ho rfl ?_ (by rw[p_];exact hz) (F_ _))
 obtain⟨e1,ho1⟩:∃ e1,(s.heap.update a (NZ fun _=>(#[]:Array M7))).get? a=some (OK "list" #[] e1):=⟨_,S0 ho fun _=>#[]⟩
 refine M6 (U6 ho1 rfl ?_)
 refine M6 (Tj ?_ hz)
 refine M6 (Qb ?_ (F_ _))
 refine Ny ?_
 have k2:∀ b u,(s.heap.update a (NZ fun _=>(#[]:Array M7))).get? b=some u->(((s.heap.update a (NZ fun _=>(#[]:Array M7))).push (OK "tuple" vs.toArray 0)).push (OK "list" #[] 0)).get? b=some u:=fun b u e=>Na _ (Na _ e)
 have k3:∀ b u,b≠a->s.heap.get? b=some u->(((s.heap.update a (NZ fun _=>(#[]:Array M7))).push (OK "tuple" vs.toArray 0)).push (OK "list" #[] 0)).get? b=some u:=fun b u hb e=>k2 b u (by rw[Qj _ _ _ _ hb];exact e)
 have ho6:=k2 _ _ ho1
 show Nb (Ni prog w) A _ P E { s with heap:=((s.heap.update a (NZ fun _=>(#[]:Array M7))).push (OK "tuple" vs.toArray 0)).push (OK "list" #[] 0) }
 generalize ((s.heap.update a (NZ fun _=>(#[]:Array M7))).push (OK "tuple" vs.toArray 0)).push (OK "list" #[] 0)=h1 at k3 ho6 ⊢
 dsimp only
 have fin:∀ st':Nj,(Nd st').Perm (vs.toArray.zip vs.toArray)->Srt rk (Nd st').toList->NU st'=none->Nb (Ni prog w) A (do
   let touched:=(<-seqEpoch a) != e1
   UU (.ref a) fun _=>(Nd st').map (·.2)
   if let some e:=NU st' then rule "list.sort.comparison-raised";throw e
   if touched then rule "list.sort.modified";raiseError "ValueError" "list modified during sort"
   ret .none) P E { s with heap:=h1 }:=fun st' hp hs hf=>by
  have lp:(Nd st').toList.Perm (vs.map fun v=>(v,v)):=by
   have:=JM.mp hp
   rw[m7]at this
   exact this
  have op:((Nd st').toList.map (·.2)).Perm vs:=by
   have:=lp.map (·.2)
   rw[II,show((fun x:Nc=>x.2) ∘ fun v:M7=>(v,v))=id from rfl,L7]at this
   exact this
  have tw:∀ p∈(Nd st').toList,p=(p.2,p.2):=fun p hp=>by
   obtain⟨v,_,e⟩:=B_.mp (lp.mem_iff.mp hp)
   rw[<-e]
  have osr:((Nd st').toList.map (·.2)).Pairwise (fun x y=>rk (x,x)<=rk (y,y)):=by
   rw[KS]
   refine LP (fun{p q} hp hq hr=>?_) hs
   rw[<-tw p hp,<-tw q hq]
   exact hr
  have os:((Nd st').map (·.2)).size<=sizeLine + 1:=by
   rw[<-gV,MC,op.length_eq]
   lia
  refine M6 (U6 ho6 rfl ?_)
  refine M6 (TZ ho6 rfl ?_ (F_ _) os)
  rw[hf]
  simp only[bne_self_eq_false,Jf,if_false]
  obtain⟨c,hc⟩:∃ c,(h1.update a (NZ fun _=>(Nd st').map (·.2))).get? a=some (OK "list" ((Nd st').toList.map (·.2)).toArray c):=by
   have:=S0 ho6 fun _=>(Nd st').map (·.2)
   rw[show((Nd st').toList.map (·.2)).toArray=(Nd st').map (·.2) by rw[<-MC]]
   exact⟨_,this⟩
  refine M' (h _ c _ op osr (fun b u hb e=>?_) hc)
  rw[Qj _ _ _ _ hb]
  exact k3 b u hb e
 by_cases h2:vs.toArray.size < 2
 ·rw[if_pos h2,if_pos h2]
  refine M6 (M' ?_)
  rw[StateT.run_pure]
  refine M6 (M' ?_)
  refine fin (OX general' (vs.toArray.zip vs.toArray) #[] 7 none) (L4 _) ?_ rfl
  show Srt rk (vs.toArray.zip vs.toArray).toList
  rw[m7]
  have h3:vs.length < 2:=h2
  clear fin h lt kind hS ho
  match vs,h3 with
  | [],_=>exact .nil
  | [v],_=>exact List.pairwise_singleton _ _
  | _::_::_,h3=>exact absurd h3 (by rw[o_,o_];lia)
 rw[if_neg h2,if_neg h2]
 refine M6 (kind h1 k3 (fun z=>by rw[z]at h2;simp at h2) ?_)
 refine M6 (Nz (rW (st:=OX kd (vs.toArray.zip vs.toArray) #[] 7 none) (Q:=fun _ st'=>(Nd st').Perm (vs.toArray.zip vs.toArray)/\NU st'=none/\Srt rk (Nd st').toList) (lt h1 k3) (fun p hp=>?_) (fun x=>OD rfl) rfl rfl rfl fun st' a1 a2 a3=>⟨a1,a2,a3⟩) ?_ fun _ _ e=>e)
 ·rw[show(Nd (OX kd (vs.toArray.zip vs.toArray) #[] 7 none))=vs.toArray.zip vs.toArray from rfl,m7]at hp
  obtain⟨v,hv,e⟩:=B_.mp hp
  rw[<-e]
  exact hS v hv
 rintro⟨⟨⟩,st'⟩ s' ⟨rfl,hp,hf,hs⟩
 exact fin st' hp hs hf
end
end ZS
namespace PL
open PySem L2
inductive T where
 | any | hole (w:V) | bare | kp (G:Hp)
 | non | bl (b:Bool) | int (i:Int) | str (x:Str) | ty (n:String)
 | tup (ts:List T) | cst (ts:List T)
 | lst (o:Bool) (ts:List T)
 | dK (o:Bool) (kvs:List (Key × T))
 | dT (o:Bool) (kvs:List (List Key × T))
mutual
def er:T->T
 | .tup ts=>.tup (erL ts)
 | .cst ts=>.cst (erL ts)
 | .lst _ ts=>.lst false (erL ts)
 | .dK _ kvs=>.dK false (erK kvs)
 | .dT _ kvs=>.dT false (erT kvs)
 | .bare=>.any
 | t=>t
def erL:List T->List T
 | []=>[]
 | t::r=>er t::erL r
def erK:List (Key × T)->List (Key × T)
 | []=>[]
 | (k,t)::r=>(k,er t)::erK r
def erT:List (List Key × T)->List (List Key × T)
 | []=>[]
 | (k,t)::r=>(k,er t)::erT r
end
mutual
def aV:T->Bool
 | .tup ts=>bI ts
 | .cst ts=>bI ts
 | .lst o ts=>!o && bI ts
 | .dK o kvs=>!o && oC kvs
 | .dT o kvs=>!o && jg kvs
 | .bare=>false
 | _=>true
def bI:List T->Bool
 | []=>true
 | t::r=>aV t && bI r
def oC:List (Key × T)->Bool
 | []=>true
 | (_,t)::r=>aV t && oC r
def jg:List (List Key × T)->Bool
 | []=>true
 | (_,t)::r=>aV t && jg r
end
mutual
def bE:T->Bool
 | .tup ts=>bD ts
 | .cst ts=>bD ts
 | .lst o ts=>o && bD ts
 | .dK o kvs=>o && lZ kvs
 | .dT o kvs=>o && hV kvs
 | .kp _=>false
 | _=>true
def bD:List T->Bool
 | []=>true
 | t::r=>bE t && bD r
def lZ:List (Key × T)->Bool
 | []=>true
 | (_,t)::r=>bE t && lZ r
def hV:List (List Key × T)->Bool
 | []=>true
 | (_,t)::r=>bE t && hV r
end
theorem fC{α:Type}(g:α->T):∀ l:List α,erL (l.map g)=l.map fun x=>er (g x)
 | []=>rfl
 | x::r=>by rw[k_,erL,fC g r,k_]
theorem iO:∀ l:List T,erL l=l.map er
 | []=>rfl
 | x::r=>by rw[erL,iO r,k_]
theorem jR(l:List T):(erL l).length=l.length:=by rw[iO,b_]
theorem A7(l m:List T):erL (l++m)=erL l++erL m:=by rw[iO,iO,iO,A']
theorem lB:∀ l:List T,bI l=l.all aV
 | []=>rfl
 | x::r=>by rw[bI,lB r,Lw]
theorem cY:∀ l:List T,bD l=l.all bE
 | []=>rfl
 | x::r=>by rw[bD,cY r,Lw]
mutual
theorem bz:∀ t:T,aV (er t)=true
 | .tup ts=>by rw[er,aV,fG ts]
 | .cst ts=>by rw[er,aV,fG ts]
 | .lst _ ts=>by rw[er,aV,fG ts];rfl
 | .dK _ ts=>by rw[er,aV,mQ ts];rfl
 | .dT _ ts=>by rw[er,aV,mW ts];rfl
 | .bare=>rfl
 | .any=>rfl
 | .hole _=>rfl
 | .kp _=>rfl
 | .non=>rfl
 | .bl _=>rfl
 | .int _=>rfl
 | .str _=>rfl
 | .ty _=>rfl
theorem fG:∀ t:List T,bI (erL t)=true
 | []=>rfl
 | t::r=>by rw[erL,bI,bz t,fG r];rfl
theorem mQ:∀ t:List (Key × T),oC (erK t)=true
 | []=>rfl
 | (_,t)::r=>by rw[erK,oC,bz t,mQ r];rfl
theorem mW:∀ t:List (List Key × T),jg (erT t)=true
 | []=>rfl
 | (_,t)::r=>by rw[erT,jg,bz t,mW r];rfl
end
def Gr(G H:Hp):Prop:=∀ b u,Rd G b u->Rd H b u
theorem Gr.bq {H:Hp}:Gr H H:=fun _ _ h=>h
theorem Gr.trans {G H J:Hp}(a:Gr G H)(b:Gr H J):Gr G J:=fun c u h=>b c u (a c u h)
theorem Gr.of {G H:Hp}(h:aN G H):Gr G H:=fun b u r=>by
 rcases r with r | ⟨o,r⟩
 ·exact .inl (h _ _ r)
 exact .inr ⟨o,h _ _ r⟩
theorem Rd.some {H:Hp}{a:M9}{u:HO}(h:Rd H a u):∃ w,H a=some w:=by
 rcases h with h | ⟨o,h⟩
 ·exact⟨_,h⟩
 exact⟨_,h⟩
theorem Gr.none {G H:Hp}(h:Gr G H){a:M9}(e:H a=none):G a=none:=by
 cases q:G a with
 | none=>rfl
 | some u=>
  obtain⟨w,z⟩:=Rd.some (h a u (.inl q))
  rw[e]at z;cases z
def TK(H H':Hp):Prop:=∀ b xs,H b=some (.tup xs)->H' b=some (.tup xs)
theorem aN.tk {G H:Hp}(h:aN G H):TK G H:=fun b xs r=>h _ _ r
theorem Put.tk {H H':Hp}{a:M9}{o:HO}(p:Put H a o H')(ht:∀ xs,H a≠some (.tup xs)):TK H H':=fun b xs r=>by
 have hb:b≠a:=fun z=>ht xs (z ▸ r)
 rw[p.else_ b hb];exact r
section
variable(K:M8)(Hz H:Hp)
mutual
inductive RepT:T->V->List M9->Prop
 | any {v:V}:RepT .any v []
 | hole {w:V}:RepT (.hole w) w []
 | bare {a:M9} {u:HO} (h:H a=some u) (ht:∀ xs,H a≠some (.tup xs)):RepT .bare (.ref a) [a]
 | kp {G:Hp} {v:V} (h:Gr G Hz):RepT (.kp G) v []
 | non:RepT .non .non []
 | bl {b:Bool}:RepT (.bl b) (.bl b) []
 | int {i:Int}:RepT (.int i) (.int i) []
 | str {x:Str}:RepT (.str x) (.str x) []
 | ty {n:String}:RepT (.ty n) (.ty n) []
 | tup {a:M9} {ts:List T} {vs:List V} {L:List M9} (h:H a=some (.tup vs)) (c:RepTs ts vs L):RepT (.tup ts) (.ref a) L
 | cst {a:M9} {ts:List T} {vs:List V} (h:SqT K (fun _=>none) a vs) (c:RepTs ts vs []):RepT (.cst ts) (.ref a) []
 | lstO {a:M9} {ts:List T} {vs:List V} {L:List M9} (h:H a=some (.lst vs)) (c:RepTs ts vs L):RepT (.lst true ts) (.ref a) (a::L)
 | lstZ {a:M9} {ts:List T} {vs:List V} (h:Rd Hz a (.lst vs)) (c:RepTs ts vs []):RepT (.lst false ts) (.ref a) []
 | dKO {a:M9} {ts:List (Key × T)} {vs:List (Key × V)} {L:List M9} (h:H a=some (.dK vs)) (c:RepKs ts vs L):RepT (.dK true ts) (.ref a) (a::L)
 | dKZ {a:M9} {ts:List (Key × T)} {vs:List (Key × V)} (h:Rd Hz a (.dK vs)) (c:RepKs ts vs []):RepT (.dK false ts) (.ref a) []
 | dTO {a:M9} {ts:List (List Key × T)} {vs:List (List Key × V)} {L:List M9} (h:H a=some (.dT vs)) (c:RepXs ts vs L):RepT (.dT true ts) (.ref a) (a::L)
 | dTZ {a:M9} {ts:List (List Key × T)} {vs:List (List Key × V)} (h:Rd Hz a (.dT vs)) (c:RepXs ts vs []):RepT (.dT false ts) (.ref a) []
inductive RepTs:List T->List V->List M9->Prop
 | nil:RepTs [] [] []
 | cons {t:T} {v:V} {L M N:List M9} {ts:List T} {vs:List V} (e:N=L++M) (h:RepT t v L) (c:RepTs ts vs M):RepTs (t::ts) (v::vs) N
inductive RepKs:List (Key × T)->List (Key × V)->List M9->Prop
 | nil:RepKs [] [] []
 | cons {k:Key} {t:T} {v:V} {L M N:List M9} {ts:List (Key × T)} {vs:List (Key × V)} (e:N=L++M) (h:RepT t v L) (c:RepKs ts vs M):RepKs ((k,t)::ts) ((k,v)::vs) N
inductive RepXs:List (List Key × T)->List (List Key × V)->List M9->Prop
 | nil:RepXs [] [] []
 | cons {k:List Key} {t:T} {v:V} {L M N:List M9} {ts:List (List Key × T)} {vs:List (List Key × V)} (e:N=L++M) (h:RepT t v L) (c:RepXs ts vs M):RepXs ((k,t)::ts) ((k,v)::vs) N
end
end
section
variable{K:M8}
theorem f7{Hz H:Hp}{P:T->V->List M9->Prop}{Ps:List T->List V->List M9->Prop}{Pk:List (Key × T)->List (Key × V)->List M9->Prop}{Px:List (List Key × T)->List (List Key × V)->List M9->Prop}
  (c1:∀ {v},P .any v []) (c2:∀ {w},P (.hole w) w []) (c3:∀ {a u},H a=some u->(∀ xs,H a≠some (.tup xs))->P .bare (.ref a) [a]) (c4:∀ {G v},Gr G Hz->P (.kp G) v [])
  (c5:P .non .non []) (c6:∀ {b},P (.bl b) (.bl b) []) (c7:∀ {i},P (.int i) (.int i) []) (c8:∀ {x},P (.str x) (.str x) []) (c9:∀ {n},P (.ty n) (.ty n) [])
  (c10:∀ {a ts vs L},H a=some (.tup vs)->Ps ts vs L->P (.tup ts) (.ref a) L) (c11:∀ {a ts vs},SqT K (fun _=>none) a vs->Ps ts vs []->P (.cst ts) (.ref a) [])
  (c12:∀ {a ts vs L},H a=some (.lst vs)->Ps ts vs L->P (.lst true ts) (.ref a) (a::L)) (c13:∀ {a ts vs},Rd Hz a (.lst vs)->Ps ts vs []->P (.lst false ts) (.ref a) [])
  (c14:∀ {a ts vs L},H a=some (.dK vs)->Pk ts vs L->P (.dK true ts) (.ref a) (a::L)) (c15:∀ {a ts vs},Rd Hz a (.dK vs)->Pk ts vs []->P (.dK false ts) (.ref a) [])
  (c16:∀ {a ts vs L},H a=some (.dT vs)->Px ts vs L->P (.dT true ts) (.ref a) (a::L)) (c17:∀ {a ts vs},Rd Hz a (.dT vs)->Px ts vs []->P (.dT false ts) (.ref a) [])
  (s0:Ps [] [] []) (s1:∀ {t v L M ts vs},P t v L->Ps ts vs M->Ps (t::ts) (v::vs) (L++M))
  (k0:Pk [] [] []) (k1:∀ {k t v L M ts vs},P t v L->Pk ts vs M->Pk ((k,t)::ts) ((k,v)::vs) (L++M))
  (x0:Px [] [] []) (x1:∀ {k t v L M ts vs},P t v L->Px ts vs M->Px ((k,t)::ts) ((k,v)::vs) (L++M)) :
  (∀ {t v L},RepT K Hz H t v L->P t v L)/\(∀ {t v L},RepTs K Hz H t v L->Ps t v L)/\(∀ {t v L},RepKs K Hz H t v L->Pk t v L)/\(∀ {t v L},RepXs K Hz H t v L->Px t v L):=by
 have m1:∀ {t v L},RepT K Hz H t v L->P t v L:=fun h=>RepT.rec (motive_1:=fun t v L _=>P t v L) (motive_2:=fun t v L _=>Ps t v L) (motive_3:=fun t v L _=>Pk t v L) (motive_4:=fun t v L _=>Px t v L)
  c1 c2 c3 c4 c5 c6 c7 c8 c9 (fun h _ i=>c10 h i) (fun h _ i=>c11 h i) (fun h _ i=>c12 h i) (fun h _ i=>c13 h i) (fun h _ i=>c14 h i) (fun h _ i=>c15 h i) (fun h _ i=>c16 h i) (fun h _ i=>c17 h i)
  s0 (fun e _ _ i j=>e ▸ s1 i j) k0 (fun e _ _ i j=>e ▸ k1 i j) x0 (fun e _ _ i j=>e ▸ x1 i j) h
 refine⟨m1,fun h=>?_,fun h=>?_,fun h=>?_⟩
 ·exact RepTs.rec (motive_1:=fun t v L _=>True) (motive_2:=fun t v L _=>Ps t v L) (motive_3:=fun t v L _=>True) (motive_4:=fun t v L _=>True)
   trivial trivial (fun _ _=>trivial) (fun _=>trivial) trivial trivial trivial trivial trivial (fun _ _ _=>trivial) (fun _ _ _=>trivial) (fun _ _ _=>trivial) (fun _ _ _=>trivial) (fun _ _ _=>trivial) (fun _ _ _=>trivial) (fun _ _ _=>trivial) (fun _ _ _=>trivial)
   s0 (fun e h _ _ j=>e ▸ s1 (m1 h) j) trivial (fun _ _ _ _ _=>trivial) trivial (fun _ _ _ _ _=>trivial) h
 ·exact RepKs.rec (motive_1:=fun t v L _=>True) (motive_2:=fun t v L _=>True) (motive_3:=fun t v L _=>Pk t v L) (motive_4:=fun t v L _=>True)
   trivial trivial (fun _ _=>trivial) (fun _=>trivial) trivial trivial trivial trivial trivial (fun _ _ _=>trivial) (fun _ _ _=>trivial) (fun _ _ _=>trivial) (fun _ _ _=>trivial) (fun _ _ _=>trivial) (fun _ _ _=>trivial) (fun _ _ _=>trivial) (fun _ _ _=>trivial)
   trivial (fun _ _ _ _ _=>trivial) k0 (fun e h _ _ j=>e ▸ k1 (m1 h) j) trivial (fun _ _ _ _ _=>trivial) h
 exact RepXs.rec (motive_1:=fun t v L _=>True) (motive_2:=fun t v L _=>True) (motive_3:=fun t v L _=>True) (motive_4:=fun t v L _=>Px t v L)
  trivial trivial (fun _ _=>trivial) (fun _=>trivial) trivial trivial trivial trivial trivial (fun _ _ _=>trivial) (fun _ _ _=>trivial) (fun _ _ _=>trivial) (fun _ _ _=>trivial) (fun _ _ _=>trivial) (fun _ _ _=>trivial) (fun _ _ _=>trivial) (fun _ _ _=>trivial)
  trivial (fun _ _ _ _ _=>trivial) trivial (fun _ _ _ _ _=>trivial) x0 (fun e h _ _ j=>e ▸ x1 (m1 h) j) h
noncomputable def Kps(H H':Hp)(L:List M9):Prop:=∀ a∈L,∀ u,H a=some u->H' a=some u/\((∀ xs,H a≠some (.tup xs))->∀ xs,H' a≠some (.tup xs))
theorem Kps.hd {H H':Hp}{a:M9}{L:List M9}(h:Kps H H' (a::L)){u:HO}(e:H a=some u):H' a=some u/\((∀ xs,H a≠some (.tup xs))->∀ xs,H' a≠some (.tup xs)):=h _ r_ _ e
theorem Kps.tl {H H':Hp}{a:M9}{L:List M9}(h:Kps H H' (a::L)):Kps H H' L:=fun a m=>h a (l_ _ m)
theorem Kps.l {H H':Hp}{L M:List M9}(h:Kps H H' (L++M)):Kps H H' L:=fun a m=>h a (IG _ m)
theorem Kps.r {H H':Hp}{L M:List M9}(h:Kps H H' (L++M)):Kps H H' M:=fun a m=>h a (n_ _ m)
theorem xT{Hz H Hz' H':Hp}(ht:TK H H')(hz:Gr Hz Hz'):(∀ {t v L},RepT K Hz H t v L->Kps H H' L->RepT K Hz' H' t v L)/\(∀ {t v L},RepTs K Hz H t v L->Kps H H' L->RepTs K Hz' H' t v L)/\(∀ {t v L},RepKs K Hz H t v L->Kps H H' L->RepKs K Hz' H' t v L)/\(∀ {t v L},RepXs K Hz H t v L->Kps H H' L->RepXs K Hz' H' t v L):=
 f7 (P:=fun t v L=>Kps H H' L->RepT K Hz' H' t v L) (Ps:=fun t v L=>Kps H H' L->RepTs K Hz' H' t v L) (Pk:=fun t v L=>Kps H H' L->RepKs K Hz' H' t v L) (Px:=fun t v L=>Kps H H' L->RepXs K Hz' H' t v L)
  (fun _=>.any) (fun _=>.hole) (fun h t o=>.bare (o.hd h).1 ((o.hd h).2 t)) (fun h _=>.kp (h.trans hz)) (fun _=>.non) (fun _=>.bl) (fun _=>.int) (fun _=>.str) (fun _=>.ty)
  (fun h c o=>.tup (ht _ _ h) (c o)) (fun h c o=>.cst h (c o)) (fun h c o=>.lstO (o.hd h).1 (c o.tl)) (fun h c o=>.lstZ (hz _ _ h) (c o)) (fun h c o=>.dKO (o.hd h).1 (c o.tl)) (fun h c o=>.dKZ (hz _ _ h) (c o)) (fun h c o=>.dTO (o.hd h).1 (c o.tl)) (fun h c o=>.dTZ (hz _ _ h) (c o))
  (fun _=>.nil) (fun i j o=>.cons rfl (i o.l) (j o.r)) (fun _=>.nil) (fun i j o=>.cons rfl (i o.l) (j o.r)) (fun _=>.nil) (fun i j o=>.cons rfl (i o.l) (j o.r))
theorem RepT.move {Hz H Hz' H':Hp}(ht:TK H H')(hz:Gr Hz Hz'){t:T}{v:V}{L:List M9}(o:Kps H H' L)(h:RepT K Hz H t v L):RepT K Hz' H' t v L:=(xT ht hz).1 h o
def Thr(H:Hp)(L:List M9):Prop:=∀ a∈L,(∃ u,H a=some u)/\∀ xs,H a≠some (.tup xs)
theorem Thr.nil {H:Hp}:Thr H []:=fun a m=>nomatch m
theorem Thr.cons {H:Hp}{a:M9}{u:HO}{L:List M9}(h:H a=some u)(t:∀ xs,H a≠some (.tup xs))(c:Thr H L):Thr H (a::L):=fun b m=>by
 rcases u_.mp m with rfl | m
 ·exact⟨⟨_,h⟩,t⟩
 exact c b m
theorem Thr.app {H:Hp}{L M:List M9}(c:Thr H L)(d:Thr H M):Thr H (L++M):=fun b m=>(D_.mp m).elim (c b) (d b)
theorem vI{Hz H:Hp}:(∀ {t v L},RepT K Hz H t v L->Thr H L)/\(∀ {t v L},RepTs K Hz H t v L->Thr H L)/\(∀ {t v L},RepKs K Hz H t v L->Thr H L)/\(∀ {t v L},RepXs K Hz H t v L->Thr H L):=
 f7 (P:=fun t v L=>Thr H L) (Ps:=fun t v L=>Thr H L) (Pk:=fun t v L=>Thr H L) (Px:=fun t v L=>Thr H L)
  .nil .nil (fun h t=>.cons h t .nil) (fun _=>.nil) .nil .nil .nil .nil .nil (fun _ c=>c) (fun _ c=>c) (fun h c=>.cons h (fun xs r=>by rw[h]at r;cases r) c) (fun _ c=>c) (fun h c=>.cons h (fun xs r=>by rw[h]at r;cases r) c) (fun _ c=>c) (fun h c=>.cons h (fun xs r=>by rw[h]at r;cases r) c) (fun _ c=>c)
  .nil (fun c d=>c.app d) .nil (fun c d=>c.app d) .nil (fun c d=>c.app d)
theorem RepT.there {Hz H:Hp}{t:T}{v:V}{L:List M9}(h:RepT K Hz H t v L):Thr H L:=vI.1 h
def Fzn(H Z:Hp)(L:List M9):Prop:=∀ a∈L,Z a=H a
theorem Fzn.hd {H Z:Hp}{a:M9}{L:List M9}(h:Fzn H Z (a::L)){u:HO}(e:H a=some u):Rd Z a u:=.inl (by rw[h _ r_];exact e)
theorem Fzn.tl {H Z:Hp}{a:M9}{L:List M9}(h:Fzn H Z (a::L)):Fzn H Z L:=fun a m=>h a (l_ _ m)
theorem Fzn.l {H Z:Hp}{L M:List M9}(h:Fzn H Z (L++M)):Fzn H Z L:=fun a m=>h a (IG _ m)
theorem Fzn.r {H Z:Hp}{L M:List M9}(h:Fzn H Z (L++M)):Fzn H Z M:=fun a m=>h a (n_ _ m)
theorem B3{Hz H Z:Hp}(hz:Gr Hz Z):(∀ {t v L},RepT K Hz H t v L->Fzn H Z L->RepT K Z H (er t) v [])/\(∀ {t v L},RepTs K Hz H t v L->Fzn H Z L->RepTs K Z H (erL t) v [])/\(∀ {t v L},RepKs K Hz H t v L->Fzn H Z L->RepKs K Z H (erK t) v [])/\(∀ {t v L},RepXs K Hz H t v L->Fzn H Z L->RepXs K Z H (erT t) v []):=
 f7 (P:=fun t v L=>Fzn H Z L->RepT K Z H (er t) v []) (Ps:=fun t v L=>Fzn H Z L->RepTs K Z H (erL t) v []) (Pk:=fun t v L=>Fzn H Z L->RepKs K Z H (erK t) v []) (Px:=fun t v L=>Fzn H Z L->RepXs K Z H (erT t) v [])
  (fun _=>.any) (fun _=>.hole) (fun _ _ _=>.any) (fun h _=>.kp (h.trans hz)) (fun _=>.non) (fun _=>.bl) (fun _=>.int) (fun _=>.str) (fun _=>.ty)
  (fun h c o=>.tup h (c o)) (fun h c o=>.cst h (c o)) (fun h c o=>.lstZ (o.hd h) (c o.tl)) (fun h c o=>.lstZ (hz _ _ h) (c o)) (fun h c o=>.dKZ (o.hd h) (c o.tl)) (fun h c o=>.dKZ (hz _ _ h) (c o)) (fun h c o=>.dTZ (o.hd h) (c o.tl)) (fun h c o=>.dTZ (hz _ _ h) (c o))
  (fun _=>.nil) (fun i j o=>.cons rfl (i o.l) (j o.r)) (fun _=>.nil) (fun i j o=>.cons rfl (i o.l) (j o.r)) (fun _=>.nil) (fun i j o=>.cons rfl (i o.l) (j o.r))
theorem RepT.frz {Hz H Z:Hp}(hz:Gr Hz Z){t:T}{v:V}{L:List M9}(o:Fzn H Z L)(h:RepT K Hz H t v L):RepT K Z H (er t) v []:=(B3 hz).1 h o
theorem Af{Hz H:Hp}:(∀ {t v L},RepT K Hz H t v L->aV t=true->L=[])/\(∀ {t v L},RepTs K Hz H t v L->bI t=true->L=[])/\(∀ {t v L},RepKs K Hz H t v L->True)/\(∀ {t v L},RepXs K Hz H t v L->True):=
 f7 (P:=fun t v L=>aV t=true->L=[]) (Ps:=fun t v L=>bI t=true->L=[]) (Pk:=fun t v L=>True) (Px:=fun t v L=>True)
  (fun _=>rfl) (fun _=>rfl) (fun _ _ n=>nomatch n) (fun _ _=>rfl) (fun _=>rfl) (fun _=>rfl) (fun _=>rfl) (fun _=>rfl) (fun _=>rfl)
  (fun _ c n=>c (by rw[aV]at n;exact n)) (fun _ _ _=>rfl) (fun _ _ n=>nomatch n) (fun _ _ _=>rfl) (fun _ _ n=>nomatch n) (fun _ _ _=>rfl) (fun _ _ n=>nomatch n) (fun _ _ _=>rfl)
  (fun _=>rfl) (fun i j n=>by
   rw[bI,H_]at n
   rw[i n.1,j n.2]
   rfl) trivial (fun _ _=>trivial) trivial (fun _ _=>trivial)
theorem RepT.nil_of {Hz H:Hp}{t:T}{v:V}{L:List M9}(n:aV t=true)(h:RepT K Hz H t v L):L=[]:=Af.1 h n
theorem yh{Hz H Z H':Hp}(ht:TK H H'):(∀ {t v L},RepT K Hz H t v L->bE t=true->Kps H H' L->RepT K Z H' t v L)/\(∀ {t v L},RepTs K Hz H t v L->bD t=true->Kps H H' L->RepTs K Z H' t v L)/\(∀ {t v L},RepKs K Hz H t v L->lZ t=true->Kps H H' L->RepKs K Z H' t v L)/\(∀ {t v L},RepXs K Hz H t v L->hV t=true->Kps H H' L->RepXs K Z H' t v L):=
 f7 (P:=fun t v L=>bE t=true->Kps H H' L->RepT K Z H' t v L) (Ps:=fun t v L=>bD t=true->Kps H H' L->RepTs K Z H' t v L) (Pk:=fun t v L=>lZ t=true->Kps H H' L->RepKs K Z H' t v L) (Px:=fun t v L=>hV t=true->Kps H H' L->RepXs K Z H' t v L)
  (fun _ _=>.any) (fun _ _=>.hole) (fun h t _ o=>.bare (o.hd h).1 ((o.hd h).2 t)) (fun _ n=>nomatch n) (fun _ _=>.non) (fun _ _=>.bl) (fun _ _=>.int) (fun _ _=>.str) (fun _ _=>.ty)
  (fun h c n o=>.tup (ht _ _ h) (c (by rw[bE]at n;exact n) o)) (fun h c n o=>.cst h (c (by rw[bE]at n;exact n) o)) (fun h c n o=>.lstO (o.hd h).1 (c (by rw[bE,JW]at n;exact n) o.tl)) (fun _ _ n=>nomatch n) (fun h c n o=>.dKO (o.hd h).1 (c (by rw[bE,JW]at n;exact n) o.tl)) (fun _ _ n=>nomatch n) (fun h c n o=>.dTO (o.hd h).1 (c (by rw[bE,JW]at n;exact n) o.tl)) (fun _ _ n=>nomatch n)
  (fun _ _=>.nil) (fun i j n o=>.cons rfl (i (by rw[bD,H_]at n;exact n.1) o.l) (j (by rw[bD,H_]at n;exact n.2) o.r)) (fun _ _=>.nil) (fun i j n o=>.cons rfl (i (by rw[lZ,H_]at n;exact n.1) o.l) (j (by rw[lZ,H_]at n;exact n.2) o.r)) (fun _ _=>.nil) (fun i j n o=>.cons rfl (i (by rw[hV,H_]at n;exact n.1) o.l) (j (by rw[hV,H_]at n;exact n.2) o.r))
theorem RepT.DR {Hz H Z H':Hp}(ht:TK H H'){t:T}{v:V}{L:List M9}(n:bE t=true)(o:Kps H H' L)(h:RepT K Hz H t v L):RepT K Z H' t v L:=(yh ht).1 h n o
abbrev Ev:=List T
abbrev Fm:=List (T × Option V)
def mD(K:M8)(Hz H:Hp)(t:T)(x:Option V)(L:List M9):Prop:=(t=.any/\L=[])\/∃ v,x=some v/\RepT K Hz H t v L
inductive RepL (K:M8) (Hz H:Hp):Fm->List M9->Prop
 | nil:RepL K Hz H [] []
 | cons {t:T} {x:Option V} {L M N:List M9} {r:Fm} (e:N=L++M) (h:mD K Hz H t x L) (c:RepL K Hz H r M):RepL K Hz H ((t,x)::r) N
def Rp(K:M8)(H:Hp)(Γ:Fm):Prop:=∃ Hz L,RepL K Hz H Γ L/\L.Nodup/\Gr Hz H/\∀ b∈L,Hz b=none
theorem mD.move {Hz H Hz' H':Hp}(ht:TK H H')(hz:Gr Hz Hz'){t:T}{x:Option V}{L:List M9}(ho:∀ a∈L,∀ u,H a=some u->H' a=some u/\((∀ xs,H a≠some (.tup xs))->∀ xs,H' a≠some (.tup xs)))(h:mD K Hz H t x L):mD K Hz' H' t x L:=by
 rcases h with⟨rfl,rfl⟩ | ⟨v,rfl,h⟩
 ·exact .inl ⟨rfl,rfl⟩
 exact .inr ⟨v,rfl,h.move ht hz ho⟩
theorem mD.there {Hz H:Hp}{t:T}{x:Option V}{L:List M9}(h:mD K Hz H t x L):∀ a∈L,(∃ u,H a=some u)/\∀ xs,H a≠some (.tup xs):=by
 rcases h with⟨rfl,rfl⟩ | ⟨v,rfl,h⟩
 ·intro a m;cases m
 exact h.there
theorem RepL.move {Hz H Hz' H':Hp}(ht:TK H H')(hz:Gr Hz Hz'):∀ {Γ:Fm} {L:List M9},(∀ a∈L,∀ u,H a=some u->H' a=some u/\((∀ xs,H a≠some (.tup xs))->∀ xs,H' a≠some (.tup xs)))->RepL K Hz H Γ L->RepL K Hz' H' Γ L
 | _,_,_,.nil=>.nil
 | _,_,ho,.cons e h c=>.cons e (h.move ht hz fun a m=>ho a (by rw[e];exact IG _ m)) (c.move ht hz fun a m=>ho a (by rw[e];exact n_ _ m))
theorem RepL.there {Hz H:Hp}:∀ {Γ:Fm} {L:List M9},RepL K Hz H Γ L->∀ a∈L,(∃ u,H a=some u)/\∀ xs,H a≠some (.tup xs)
 | _,_,.nil,a,m=>by cases m
 | _,_,.cons e h c,a,m=>by
  rw[e]at m
  rcases D_.mp m with m | m
  ·exact h.there a m
  exact c.there a m
theorem RepL.app {Hz H:Hp}:∀ {Γ Δ:Fm} {L M:List M9},RepL K Hz H Γ L->RepL K Hz H Δ M->RepL K Hz H (Γ++Δ) (L++M)
 | _,_,_,_,.nil,d=>d
 | _,_,_,_,.cons e h c,d=>.cons (by rw[e,h_]) h (c.app d)
theorem RepL.split {Hz H:Hp}:∀ {Γ Δ:Fm} {N:List M9},RepL K Hz H (Γ++Δ) N->∃ L M,N=L++M/\RepL K Hz H Γ L/\RepL K Hz H Δ M
 | [],_,N,h=>⟨[],N,rfl,.nil,h⟩
 | (t,x)::r,_,N,.cons e h c=>by
  obtain⟨L,M,rfl,h1,h2⟩:=c.split
  exact⟨_,M,by rw[e,h_],.cons rfl h h1,h2⟩
theorem RepL.perm {Hz H:Hp}{Γ Δ:Fm}(p:Γ.Perm Δ):∀ {L:List M9},RepL K Hz H Γ L->∃ M,L.Perm M/\RepL K Hz H Δ M:=by
 induction p with
 | nil=>intro L h;exact⟨L,.refl _,h⟩
 | cons x q ih=>
  intro L h
  cases h with
  | cons e h c=>
   obtain⟨M,p1,h1⟩:=ih c
   exact⟨_,by rw[e];exact p1.append_left _,.cons rfl h h1⟩
 | swap x y l=>
  intro L h
  cases h with
  | cons e h c=>
   cases c with
   | cons e' h' c'=>
    refine⟨_,?_,.cons rfl h' (.cons rfl h c')⟩
    rw[e,e',<-h_,<-h_]
    exact Jt.append_right _
 | trans p q ih1 ih2=>
  intro L h
  obtain⟨M,p1,h1⟩:=ih1 h
  obtain⟨N,p2,h2⟩:=ih2 h1
  exact⟨N,p1.trans p2,h2⟩
theorem Rp.perm {H:Hp}{Γ Δ:Fm}(h:Rp K H Γ)(p:Γ.Perm Δ):Rp K H Δ:=by
 obtain⟨Hz,L,h,nd,g,d⟩:=h
 obtain⟨M,q,h'⟩:=h.perm p
 exact⟨Hz,M,h',q.nodup_iff.mp nd,g,fun b m=>d b (q.mem_iff.mpr m)⟩
theorem Rp.part {H:Hp}{Γ Δ:Fm}(h:Rp K H (Γ++Δ)):Rp K H Δ:=by
 obtain⟨Hz,L,h,nd,g,d⟩:=h
 obtain⟨L1,L2,rfl,_,h2⟩:=h.split
 exact⟨Hz,L2,h2,(JA.mp nd).2.1,g,fun b m=>d b (n_ _ m)⟩
theorem Rp.tail {H:Hp}{x:T × Option V}{Γ:Fm}(h:Rp K H (x::Γ)):Rp K H Γ:=Rp.part (Γ:=[x]) h
theorem eO{H H':Hp}(s:aN H H')(a:M9)(u:HO)(e:H a=some u):H' a=some u/\((∀ xs,H a≠some (.tup xs))->∀ xs,H' a≠some (.tup xs)):=
 ⟨s _ _ e,fun n xs r=>n xs (by rw[s _ _ e]at r;exact e.trans r)⟩
theorem Rp.same {H H':Hp}{Γ:Fm}(h:Rp K H Γ)(s:aN H H'):Rp K H' Γ:=by
 obtain⟨Hz,L,h,nd,g,d⟩:=h
 exact⟨Hz,L,h.move (aN.tk s) .bq (fun a m u e=>eO s a u e),nd,g.trans (.of s),d⟩
end
section
variable{K:M8}
theorem qt{H H':Hp}{p:M9}{o:HO}(s:Put H p o H')(a:M9)(n:a≠p)(u:HO)(e:H a=some u):H' a=some u/\((∀ xs,H a≠some (.tup xs))->∀ xs,H' a≠some (.tup xs)):=
 ⟨by rw[s.else_ a n];exact e,fun m xs r=>m xs (by rw[s.else_ a n]at r;exact r)⟩
theorem RepTs.len {Hz H:Hp}:∀ {ts:List T} {vs:List V} {L:List M9},RepTs K Hz H ts vs L->ts.length=vs.length
 | _,_,_,.nil=>rfl
 | _,_,_,.cons _ _ c=>by rw[o_,o_,c.len]
abbrev zz(ts:List T)(vs:List V):Fm:=ts.zip (vs.map some)
theorem RepTs.toL {Hz H:Hp}:∀ {ts:List T} {vs:List V} {L:List M9},RepTs K Hz H ts vs L->RepL K Hz H (zz ts vs) L
 | _,_,_,.nil=>.nil
 | _,_,_,.cons e h c=>.cons e (.inr ⟨_,rfl,h⟩) c.toL
theorem RepL.nN {Hz H:Hp}:∀ {ts:List T} {vs:List V} {L:List M9},ts.length=vs.length->RepL K Hz H (zz ts vs) L->RepTs K Hz H ts vs L
 | [],[],_,_,.nil=>.nil
 | [],v::vs,_,l,_=>by simp at l
 | t::ts,[],_,l,_=>by simp at l
 | t::ts,v::vs,L,l,h=>by
  have h:RepL K Hz H ((t,some v)::zz ts vs) L:=h
  cases h with
  | cons e h c=>
   refine .cons e ?_ (c.nN (by simpa using l))
   rcases h with⟨rfl,rfl⟩ | ⟨w,e2,h⟩
   ·exact .any
   cases e2;exact h
theorem RepKs.toL {Hz H:Hp}:∀ {ts:List (Key × T)} {vs:List (Key × V)} {L:List M9},RepKs K Hz H ts vs L->ts.map (·.1)=vs.map (·.1)/\RepTs K Hz H (ts.map (·.2)) (vs.map (·.2)) L
 | _,_,_,.nil=>⟨rfl,.nil⟩
 | _,_,_,.cons e h c=>by
  obtain⟨e1,c1⟩:=c.toL
  exact⟨by rw[k_,k_,e1],.cons e h c1⟩
theorem RepKs.ofL {Hz H:Hp}:∀ {ts:List (Key × T)} {vs:List (Key × V)} {L:List M9},ts.map (·.1)=vs.map (·.1)->RepTs K Hz H (ts.map (·.2)) (vs.map (·.2)) L->RepKs K Hz H ts vs L
 | [],[],_,_,.nil=>.nil
 | [],_::_,_,e,_=>by simp at e
 | _::_,[],_,e,_=>by simp at e
 | (k,t)::ts,(k',v)::vs,L,e,.cons e2 h c=>by
  rw[k_,k_,Ky]at e
  have e0:k=k':=e.1
  subst e0
  exact .cons e2 h (RepKs.ofL e.2 c)
theorem RepXs.toL {Hz H:Hp}:∀ {ts:List (List Key × T)} {vs:List (List Key × V)} {L:List M9},RepXs K Hz H ts vs L->ts.map (·.1)=vs.map (·.1)/\RepTs K Hz H (ts.map (·.2)) (vs.map (·.2)) L
 | _,_,_,.nil=>⟨rfl,.nil⟩
 | _,_,_,.cons e h c=>by
  obtain⟨e1,c1⟩:=c.toL
  exact⟨by rw[k_,k_,e1],.cons e h c1⟩
theorem RepXs.ofL {Hz H:Hp}:∀ {ts:List (List Key × T)} {vs:List (List Key × V)} {L:List M9},ts.map (·.1)=vs.map (·.1)->RepTs K Hz H (ts.map (·.2)) (vs.map (·.2)) L->RepXs K Hz H ts vs L
 | [],[],_,_,.nil=>.nil
 | [],_::_,_,e,_=>by simp at e
 | _::_,[],_,e,_=>by simp at e
 | (k,t)::ts,(k',v)::vs,L,e,.cons e2 h c=>by
  rw[k_,k_,Ky]at e
  have e0:k=k':=e.1
  subst e0
  exact .cons e2 h (RepXs.ofL e.2 c)
theorem xj{H H':Hp}{p:M9}{o:HO}{t:T}{Γ Δ:Fm}(h:Rp K H (Γ++Δ))(hp:H p=none)(s:aN H H')(hn:H' p=some o)
  (mk:∀ Hz L,RepL K Hz H' Γ L->RepT K Hz H' t (.ref p) (p::L)):Rp K H' ((t,some (.ref p))::Δ):=by
 obtain⟨Hz,N,h,nd,g,d⟩:=h
 obtain⟨L,M,rfl,h1,h2⟩:=h.split
 have mv:∀ a∈L++M,∀ u,H a=some u->H' a=some u/\((∀ xs,H a≠some (.tup xs))->∀ xs,H' a≠some (.tup xs)):=fun a _ u e=>eO s a u e
 have h1':=h1.move (aN.tk s) .bq fun a m=>mv a (IG _ m)
 have h2':=h2.move (aN.tk s) .bq fun a m=>mv a (n_ _ m)
 refine⟨Hz,(p::L)++M,.cons rfl (.inr ⟨_,rfl,mk Hz L h1'⟩) h2',?_,g.trans (.of s),?_⟩
 ·rw[IV,E_]
  refine⟨fun m=>?_,nd⟩
  obtain⟨⟨u,e⟩,_⟩:=h.there p m
  rw[hp]at e;cases e
 intro b m
 rcases u_.mp m with rfl | m
 ·exact g.none hp
 exact d b m
theorem dG{H H':Hp}{p:M9}{ts:List T}{vs:List V}{Δ:Fm}(h:Rp K H (zz ts vs++Δ))(l:ts.length=vs.length)(hp:H p=none)(s:aN H H')(hn:H' p=some (.lst vs)):Rp K H' ((.lst true ts,some (.ref p))::Δ):=
 xj h hp s hn fun _ _ q=>.lstO hn (q.nN l)
theorem fO{H H':Hp}{p:M9}{ts:List T}{vs:List V}{Δ:Fm}(h:Rp K H (zz ts vs++Δ))(l:ts.length=vs.length)(s:aN H H')(hn:H' p=some (.tup vs)):Rp K H' ((.tup ts,some (.ref p))::Δ):=by
 obtain⟨Hz,N,h,nd,g,d⟩:=h.same s
 obtain⟨L,M,rfl,h1,h2⟩:=h.split
 exact⟨Hz,L++M,.cons rfl (.inr ⟨_,rfl,.tup hn (h1.nN l)⟩) h2,nd,g,d⟩
theorem dy{H:Hp}{ts:List T}{x:Option V}{Γ:Fm}(h:Rp K H ((.lst true ts,x)::Γ)):∃ a vs,x=some (.ref a)/\H a=some (.lst vs)/\ts.length=vs.length/\Rp K H ((.bare,some (.ref a))::(zz ts vs++Γ)):=by
 obtain⟨Hz,N,h,nd,g,d⟩:=h
 cases h with
 | cons e h c=>
  rcases h with⟨h,_⟩ | ⟨v,rfl,h⟩
  ·cases h
  cases h with
  | lstO h1 c1=>
   refine⟨_,_,rfl,h1,c1.len,Hz,N,.cons (L:=[_]) (M:=_++_) (by rw[e];rfl) (.inr ⟨_,rfl,.bare h1 fun xs r=>?_⟩) (c1.toL.app c),nd,g,d⟩
   rw[h1]at r;cases r
theorem o8{H H':Hp}{a:M9}{o:HO}{t:T}{Γ Δ:Fm}(h:Rp K H ((.bare,some (.ref a))::(Γ++Δ)))(p:Put H a o H')
  (mk:∀ Hz L,RepL K Hz H' Γ L->RepT K Hz H' t (.ref a) (a::L)):Rp K H' ((t,some (.ref a))::Δ):=by
 obtain⟨Hz,N,h,nd,g,d⟩:=h
 cases h with
 | cons e h c=>
  rcases h with⟨h,_⟩ | ⟨v,ev,h⟩
  ·cases h
  cases ev
  cases h with
  | bare h1 nt=>
   obtain⟨L,M,e2,h2,h3⟩:=c.split
   subst e;subst e2
   rw[L_,E_]at nd
   have tk:TK H H':=Put.tk p nt
   have ne:∀ b∈L++M,b≠a:=fun b m z=>nd.1 (z ▸ m)
   have g':Gr Hz H':=fun b u r=>by
    have hb:b≠a:=fun z=>by
     obtain⟨w,q⟩:=Rd.some r
     rw[z,d a (by rw[L_];exact r_)]at q
     cases q
    rcases g b u r with r | ⟨o,r⟩
    ·exact .inl (by rw[p.else_ b hb];exact r)
    exact .inr ⟨o,by rw[p.else_ b hb];exact r⟩
   refine⟨Hz,(a::L)++M,.cons rfl (.inr ⟨_,rfl,mk Hz L ?_⟩) ?_,?_,g',?_⟩
   ·exact h2.move tk .bq fun b m=>qt p b (ne b (IG _ m))
   ·exact h3.move tk .bq fun b m=>qt p b (ne b (n_ _ m))
   ·rw[IV,E_];exact nd
   exact d
theorem cZ{H H':Hp}{a:M9}{ts:List T}{vs:List V}{Γ:Fm}(h:Rp K H ((.bare,some (.ref a))::(zz ts vs++Γ)))(l:ts.length=vs.length)(p:Put H a (.lst vs) H'):Rp K H' ((.lst true ts,some (.ref a))::Γ):=
 o8 h p fun _ _ q=>.lstO p.at_ (q.nN l)
theorem qQ{H:Hp}{ts:List (Key × T)}{x:Option V}{Γ:Fm}(h:Rp K H ((.dK true ts,x)::Γ)):∃ a vs,x=some (.ref a)/\H a=some (.dK vs)/\ts.map (·.1)=vs.map (·.1)/\Rp K H ((.bare,some (.ref a))::(zz (ts.map (·.2)) (vs.map (·.2))++Γ)):=by
 obtain⟨Hz,N,h,nd,g,d⟩:=h
 cases h with
 | cons e h c=>
  rcases h with⟨h,_⟩ | ⟨v,rfl,h⟩
  ·cases h
  cases h with
  | dKO h1 c1=>
   obtain⟨e1,c2⟩:=c1.toL
   refine⟨_,_,rfl,h1,e1,Hz,N,.cons (L:=[_]) (M:=_++_) (by rw[e];rfl) (.inr ⟨_,rfl,.bare h1 fun xs r=>?_⟩) (c2.toL.app c),nd,g,d⟩
   rw[h1]at r;cases r
theorem yv{H:Hp}{ts:List (List Key × T)}{x:Option V}{Γ:Fm}(h:Rp K H ((.dT true ts,x)::Γ)):∃ a vs,x=some (.ref a)/\H a=some (.dT vs)/\ts.map (·.1)=vs.map (·.1)/\Rp K H ((.bare,some (.ref a))::(zz (ts.map (·.2)) (vs.map (·.2))++Γ)):=by
 obtain⟨Hz,N,h,nd,g,d⟩:=h
 cases h with
 | cons e h c=>
  rcases h with⟨h,_⟩ | ⟨v,rfl,h⟩
  ·cases h
  cases h with
  | dTO h1 c1=>
   obtain⟨e1,c2⟩:=c1.toL
   refine⟨_,_,rfl,h1,e1,Hz,N,.cons (L:=[_]) (M:=_++_) (by rw[e];rfl) (.inr ⟨_,rfl,.bare h1 fun xs r=>?_⟩) (c2.toL.app c),nd,g,d⟩
   rw[h1]at r;cases r
theorem bx{κ α β:Type}{ts:List (κ × α)}{vs:List (κ × β)}(e:ts.map (·.1)=vs.map (·.1)):ts.length=vs.length:=by
 have:=congrArg Lm e
 rwa[b_,b_]at this
theorem n8{H H':Hp}{a:M9}{ts:List (Key × T)}{vs:List (Key × V)}{Γ:Fm}(h:Rp K H ((.bare,some (.ref a))::(zz (ts.map (·.2)) (vs.map (·.2))++Γ)))(l:ts.map (·.1)=vs.map (·.1))(p:Put H a (.dK vs) H'):Rp K H' ((.dK true ts,some (.ref a))::Γ):=
 o8 h p fun _ _ q=>.dKO p.at_ (RepKs.ofL l (q.nN (by rw[b_,b_];exact bx l)))
theorem wC{H H':Hp}{a:M9}{ts:List (List Key × T)}{vs:List (List Key × V)}{Γ:Fm}(h:Rp K H ((.bare,some (.ref a))::(zz (ts.map (·.2)) (vs.map (·.2))++Γ)))(l:ts.map (·.1)=vs.map (·.1))(p:Put H a (.dT vs) H'):Rp K H' ((.dT true ts,some (.ref a))::Γ):=
 o8 h p fun _ _ q=>.dTO p.at_ (RepXs.ofL l (q.nN (by rw[b_,b_];exact bx l)))
theorem Bw{H H':Hp}{p:M9}{Δ:Fm}(h:Rp K H Δ)(hp:H p=none)(s:aN H H')(hn:H' p=some (.dT [])):Rp K H' ((.dT true [],some (.ref p))::Δ):=
 xj (Γ:=[]) h hp s hn fun _ _ q=>by cases q;exact .dTO hn .nil
theorem nV{H:Hp}{t:T}{x:Option V}{Γ:Fm}(h:Rp K H ((t,x)::Γ)):Rp K H ((er t,x)::Γ):=by
 obtain⟨Hz,N,h,nd,g,d⟩:=h
 cases h with
 | @cons _ _ L M _ _ e h c=>
  rcases h with⟨rfl,rfl⟩ | ⟨v,rfl,h⟩
  ·exact⟨Hz,N,.cons e (.inl ⟨rfl,rfl⟩) c,nd,g,d⟩
  subst e
  have dz:∀ b∈L,Hz b=none:=fun b m=>d b (IG _ m)
  let Z:Hp:=fun b=>if b∈L then H b else Hz b
  have hz:Gr Hz Z:=fun b u r=>by
   have nb:b ∉ L:=fun m=>by
    obtain⟨w,q⟩:=Rd.some r
    rw[dz b m]at q;cases q
   rcases r with r | ⟨o,r⟩
   ·exact .inl (by show(if b∈L then H b else Hz b)=_;rw[if_neg nb];exact r)
   exact .inr ⟨o,by show(if b∈L then H b else Hz b)=_;rw[if_neg nb];exact r⟩
  have zh:Gr Z H:=fun b u r=>by
   by_cases nb:b∈L
   ·rcases r with r | ⟨o,r⟩
    ·exact .inl (by have r:(if b∈L then H b else Hz b)=_:=r;rw[if_pos nb]at r;exact r)
    exact .inr ⟨o,by have r:(if b∈L then H b else Hz b)=_:=r;rw[if_pos nb]at r;exact r⟩
   refine g b u ?_
   rcases r with r | ⟨o,r⟩
   ·exact .inl (by have r:(if b∈L then H b else Hz b)=_:=r;rw[if_neg nb]at r;exact r)
   exact .inr ⟨o,by have r:(if b∈L then H b else Hz b)=_:=r;rw[if_neg nb]at r;exact r⟩
  have nd2:=JA.mp nd
  refine⟨Z,[]++M,.cons rfl (.inr ⟨v,rfl,h.frz hz fun b m=>?_⟩) (c.move (fun _ _ r=>r) hz fun b m u e=>⟨e,fun n=>n⟩),nd2.2.1,zh,fun b m=>?_⟩
  ·show(if b∈L then H b else Hz b)=_
   rw[if_pos m]
  show(if b∈L then H b else Hz b)=_
  rw[if_neg (fun z=>nd2.2.2 b z b m rfl)]
  exact d b (n_ _ m)
theorem iW{H:Hp}{t:T}{x:Option V}{Γ:Fm}(h:Rp K H ((t,x)::Γ))(n:aV t=true):Rp K H ((t,x)::(t,x)::Γ):=by
 obtain⟨Hz,N,h,nd,g,d⟩:=h
 cases h with
 | @cons _ _ L M _ _ e h c=>
  have hL:L=[]:=by
   rcases h with⟨_,rfl⟩ | ⟨v,_,h⟩
   ·rfl
   exact h.nil_of n
  subst hL
  exact⟨Hz,N,.cons (L:=[]) (M:=N) rfl h (.cons e h c),nd,g,d⟩
theorem mD.view {Hz H:Hp}(g:Gr Hz H){t:T}{x:Option V}{L:List M9}(h:mD K Hz H t x L):mD K H H (er t) x []:=by
 rcases h with⟨rfl,rfl⟩ | ⟨v,rfl,h⟩
 ·exact .inl ⟨rfl,rfl⟩
 exact .inr ⟨v,rfl,h.frz g fun _ _=>rfl⟩
theorem RepL.view {Hz H:Hp}(g:Gr Hz H):∀ {Γ:Fm} {L:List M9},RepL K Hz H Γ L->RepL K H H (Γ.map fun p=>(er p.1,p.2)) []
 | _,_,.nil=>.nil
 | _,_,.cons e h c=>.cons rfl (h.view g) (c.view g)
theorem oP{H:Hp}{Γ:Fm}(h:Rp K H Γ):Rp K H ((Γ.map fun p=>(er p.1,p.2))++[(.kp H,some .non)]):=by
 obtain⟨Hz,N,h,nd,g,d⟩:=h
 refine⟨H,[]++[],(h.view g).app (.cons rfl (.inr ⟨_,rfl,.kp .bq⟩) .nil),J_,.bq,fun b m=>by cases m⟩
def over(H H':Hp):Hp:=fun b=>match H b with
 | some u=>some u
 | none=>H' b
theorem cX{H H':Hp}{b:M9}{u:HO}(e:H b=some u):over H H' b=some u:=by unfold over;rw[e]
theorem iU{H H':Hp}{b:M9}(e:H b=none):over H H' b=H' b:=by unfold over;rw[e]
theorem wo(H H':Hp):aN H (over H H'):=fun b u e=>cX e
theorem p0{H H':Hp}(g:Gr H H'){b:M9}:over H H' b=H' b\/∃ o u,H' b=some (.frz o u)/\over H H' b=some u:=by
 cases q:H b with
 | none=>exact .inl (iU q)
 | some u=>
  rw[cX q]
  rcases g b u (.inl q)with r | ⟨o,r⟩
  ·exact .inl r.symm
  exact .inr ⟨o,u,r,rfl⟩
theorem qS{H H':Hp}(g:Gr H H'){b:M9}{xs:List V}(r:H' b=some (.tup xs)):over H H' b=some (.tup xs):=by
 rcases p0 g (b:=b)with e | ⟨o,u,e,_⟩
 ·rw[e];exact r
 rw[r]at e;cases e
theorem nQ{H H':Hp}{t:T}{x:Option V}{Γ Δ:Fm}(h:Rp K H Γ)(q:Rp K H' ((t,x)::(Δ++[(.kp H,some .non)])))(n:bE t=true):Gr H H'/\Rp K (over H H') ((t,x)::Γ):=by
 obtain⟨Hy,N',q,nd',g',d'⟩:=q
 cases q with
 | @cons _ _ L M _ _ e h1 c=>
  have hkp:Gr H Hy:=by
   obtain⟨_,_,_,_,c2⟩:=c.split
   cases c2 with
   | cons _ h2 _=>
    rcases h2 with⟨z,_⟩ | ⟨_,_,h2⟩
    ·cases z
    cases h2 with
    | kp z=>exact z
  have gr:=hkp.trans g'
  refine⟨gr,?_⟩
  subst e
  have nd2:=JA.mp nd'
  have hL:∀ b∈L,H b=none:=fun b m=>hkp.none (d' b (IG _ m))
  obtain⟨Hz,N,h,nd,g,d⟩:=h
  have so:=wo H H'
  have tk:TK H' (over H H'):=fun b xs r=>qS gr r
  have h1':mD K Hz (over H H') t x L:=by
   rcases h1 with⟨rfl,rfl⟩ | ⟨v,rfl,h1⟩
   ·exact .inl ⟨rfl,rfl⟩
   refine .inr ⟨v,rfl,h1.DR tk n fun b m u e=>?_⟩
   have eo:=iU (H':=H') (hL b m)
   exact⟨eo.trans e,fun nt xs r=>nt xs (by rw[<-eo];exact r)⟩
  refine⟨Hz,L++N,.cons rfl h1' (h.move (aN.tk so) .bq fun b m u e=>eO so b u e),?_,g.trans (.of so),?_⟩
  ·rw[JA]
   refine⟨nd2.1,nd,fun b m b' m' z=>?_⟩
   subst z
   obtain⟨⟨u,e⟩,_⟩:=h.there b m'
   rw[hL b m]at e;cases e
  intro b m
  rcases D_.mp m with m | m
  ·exact g.none (hL b m)
  exact d b m
theorem oa:∀ {ts:List T} {vs:List V} {i:Nat} {t:T},ts.length=vs.length->ts[i]?=some t->∃ w,vs[i]?=some w
 | ts,vs,i,t,l,e=>by
  have h:i < ts.length:=(c_.mp e).1
  exact⟨vs[i]'(by omega),a_ (by omega)⟩
theorem gR{α:Type}:∀ {l:List α} {i:Nat} {x y:α},l[i]?=some y->(l.set i x).set i y=l
 | [],i,x,y,e=>by simp at e
 | a::l,0,x,y,e=>by simp at e;subst e;rfl
 | a::l,i + 1,x,y,e=>by
  simp only[JV]at e
  rw[Lp,Lp,gR e]
end
theorem kc{α β:Type}:∀ {l:List α} {m:List β} {i:Nat} {a:α} {b:β} (t:α) (y:β),l[i]?=some a->m[i]?=some b->((a,b)::(l.set i t).zip (m.set i y)).Perm ((t,y)::l.zip m)
 | [],m,i,a,b,t,y,h,_=>by simp at h
 | x::l,[],i,a,b,t,y,_,h=>by simp at h
 | x::l,z::m,0,a,b,t,y,h,g=>by
  simp only[KO,Mv]at h g
  subst h;subst g
  exact .swap _ _ _
 | x::l,z::m,i + 1,a,b,t,y,h,g=>by
  simp only[JV]at h g
  have p:=kc t y h g
  show MO ((a,b)::(x,z)::(l.set i t).zip (m.set i y)) ((t,y)::(x,z)::l.zip m)
  exact(Lk _ _ _).trans ((p.cons _).trans (.swap _ _ _))
theorem set_same{α:Type}{l:List α}{i:Nat}{x:α}(h:l[i]?=some x):l.set i x=l:=by
 have:=gR (x:=x) h
 rw[LQ]at this
 exact this
section
variable{K:M8}
def Rs(K:M8)(H:Hp)(env:Ev)(σ:St)(Fr:Fm):Prop:=env.length=σ.length/\Rp K H (env.zip σ++Fr)
theorem e6{H:Hp}{x:Option V}{Γ:Fm}(h:Rp K H Γ):Rp K H ((.any,x)::Γ):=by
 obtain⟨Hz,N,h,nd,g,d⟩:=h
 exact⟨Hz,N,.cons (L:=[]) rfl (.inl ⟨rfl,rfl⟩) h,nd,g,d⟩
theorem Rs.perm {H:Hp}{env:Ev}{σ:St}{Fr Gr:Fm}(h:Rs K H env σ Fr)(p:Fr.Perm Gr):Rs K H env σ Gr:=⟨h.1,h.2.perm (p.append_left _)⟩
theorem Rs.drop {H:Hp}{env:Ev}{σ:St}{x:T × Option V}{Fr:Fm}(h:Rs K H env σ (x::Fr)):Rs K H env σ Fr:=⟨h.1,(h.2.perm e_).tail⟩
theorem Rs.head {H:Hp}{env:Ev}{σ:St}{x:T × Option V}{Fr:Fm}(h:Rs K H env σ (x::Fr)):Rp K H (x::(env.zip σ++Fr)):=h.2.perm e_
theorem Rs.of {H:Hp}{env:Ev}{σ:St}{x:T × Option V}{Fr:Fm}(l:env.length=σ.length)(h:Rp K H (x::(env.zip σ++Fr))):Rs K H env σ (x::Fr):=⟨l,h.perm e_.symm⟩
theorem Rs.chg {H H':Hp}{env:Ev}{σ:St}{Δ Δ' Fr:Fm}(h:Rs K H env σ (Δ++Fr))(f:∀ Γ,Rp K H (Δ++Γ)->Rp K H' (Δ'++Γ)):Rs K H' env σ (Δ'++Fr):=by
 refine⟨h.1,?_⟩
 have p:∀ A:Fm,(A++(env.zip σ++Fr)).Perm (env.zip σ++(A++Fr)):=fun A=>by
  rw[<-h_,<-h_]
  exact Jt.append_right _
 exact(f _ (h.2.perm (p Δ).symm)).perm (p Δ')
theorem Rs.slot {H:Hp}{env:Ev}{σ:St}{Fr:Fm}{i:Nat}{t:T}(h:Rs K H env σ Fr)(e:env[i]?=some t):∃ x,σ[i]?=some x/\Rs K H (env.set i .any) σ ((t,x)::Fr):=by
 have hi:i < env.length:=(c_.mp e).1
 have hs:i < σ.length:=by rw[<-h.1];exact hi
 have ex:σ[i]?=some σ[i]:=a_ hs
 refine⟨σ[i],ex,by rw[IE];exact h.1,?_⟩
 have p:=kc (T.any) σ[i] e ex
 rw[set_same ex]at p
 refine(e6 (x:=σ[i]) h.2).perm ?_
 refine A_ ?_ e_.symm
 exact(p.symm.append_right Fr)
theorem Rs.dS {H:Hp}{env:Ev}{σ:St}{Fr:Fm}{i:Nat}{t:T}{x:Option V}(h:Rs K H env σ ((t,x)::Fr))(hi:i < env.length)(ex:σ[i]?=some x):Rs K H (env.set i t) σ Fr:=by
 have e:env[i]?=some env[i]:=a_ hi
 refine⟨by rw[IE];exact h.1,?_⟩
 have p:=kc t x e ex
 rw[set_same ex]at p
 refine Rp.tail (x:=(env[i],x)) (h.2.perm ?_)
 refine e_.trans ?_
 exact(p.symm.append_right Fr)
theorem Rs.store {H:Hp}{env:Ev}{σ:St}{Fr:Fm}{i:Nat}{t:T}{v:V}(h:Rs K H env σ ((t,some v)::Fr))(hi:i < env.length):Rs K H (env.set i t) (σ.set i (some v)) Fr:=by
 have e:env[i]?=some env[i]:=a_ hi
 have hs:i < σ.length:=by rw[<-h.1];exact hi
 have ex:σ[i]?=some σ[i]:=a_ hs
 refine⟨by rw[IE,IE];exact h.1,?_⟩
 have p:=kc t (some v) e ex
 refine Rp.tail (x:=(env[i],σ[i])) (h.2.perm ?_)
 refine e_.trans ?_
 exact(p.symm.append_right Fr)
end
theorem lC{X:Cx}{pins:List (M9 × Obj)}{σ σ':St}{H H':Hp}{s s':M_}(I:Inv X pins σ H s)(J:Inv X pins σ' H' s')(g:Gr H H'):Inv X pins σ' (over H H') s':=by
 have nn:∀ b,H' b=none->over H H' b=none:=fun b e=>by rw[iU (g.none e)];exact e
 refine⟨J.ok,J.os,J.bare,⟨J.base.keep,J.base.slot,?_,J.base.there,?_,?_,?_⟩,J.loc,J.cell,nn _ J.free,fun x c e=>nn _ (J.freeC x c e),fun p hp=>?_,?_,J.len⟩
 ·exact fun b o e1 e2 e3=>nn _ (J.base.free b o e1 e2 e3)
 ·exact fun b xs e=>cX (I.base.tups b xs e)
 ·exact fun b o u e=>cX (I.base.frzs b o u e)
 ·exact fun b ps e=>by
   obtain⟨m,em⟩:=I.base.tbls b ps e
   exact⟨m,cX em⟩
 ·obtain⟨h1,h2,h3⟩:=J.pin p hp
  exact⟨h1,nn _ h2,h3⟩
 intro b u e
 have ho:∀ c y,H' c=some (.own y)->over H H' c=some (.own y):=fun c y q=>by
  rcases p0 g (b:=c)with z | ⟨o,w,z,_⟩
  ·rw[z];exact q
  rw[q]at z;cases z
 have ht:∀ c xs,H' c=some (.tup xs)->over H H' c=some (.tup xs):=fun c xs q=>qS g q
 have key:bj X.prog X.w H' s'.heap b u:=by
  rcases p0 g (b:=b)with z | ⟨o,w,z,zw⟩
  ·rw[z]at e;exact J.hok b u e
  rw[zw]at e
  cases e
  exact(J.hok b _ z).2
 exact key.gI (fun c v _ q=>q) (fun c=>ho c b) ht
theorem Ad{X:Cx}{e:Nn}{t:TE}(h:PE X e t):PE X e (fun σ H Q=>t σ H fun v H'=>Gr H H'/\Q v (over H H')):=fun pins s σ H Q I q=>
 thn (h pins s σ H _ I q) fun u s' ⟨v,H',I',r,g,q'⟩=>⟨v,over H H',lC I I' g,r,q'⟩
theorem B0{X:Cx}{e:Nn}{t:TT}(h:PT X e t):PT X e (fun σ H Q=>t σ H fun b H'=>Gr H H'/\Q b (over H H')):=fun pins s σ H Q I q=>
 thn (h pins s σ H _ I q) fun b s' ⟨H',I',g,q'⟩=>⟨over H H',lC I I' g,q'⟩
abbrev PF:=Ev->(T->Ev->Prop)->Prop
abbrev PB:=Ev->(Bool->Ev->Prop)->Prop
abbrev PFs:=Ev->(List T->Ev->Prop)->Prop
noncomputable def wE(K:M8)(f:PF):TE:=fun σ H Q=>∃ env Fr k,Rs K H env σ Fr/\f env k/\∀ t env' v H',k t env'->Rs K H' env' σ ((t,some v)::Fr)->Q v H'
def wB(K:M8)(f:PB):TT:=fun σ H Q=>∃ env Fr k,Rs K H env σ Fr/\f env k/\∀ b env' H',k b env'->Rs K H' env' σ Fr->Q b H'
noncomputable def wA(K:M8)(f:PFs):TA:=fun σ H Q=>∃ env Fr k,Rs K H env σ Fr/\f env k/\∀ ts env' vs H',k ts env'->ts.length=vs.length->Rs K H' env' σ (zz ts vs++Fr)->Q vs H'
def GE(X:Cx)(e:Nn)(f:PF):Prop:=PE X e (wE X.K f)
def GT(X:Cx)(e:Nn)(f:PB):Prop:=PT X e (wB X.K f)
def GW(X:Cx)(e:Nn)(f:PB):Prop:=PW X e (wB X.K f)
def GA(X:Cx)(es:List Nn)(f:PFs):Prop:=PA X es (wA X.K f)
theorem PE.imp {X:Cx}{e:Nn}{t t':TE}(h:PE X e t)(k:∀ σ H Q,t' σ H Q->t σ H Q):PE X e t':=fun pins s σ H Q I q=>h pins s σ H Q I (k _ _ _ q)
theorem PT.imp {X:Cx}{e:Nn}{t t':TT}(h:PT X e t)(k:∀ σ H Q,t' σ H Q->t σ H Q):PT X e t':=fun pins s σ H Q I q=>h pins s σ H Q I (k _ _ _ q)
theorem PW.imp {X:Cx}{e:Nn}{t t':TT}(h:PW X e t)(k:∀ σ H Q,t' σ H Q->t σ H Q):PW X e t':=fun wh pins s σ H Q I q=>h wh pins s σ H Q I (k _ _ _ q)
theorem PA.imp {X:Cx}{es:List Nn}{t t':TA}(h:PA X es t)(k:∀ σ H Q,t' σ H Q->t σ H Q):PA X es t':=fun pos pins s σ H Q I q=>h pos pins s σ H Q I (k _ _ _ q)
def fQ(f:PF):PF:=fun env k=>f (erL env) fun t _=>bE t=true/\k t env
def fQT(f:PB):PB:=fun env k=>f (erL env) fun b _=>k b env
theorem kB:∀(env:Ev) (σ:St),(env.zip σ).map (fun p=>(er p.1,p.2))=(erL env).zip σ
 | [],σ=>by simp[erL]
 | t::env,[]=>by simp
 | t::env,x::σ=>by
  rw[erL,JG,k_,JG,kB env σ]
theorem aQ{X:Cx}{e:Nn}{f:PF}(h:GE X e f):GE X e (fQ f):=by
 refine PE.imp (Ad h) ?_
 rintro σ H Q ⟨env,Fr,k,rs,q,c⟩
 have rv:Rs X.K H (erL env) σ ((Fr.map fun p=>(er p.1,p.2))++[(.kp H,some .non)]):=by
  refine⟨by rw[jR];exact rs.1,?_⟩
  have:=oP rs.2
  rw[A',kB,h_]at this
  exact this
 refine⟨erL env,_,_,rv,q,?_⟩
 rintro t env' v H' ⟨n,kt⟩ rs'
 obtain⟨g,r2⟩:=nQ rs.2 (Δ:=env'.zip σ++(Fr.map fun p=>(er p.1,p.2))) (by rw[h_];exact rs'.head) n
 exact⟨g,c t env v _ kt (.of rs.1 r2)⟩
theorem xA{K:M8}{H H':Hp}{Γ Δ:Fm}(h:Rp K H Γ)(q:Rp K H' (Δ++[(.kp H,some .non)])):Gr H H'/\Rp K (over H H') Γ:=by
 obtain⟨g,r⟩:=nQ (t:=.any) (x:=none) h (e6 q) rfl
 exact⟨g,r.tail⟩
theorem mB{X:Cx}{e:Nn}{f:PB}(h:GT X e f):GT X e (fQT f):=by
 refine PT.imp (B0 h) ?_
 rintro σ H Q ⟨env,Fr,k,rs,q,c⟩
 have rv:Rs X.K H (erL env) σ ((Fr.map fun p=>(er p.1,p.2))++[(.kp H,some .non)]):=by
  refine⟨by rw[jR];exact rs.1,?_⟩
  have:=oP rs.2
  rw[A',kB,h_]at this
  exact this
 refine⟨erL env,_,_,rv,q,?_⟩
 rintro b env' H' kt rs'
 obtain⟨g,r2⟩:=xA rs.2 (Δ:=env'.zip σ++(Fr.map fun p=>(er p.1,p.2))) (by rw[h_];exact rs'.2)
 exact⟨g,c b env _ kt ⟨rs.1,r2⟩⟩
def fK(t:T):PF:=fun env k=>k t env
section
variable{X:Cx}{pos:Pos}
theorem m5{K:M8}{H:Hp}{env:Ev}{σ:St}{Fr:Fm}{t:T}{v:V}(h:Rs K H env σ Fr)(r:∀ Hz,RepT K Hz H t v []):Rs K H env σ ((t,some v)::Fr):=by
 refine .of h.1 ?_
 obtain⟨Hz,N,q,nd,g,d⟩:=h.2
 exact⟨Hz,N,.cons (L:=[]) rfl (.inr ⟨v,rfl,r Hz⟩) q,nd,g,d⟩
theorem ge_int{i:Int}{j:Nat}:GE X (.Constant (.int i) j pos) (fK (.int i)):=PE.imp bp fun σ H Q ⟨env,Fr,k,rs,q,c⟩=>c _ _ _ _ q (m5 rs fun _=>.int)
theorem qJ{b:Bool}{j:Nat}:GE X (.Constant (.bool b) j pos) (fK (.bl b)):=PE.imp x8 fun σ H Q ⟨env,Fr,k,rs,q,c⟩=>c _ _ _ _ q (m5 rs fun _=>.bl)
theorem nS{j:Nat}:GE X (.Constant .none j pos) (fK .non):=PE.imp Ee fun σ H Q ⟨env,Fr,k,rs,q,c⟩=>c _ _ _ _ q (m5 rs fun _=>.non)
def isAny:T->Bool
 | .any=>true
 | _=>false
def Ao(i:Nat):PF:=fun env k=>match env[i]? with
 | some t=>isAny t=false/\aV t=true/\k t env
 | none=>False
def fFz(i:Nat):PF:=fun env k=>match env[i]? with
 | some t=>isAny t=false/\k (er t) (env.set i (er t))
 | none=>False
def fMv(i:Nat):PF:=fun env k=>match env[i]? with
 | some t=>isAny t=false/\k t (env.set i .any)
 | none=>False
theorem cG{K:M8}{H:Hp}{env:Ev}{σ:St}{Fr:Fm}{t:T}{x:Option V}(h:Rs K H env σ ((t,x)::Fr))(n:isAny t=false):∃ v,x=some v:=by
 obtain⟨Hz,N,q,_⟩:=h.head
 cases q with
 | cons e h c=>
  rcases h with⟨rfl,_⟩ | ⟨v,e,_⟩
  ·cases n
  exact⟨v,e⟩
theorem ab(i:Nat){x:Str}(hN:X.N[i]?=some x:=by rfl)(hv:Vis X.env.scope x:=by first | exact f' rfl | exact i_ (f' rfl) | exact i_ (i_ rfl))(hd:(x ==("__debug__":Str))=false:=by decide)(hcd:(x ==("__classdict__":Str))=false:=by decide):GE X (.Name x pos) (Ao i):=by
 refine PE.imp (cU hN hv hd hcd) ?_
 rintro σ H Q ⟨env,Fr,k,rs,q,c⟩
 unfold Ao at q
 split at q
 ·rename_i t e
  obtain⟨na,no,q⟩:=q
  obtain⟨y,ey,rs2⟩:=rs.slot e
  obtain⟨v,rfl⟩:=cG rs2 na
  refine⟨v,ey,c _ _ _ _ q ?_⟩
  have hi:i < env.length:=(c_.mp e).1
  have r3:Rs X.K H (env.set i .any) σ ((t,some v)::(t,some v)::Fr):=.of rs2.1 ((iW rs2.head no).perm (by
   refine Ll _ ?_
   exact e_.symm))
  have r4:=Rs.dS (i:=i) r3 (by rw[IE];exact hi) ey
  rw[gR e]at r4
  exact r4
 exact q.elim
theorem bh(i:Nat){x:Str}(hN:X.N[i]?=some x:=by rfl)(hv:Vis X.env.scope x:=by first | exact f' rfl | exact i_ (f' rfl) | exact i_ (i_ rfl))(hd:(x ==("__debug__":Str))=false:=by decide)(hcd:(x ==("__classdict__":Str))=false:=by decide):GE X (.Name x pos) (fFz i):=by
 refine PE.imp (cU hN hv hd hcd) ?_
 rintro σ H Q ⟨env,Fr,k,rs,q,c⟩
 unfold fFz at q
 split at q
 ·rename_i t e
  obtain⟨na,q⟩:=q
  obtain⟨y,ey,rs2⟩:=rs.slot e
  obtain⟨v,rfl⟩:=cG rs2 na
  refine⟨v,ey,c _ _ _ _ q ?_⟩
  have hi:i < env.length:=(c_.mp e).1
  have no:aV (er t)=true:=bz t
  have r3:Rs X.K H (env.set i .any) σ ((er t,some v)::(er t,some v)::Fr):=.of rs2.1 ((iW (nV rs2.head) no).perm (by
   refine Ll _ ?_
   exact e_.symm))
  have r4:=Rs.dS (i:=i) r3 (by rw[IE];exact hi) ey
  rw[LQ]at r4
  exact r4
 exact q.elim
theorem nD(i:Nat){x:Str}(hN:X.N[i]?=some x:=by rfl)(hv:Vis X.env.scope x:=by first | exact f' rfl | exact i_ (f' rfl) | exact i_ (i_ rfl))(hd:(x ==("__debug__":Str))=false:=by decide)(hcd:(x ==("__classdict__":Str))=false:=by decide):GE X (.Name x pos) (fMv i):=by
 refine PE.imp (cU hN hv hd hcd) ?_
 rintro σ H Q ⟨env,Fr,k,rs,q,c⟩
 unfold fMv at q
 split at q
 ·rename_i t e
  obtain⟨na,q⟩:=q
  obtain⟨y,ey,rs2⟩:=rs.slot e
  obtain⟨v,rfl⟩:=cG rs2 na
  exact⟨v,ey,c _ _ _ _ q rs2⟩
 exact q.elim
end
section
variable{K:M8}{H:Hp}{Γ:Fm}
theorem fT{t:T}{y:V}(h:Rp K H ((t,some y)::Γ))(n:isAny t=false):∃ Hz L,RepT K Hz H t y L/\Gr Hz H:=by
 obtain⟨Hz,N,h,nd,g,d⟩:=h
 cases h with
 | cons e h c=>
  rcases h with⟨rfl,_⟩ | ⟨v,e2,h⟩
  ·cases n
  cases e2
  exact⟨Hz,_,h,g⟩
theorem aR{i:Int}{y:V}(h:Rp K H ((.int i,some y)::Γ)):y=.int i:=by
 obtain⟨_,_,r,_⟩:=fT h rfl
 cases r;rfl
theorem mF{i:Bool}{y:V}(h:Rp K H ((.bl i,some y)::Γ)):y=.bl i:=by
 obtain⟨_,_,r,_⟩:=fT h rfl
 cases r;rfl
theorem eD{i:Str}{y:V}(h:Rp K H ((.str i,some y)::Γ)):y=.str i:=by
 obtain⟨_,_,r,_⟩:=fT h rfl
 cases r;rfl
theorem xy{y:V}(h:Rp K H ((.non,some y)::Γ)):y=.non:=by
 obtain⟨_,_,r,_⟩:=fT h rfl
 cases r;rfl
theorem bP{t:T}{v:V}(h:Rp K H Γ)(r:∀ Hz,RepT K Hz H t v []):Rp K H ((t,some v)::Γ):=by
 obtain⟨Hz,N,q,nd,g,d⟩:=h
 exact⟨Hz,N,.cons (L:=[]) rfl (.inr ⟨v,rfl,r Hz⟩) q,nd,g,d⟩
def items:T->Option (List T)
 | .tup ts=>some ts
 | .cst ts=>some ts
 | .lst _ ts=>some ts
 | _=>none
def oT:T->Bool
 | .tup _=>true
 | .cst _=>true
 | _=>false
theorem u7{a:M9}{vs:List V}(h:SqT K (fun _=>none) a vs)(H:Hp):SqT K H a vs:=by
 rcases h with (h | ⟨_,h⟩) | h
 ·cases h
 ·cases h
 exact .inr h
theorem aD{t:T}{ts:List T}{y:V}(e:items t=some ts)(h:Rp K H ((t,some y)::Γ)):∃ a vs,y=.ref a/\SqG (oT t) K H a vs/\ts.length=vs.length/\Rp K H (zz ts vs++Γ):=by
 obtain⟨Hz,N,h,nd,g,d⟩:=h
 cases h with
 | cons e1 h c=>
  rcases h with⟨rfl,_⟩ | ⟨v,e2,h⟩
  ·cases e
  cases e2
  cases h <;> cases e
  ·rename_i a vs h c1
   exact⟨a,vs,rfl,SqT.of h,c1.len,Hz,_,c1.toL.app c,by rw[<-e1];exact nd,g,fun b m=>d b (by rw[e1];exact m)⟩
  ·rename_i a vs h c1
   exact⟨a,vs,rfl,u7 h H,c1.len,Hz,_,c1.toL.app c,by rw[<-e1];exact nd,g,fun b m=>d b (by rw[e1];exact m)⟩
  ·rename_i a vs L h c1
   rw[e1,IV,E_]at nd
   exact⟨a,vs,rfl,SqL.of h,c1.len,Hz,_,c1.toL.app c,nd.2,g,fun b m=>d b (by rw[e1,IV];exact l_ _ m)⟩
  rename_i a vs h c1
  exact⟨a,vs,rfl,.inl (g _ _ h),c1.len,Hz,_,c1.toL.app c,by rw[<-e1];exact nd,g,fun b m=>d b (by rw[e1];exact m)⟩
theorem uL:∀ {ts:List T} {vs:List V} {i:Nat} {t:T} {w:V},ts[i]?=some t->vs[i]?=some w->∃ r,(zz ts vs).Perm ((t,some w)::r)
 | [],vs,i,t,w,e,f=>by simp at e
 | t::ts,[],i,_,w,e,f=>by simp at f
 | t::ts,v::vs,0,u,w,e,f=>by
  simp only[KO,Mv]at e f
  subst e;subst f
  exact⟨_,.refl _⟩
 | t::ts,v::vs,i + 1,u,w,e,f=>by
  simp only[JV]at e f
  obtain⟨r,h⟩:=uL (ts:=ts) (vs:=vs) e f
  exact⟨(t,some v)::r,(h.cons _).trans (.swap _ _ _)⟩
theorem i9{ts:List T}{vs:List V}{i:Nat}{t:T}{w:V}(h:Rp K H (zz ts vs++Γ))(e:ts[i]?=some t)(f:vs[i]?=some w):Rp K H ((t,some w)::Γ):=by
 obtain⟨r,p⟩:=uL e f
 refine Rp.part (Γ:=r) (h.perm ?_)
 refine(p.append_right Γ).trans ?_
 exact e_.symm
theorem zZ{ts:List T}{vs:List V}{i:Int}{t:T}(l:ts.length=vs.length)(e:atI ts i=some t)(h:Rp K H (zz ts vs++Γ)):∃ w,atI vs i=some w/\Rp K H ((t,some w)::Γ):=by
 unfold atI at e ⊢
 rw[l]at e
 cases q:ixN vs.length i with
 | none=>rw[q]at e;cases e
 | some j=>
  rw[q]at e
  have e:ts[j]?=some t:=e
  obtain⟨w,f⟩:=oa l e
  exact⟨w,f,i9 h e f⟩
end
def got{α:Type}(o:Option α)(k:α->Prop):Prop:=match o with
 | some u=>k u
 | none=>False
theorem DB{α:Type}{o:Option α}{u:α}{k:α->Prop}(e:o=some u)(h:k u):got o k:=by rw[e];exact h
theorem aH{α:Type}{o:Option α}{k:α->Prop}(h:got o k):∃ u,o=some u/\k u:=by
 cases o with
 | none=>exact h.elim
 | some u=>exact⟨u,rfl,h⟩
def cnd(b:Bool)(A B:Prop):Prop:=(b=true->A)/\(b=false->B)
theorem CA{A B:Prop}(h:A):cnd true A B:=⟨fun _=>h,fun e=>by cases e⟩
theorem Hd{A B:Prop}(h:B):cnd false A B:=⟨fun e=>(by cases e),fun _=>h⟩
theorem dB{b:Bool}{A B:Prop}(h:cnd b A B):if b=true then A else B:=by
 cases b with
 | true=>rw[if_pos rfl];exact h.1 rfl
 | false=>rw[if_neg (by decide)];exact h.2 rfl
abbrev P2:=T->T->(T->Prop)->Prop
noncomputable def w2(K:M8)(g:P2):R2:=fun x y H Q=>∃ tx ty Γ k,Rp K H ((ty,some y)::(tx,some x)::Γ)/\g tx ty k/\∀ t v H',k t->Rp K H' ((t,some v)::Γ)->Q v H'
def OpP(X:Cx)(f:M7->M7->Sem M7)(g:P2):Prop:=OpR X f (w2 X.K g)
theorem OpP.of {X:Cx}{f:M7->M7->Sem M7}{g:P2}{r:R2}(h:OpR X f r)(k:∀ tx ty x y H Γ (k:T->Prop) (Q:VK),Rp X.K H ((ty,some y)::(tx,some x)::Γ)->g tx ty k->(∀ t v H',k t->Rp X.K H' ((t,some v)::Γ)->Q v H')->r x y H Q):OpP X f g:=
 fun pins s σ H x y v u Q I rx ry ⟨tx,ty,Γ,kk,rp,g,c⟩=>h pins s σ H x y v u Q I rx ry (k tx ty x y H Γ kk Q rp g c)
def vY(g:P2)(a b:PF):PF:=fun env k=>a env fun x env1=>b env1 fun y env2=>g x y fun t=>k t env2
theorem vA{X:Cx}{g:P2}{fa fb:PF}:∀ σ H Q,wE X.K (vY g fa fb) σ H Q->tOp (w2 X.K g) (wE X.K fa) (wE X.K fb) σ H Q:=by
 rintro σ H Q ⟨env,Fr,k,rs,q,c⟩
 refine⟨env,Fr,_,rs,q,fun tx env1 x H1 q1 rs1=>⟨env1,_,_,rs1,q1,fun ty env2 y H2 q2 rs2=>?_⟩⟩
 refine⟨tx,ty,env2.zip σ++Fr,_,?_,q2,fun t v H' kt rp=>c _ _ _ _ kt (.of rs2.1 rp)⟩
 exact rs2.head.perm (.cons _ e_)
section
variable{X:Cx}{a b c d:Nn}{fa fb fc fd:PF}{pos:Pos}
theorem aP{op:QP}{g:P2}(ho:OpP X (NY op) g)(ha:GE X a fa)(hb:GE X b fb):GE X (.BinOp a op b pos) (vY g fa fb):=PE.imp (bV ho ha hb) vA
theorem pQ{op:Q5}{g:P2}(ho:OpP X (NP op) g)(ha:GE X a fa)(hb:GE X b fb)(hm:Ov op b=false):GE X (.Compare a [op] [b] pos) (vY g fa fb):=PE.imp (pP ho ha hb hm) vA
def EI(f:PF):PB:=fun env k=>f env fun t env'=>match t with
 | .bl b=>k b env'
 | _=>False
theorem EN{K:M8}{f:PF}:∀ σ H Q,wB K (EI f) σ H Q->Cj (wE K f) σ H Q:=by
 rintro σ H Q ⟨env,Fr,k,rs,q,c⟩
 refine⟨env,Fr,_,rs,q,fun t env' v H' q1 rs1=>?_⟩
 cases t <;> first | exact q1.elim | skip
 rename_i b
 exact⟨b,mF rs1.head,c _ _ _ q1 rs1.drop⟩
theorem cK{op:Q5}{g:P2}(ho:OpP X (NP op) g)(ha:GE X a fa)(hb:GE X b fb)(hm:Ov op b=false):GT X (.Compare a [op] [b] pos) (EI (vY g fa fb)):=by
 refine PT.imp (eQ ho ha hb hm) fun σ H Q h=>?_
 obtain⟨env,Fr,k,rs,q,c⟩:=EN σ H Q h
 exact vA σ H _ ⟨env,Fr,k,rs,q,c⟩
noncomputable def yo:T->(Bool->Prop)->Prop
 | .non,k=>k false
 | .bl b,k=>k b
 | .int i,k=>k (i != 0)
 | .str x,k=>x.length<=sizeLine/\k ((x.length:Int) != 0)
 | .tup ts,k=>k (!ts.isEmpty)
 | .cst ts,k=>k (!ts.isEmpty)
 | .lst _ ts,k=>k (!ts.isEmpty)
 | _,_=>False
def G2(f:PF):PB:=fun env k=>f env fun t env'=>yo t fun b=>k b env'
theorem rR{α β:Type}{l:List α}{m:List β}(h:l.length=m.length):l.isEmpty=m.isEmpty:=by
 cases l <;> cases m <;> first | rfl | simp at h
theorem fV(ha:GE X a fa)(he:∀ whole,Rj a X.env whole=(do let v <-whole;R5 a.pos;Pt [v] (Ul v)):=by intro _;rfl):GT X a (G2 fa):=by
 refine PT.imp (zV ha he) ?_
 rintro σ H Q ⟨env,Fr,k,rs,q,c⟩
 refine⟨env,Fr,_,rs,q,fun t env' v H' q1 rs1=>?_⟩
 have fin:∀ b,k b env'->Q b H':=fun b kb=>c _ _ _ kb rs1.drop
 have sq:∀ ts b,items t=some ts->b=(!ts.isEmpty)->k b env'->∃ b,DI X.K v H' b/\Q b H':=fun ts b e eb kb=>by
  obtain⟨a,vs,rfl,hq,l,_⟩:=aD e rs1.head
  refine⟨b,?_,fin b kb⟩
  rw[rR l]at eb
  revert hq
  cases oT t with
  | true=>exact fun hq=>.inr (.inl ⟨vs,hq,eb⟩)
  | false=>exact fun hq=>.inl ⟨vs,hq,eb⟩
 cases t with
 | non=>rw[xy rs1.head];exact⟨_,rfl,fin _ q1⟩
 | bl b=>rw[mF rs1.head];exact⟨_,rfl,fin _ q1⟩
 | int i=>rw[aR rs1.head];exact⟨_,rfl,fin _ q1⟩
 | str x=>rw[eD rs1.head];exact⟨_,⟨q1.1,rfl⟩,fin _ q1.2⟩
 | tup ts=>exact sq _ _ rfl rfl q1
 | cst ts=>exact sq _ _ rfl rfl q1
 | lst o ts=>exact sq _ _ rfl rfl q1
 | _=>exact q1.elim
def Cn(ta tb:PB):PB:=fun env k=>ta env fun b env1=>cnd b (tb env1 k) (k false env1)
def GC(ta tb:PB):PB:=fun env k=>ta env fun b env1=>cnd b (k true env1) (tb env1 k)
def CM(ta:PB):PB:=fun env k=>ta env fun b env1=>k (!b) env1
variable{ta tb:PB}{rest:List Nn}
theorem By(ha:GT X a ta):GW X (.BoolOp .And [a] pos) ta:=Bu ha
theorem Dp(ha:GT X a ta):GW X (.BoolOp .Or [a] pos) ta:=sV ha
theorem Em(ha:GT X a ta)(hb:GW X (.BoolOp .And (b::rest) pos) tb):GW X (.BoolOp .And (a::b::rest) pos) (Cn ta tb):=by
 refine PW.imp (DU ha hb) ?_
 rintro σ H Q ⟨env,Fr,k,rs,q,c⟩
 refine⟨env,Fr,_,rs,q,fun b env' H' q1 rs1=>dB ⟨fun e=>?_,fun e=>?_⟩⟩
 ·exact⟨env',Fr,k,rs1,q1.1 e,c⟩
 exact c _ _ _ (q1.2 e) rs1
theorem FD(ha:GT X a ta)(hb:GW X (.BoolOp .Or (b::rest) pos) tb):GW X (.BoolOp .Or (a::b::rest) pos) (GC ta tb):=by
 refine PW.imp (xV ha hb) ?_
 rintro σ H Q ⟨env,Fr,k,rs,q,c⟩
 refine⟨env,Fr,_,rs,q,fun b env' H' q1 rs1=>dB ⟨fun e=>?_,fun e=>?_⟩⟩
 ·exact c _ _ _ (q1.1 e) rs1
 exact⟨env',Fr,k,rs1,q1.2 e,c⟩
theorem FF{f:PB}(h:GW X a f):GT X a f:=PW.pt h
theorem lN(ha:GT X a ta):GT X (.UnaryOp .Not a pos) (CM ta):=by
 refine PT.imp (EL ha) ?_
 rintro σ H Q ⟨env,Fr,k,rs,q,c⟩
 exact⟨env,Fr,_,rs,q,fun b env' H' q1 rs1=>c _ _ _ q1 rs1⟩
noncomputable def FG(fa fb:PF):PF:=fun env k=>fa env fun t env1=>match t with
 | .bl b=>cnd b (fb env1 k) (k (.bl false) env1)
 | _=>False
def fIf(tc:PB)(fa fb:PF):PF:=fun env k=>tc env fun b env1=>cnd b (fa env1 k) (fb env1 k)
theorem F0{op}(h:GE X a fa):GE X (.BoolOp op [a] pos) fa:=sR h
theorem Ej(ha:GE X a fa)(hb:GE X (.BoolOp .And (b::rest) pos) fb):GE X (.BoolOp .And (a::b::rest) pos) (FG fa fb):=by
 refine PE.imp (pI ha hb) ?_
 rintro σ H Q ⟨env,Fr,k,rs,q,c⟩
 refine⟨env,Fr,_,rs,q,fun t env' v H' q1 rs1=>?_⟩
 cases t <;> first | exact q1.elim | skip
 rename_i bb
 refine⟨bb,mF rs1.head,dB ⟨fun e=>?_,fun e=>?_⟩⟩
 ·exact⟨env',Fr,k,rs1.drop,q1.1 e,c⟩
 exact c _ _ _ _ (q1.2 e) (m5 rs1.drop fun _=>.bl)
theorem ge_if(hc:GT X c ta)(ha:GE X a fa)(hb:GE X b fb):GE X (.IfExp c a b pos) (fIf ta fa fb):=by
 refine PE.imp (zB hc ha hb) ?_
 rintro σ H Q ⟨env,Fr,k,rs,q,c⟩
 refine⟨env,Fr,_,rs,q,fun b env' H' q1 rs1=>dB ⟨fun e=>?_,fun e=>?_⟩⟩
 ·exact⟨env',Fr,k,rs1,q1.1 e,c⟩
 exact⟨env',Fr,k,rs1,q1.2 e,c⟩
def DW:PFs:=fun env k=>k [] env
def Cp(f:PF)(r:PFs):PFs:=fun env k=>f env fun t env1=>r env1 fun ts env2=>k (t::ts) env2
variable{es:List Nn}{fr:PFs}
theorem ah:GA X [] DW:=PA.imp aZ fun σ H Q ⟨env,Fr,k,rs,q,c⟩=>c [] env [] H q rfl rs
theorem ae(ha:GE X a fa)(hr:GA X es fr)(hs:Np (a::es) X.env=(false,NA a X.env)::Np es X.env:=by rfl):GA X (a::es) (Cp fa fr):=by
 refine PA.imp (aq ha hr hs) ?_
 rintro σ H Q ⟨env,Fr,k,rs,q,c⟩
 refine⟨env,Fr,_,rs,q,fun t env1 v H1 q1 rs1=>⟨env1,_,_,rs1,q1,fun ts env2 vs H2 q2 l rs2=>c _ _ _ _ q2 (by rw[o_,o_,l]) ?_⟩⟩
 exact rs2.perm e_
def HB(fr:PFs):PF:=fun env k=>fr env fun ts env1=>ts.length<=sizeLine/\k (.tup ts) env1
def GK(fr:PFs):PF:=fun env k=>fr env fun ts env1=>ts.length<=sizeLine/\k (.lst true ts) env1
theorem bW{x1}(h:GA X es fr):GE X (.Tuple es x1 pos) (HB fr):=by
 refine PE.imp (C2 h) ?_
 rintro σ H Q ⟨env,Fr,k,rs,q,c⟩
 refine⟨env,Fr,_,rs,q,fun ts env1 vs H1 ⟨z,q1⟩ l rs1=>⟨by rw[<-l];exact z,fun p H2 hp g e=>c _ _ _ _ q1 ?_⟩⟩
 exact Rs.chg (Δ:=zz ts vs) (Δ':=[(.tup ts,some (.ref p))]) rs1 fun Γ r=>fO r l g e
theorem bY(h:GA X es fr):GE X (.List es pos) (GK fr):=by
 refine PE.imp (AB h) ?_
 rintro σ H Q ⟨env,Fr,k,rs,q,c⟩
 refine⟨env,Fr,_,rs,q,fun ts env1 vs H1 ⟨z,q1⟩ l rs1=>⟨by rw[<-l];exact z,fun p H2 hp g e=>c _ _ _ _ q1 ?_⟩⟩
 exact Rs.chg (Δ:=zz ts vs) (Δ':=[(.lst true ts,some (.ref p))]) rs1 fun Γ r=>dG r l hp g e
end
open PySem PySem.Spec PyProof.Rows L2
mutual
def dt:T->Dt
 | .int i=>.int i
 | .bl b=>.bl b
 | .str x=>.str x
 | .tup ts=>.tup (dtL ts)
 | .cst ts=>.tup (dtL ts)
 | .lst _ ts=>.lst (dtL ts)
 | _=>.non
def dtL:List T->List Dt
 | []=>[]
 | t::r=>dt t::dtL r
end
mutual
def isD:T->Bool
 | .tup ts=>d8 ts
 | .cst ts=>d8 ts
 | .lst _ ts=>d8 ts
 | .int _=>true
 | .bl _=>true
 | .str _=>true
 | .non=>true
 | _=>false
def d8:List T->Bool
 | []=>true
 | t::r=>isD t && d8 r
end
theorem vc{α:Type}(g:α->T):∀ l:List α,dtL (l.map g)=l.map fun x=>dt (g x)
 | []=>rfl
 | x::r=>by rw[k_,dtL,vc g r,k_]
theorem tN(l:List T):dtL l=l.map dt:=by
 have:=vc (fun x=>x) l
 rw[List.map_id']at this
 exact this
section
variable{K:M8}
theorem uZ{Hz H:Hp}(g:Gr Hz H):(∀ {t v L},RepT K Hz H t v L->isD t=true->Has K H (dt t) v)/\(∀ {t v L},RepTs K Hz H t v L->d8 t=true->az K H (dtL t) v)/\(∀ {t v L},RepKs K Hz H t v L->True)/\(∀ {t v L},RepXs K Hz H t v L->True):=
 f7 (P:=fun t v L=>isD t=true->Has K H (dt t) v) (Ps:=fun t v L=>d8 t=true->az K H (dtL t) v) (Pk:=fun t v L=>True) (Px:=fun t v L=>True)
  (fun n=>nomatch n) (fun n=>nomatch n) (fun _ _ n=>nomatch n) (fun _ n=>nomatch n) (fun _=>by show Has K H .non .non;rw[Has]) (fun _=>by rw[dt,Has]) (fun _=>by rw[dt,Has]) (fun _=>by rw[dt,Has]) (fun n=>nomatch n)
  (fun h c n=>by rw[dt,Has];exact⟨_,_,rfl,SqT.of h,c (by rw[isD]at n;exact n)⟩) (fun h c n=>by rw[dt,Has];exact⟨_,_,rfl,u7 h H,c (by rw[isD]at n;exact n)⟩)
  (fun h c n=>by rw[dt,Has];exact⟨_,_,rfl,SqL.of h,c (by rw[isD]at n;exact n)⟩) (fun h c n=>by rw[dt,Has];exact⟨_,_,rfl,.inl (g _ _ h),c (by rw[isD]at n;exact n)⟩)
  (fun _ _ n=>nomatch n) (fun _ _ n=>nomatch n) (fun _ _ n=>nomatch n) (fun _ _ n=>nomatch n)
  (fun _=>by rw[dtL];exact gA) (fun i j n=>by
   rw[d8,H_]at n
   rw[dtL]
   exact iV (i n.1) (j n.2)) trivial (fun _ _=>trivial) trivial (fun _ _=>trivial)
theorem RepT.has {Hz H:Hp}(g:Gr Hz H){t:T}{v:V}{L:List M9}(n:isD t=true)(h:RepT K Hz H t v L):Has K H (dt t) v:=(uZ g).1 h n
theorem RepTs.has {Hz H:Hp}(g:Gr Hz H){t:List T}{v:List V}{L:List M9}(n:d8 t=true)(h:RepTs K Hz H t v L):az K H (dtL t) v:=(uZ g).2.1 h n
theorem C6{t:T}(h:isD t=true):isAny t=false:=by cases t <;> first | rfl | cases h
theorem eG{H:Hp}{Γ:Fm}{t:T}{y:V}(h:Rp K H ((t,some y)::Γ))(n:isD t=true):Has K H (dt t) y:=by
 obtain⟨Hz,L,r,g⟩:=fT h (C6 n)
 exact r.has g n
theorem ug{H:Hp}{Γ:Fm}{ts:List T}{vs:List V}(h:Rp K H (zz ts vs++Γ))(l:ts.length=vs.length)(n:d8 ts=true):az K H (dtL ts) vs:=by
 obtain⟨Hz,N,h,nd,g,d⟩:=h
 obtain⟨L,M,_,h1,_⟩:=h.split
 exact(h1.nN l).has g n
end
noncomputable def Eo:P2
 | .int i,.int j,k=>k (.int (i + j))
 | .str x,.str y,k=>x.length + y.length<=sizeLine/\k (.str (x++y))
 | .lst _ ts,.lst _ us,k=>ts.length + us.length<=sizeLine/\k (.lst true (ts++us))
 | .tup ts,.tup us,k=>ts.length + us.length<=sizeLine/\k (.tup (ts++us))
 | _,_,_=>False
def Hn:P2
 | .int i,.int j,k=>k (.int (i - j))
 | _,_,_=>False
def G0:P2
 | .int i,.int j,k=>vG i j/\k (.int (i * j))
 | _,_,_=>False
def Hw:P2
 | .int i,.int j,k=>A2 i j/\k (.int (i * 2 ^ j.toNat))
 | _,_,_=>False
def Hq:P2
 | .int i,.int j,k=>k (.int (PQ i j))
 | _,_,_=>False
def orT:P2
 | .int i,.int j,k=>k (.int (OA i j))
 | _,_,_=>False
def Fz(p:Int->Int->Bool):P2
 | .int i,.int j,k=>k (.bl (p i j))
 | _,_,_=>False
def ltT:P2:=Fz fun i j=>decide (i < j)
def leT:P2:=Fz fun i j=>decide (i<=j)
def gtT:P2:=Fz fun i j=>decide (j < i)
def eqT:P2:=fun t u k=>isD t=true/\isD u=true/\dpt (dt t) < 190/\k (.bl (eqD (dt t) (dt u)))
def neT:P2:=fun t u k=>isD t=true/\isD u=true/\dpt (dt t) < 190/\k (.bl (!eqD (dt t) (dt u)))
section
variable{X:Cx}
theorem vw{f:M7->M7->Sem M7}{C:Int->Int->Prop}{r:Int->Int->T}{r':Int->Int->V}(h:OpR X f (rI C r'))(hr:∀ i j K Hz H,RepT K Hz H (r i j) (r' i j) []):OpP X f (fun t u k=>match t,u with | .int i,.int j=>C i j/\k (r i j) | _,_=>False):=by
 refine .of h ?_
 intro tx ty x y H Γ k Q rp g c
 cases tx <;> cases ty <;> first | exact g.elim | skip
 rename_i i j
 rw[aR rp,aR rp.tail]
 exact⟨i,j,rfl,rfl,g.1,c _ _ _ g.2 (bP rp.tail.tail fun Hz=>hr i j _ _ _)⟩
theorem dc{f:M7->M7->Sem M7}{r:Int->Int->T}{r':Int->Int->V}(h:OpR X f (rI0 r'))(hr:∀ i j K Hz H,RepT K Hz H (r i j) (r' i j) []):OpP X f (fun t u k=>match t,u with | .int i,.int j=>k (r i j) | _,_=>False):=by
 refine .of h ?_
 intro tx ty x y H Γ k Q rp g c
 cases tx <;> cases ty <;> first | exact g.elim | skip
 rename_i i j
 rw[aR rp,aR rp.tail]
 exact⟨i,j,rfl,rfl,c _ _ _ g (bP rp.tail.tail fun Hz=>hr i j _ _ _)⟩
theorem OpP.imp {f:M7->M7->Sem M7}{g g':P2}(h:OpP X f g)(k:∀ tx ty k,g' tx ty k->g tx ty k):OpP X f g':=OpR.imp h fun x y H Q ⟨tx,ty,Γ,kk,rp,gg,c⟩=>⟨tx,ty,Γ,kk,rp,k _ _ _ gg,c⟩
theorem Inv.Gz {pins:List (M9 × Obj)}{σ:L2.St}{H:Hp}{s:M_}{l:M9}{xs:List V}(I:Inv X pins σ H s)(hH:Rd H l (.lst xs)):xs.length<=sizeLine/\∃(its:List M7) (n:Nat),Vals xs its/\xs.length=its.length/\s.heap.get? l=some { cls:=.type "list",data:=.seq its.toArray n }:=by
 obtain⟨z,its,n,r,e⟩:=hH.ok I.hok
 exact⟨z,its,n,r,r.length,e⟩
theorem Bz:OpR X (NY .Add) (fun x y H Q=>∃ l b xs zs,x=.ref l/\y=.ref b/\Rd H l (.lst xs)/\Rd H b (.lst zs)/\xs.length + zs.length<=sizeLine/\New (.lst (xs++zs)) H Q):=by
 intro pins s σ H x y v u Q I rx ry h
 obtain⟨l,b,xs,zs,rfl,rfl,hH,hB,hz,q⟩:=h
 cases rx
 cases ry
 obtain⟨z,its,n,r,hl,e⟩:=Inv.Gz I hH
 obtain⟨z2,its2,n2,r2,hl2,e2⟩:=Inv.Gz I hB
 refine PySem.P.add_list e e2 ?_ (by rw[p_,p_];lia)
 have ea:its.toArray++its2.toArray=(its++its2).toArray:=by simp
 rw[ea]
 exact⟨.ref _,_,I.Gh (t':=s.toks) (r.append r2) (by rw[j_];omega),rfl,q.at I.fresh⟩
theorem pR{K:M8}{H:Hp}{Γ:Fm}{o:Bool}{ts:List T}{y:V}(h:Rp K H ((.lst o ts,some y)::Γ)):∃ a vs,y=.ref a/\Rd H a (.lst vs)/\ts.length=vs.length/\Rp K H (zz ts vs++Γ):=by
 obtain⟨Hz,N,h,nd,g,d⟩:=h
 cases h with
 | cons e1 h c=>
  rcases h with⟨z,_⟩ | ⟨v,e2,h⟩
  ·cases z
  cases e2
  cases h
  ·rename_i a vs L h c1
   rw[e1,IV,E_]at nd
   exact⟨a,vs,rfl,.inl h,c1.len,Hz,_,c1.toL.app c,nd.2,g,fun b m=>d b (by rw[e1,IV];exact l_ _ m)⟩
  rename_i a vs h c1
  exact⟨a,vs,rfl,g _ _ h,c1.len,Hz,_,c1.toL.app c,by rw[<-e1];exact nd,g,fun b m=>d b (by rw[e1];exact m)⟩
theorem v5{K:M8}{H:Hp}{Γ:Fm}{ts:List T}{y:V}(h:Rp K H ((.tup ts,some y)::Γ)):∃ a vs,y=.ref a/\H a=some (.tup vs)/\ts.length=vs.length/\Rp K H (zz ts vs++Γ):=by
 obtain⟨Hz,N,h,nd,g,d⟩:=h
 cases h with
 | cons e1 h c=>
  rcases h with⟨z,_⟩ | ⟨v,e2,h⟩
  ·cases z
  cases e2
  cases h with
  | tup h c1=>exact⟨_,_,rfl,h,c1.len,Hz,_,c1.toL.app c,by rw[<-e1];exact nd,g,fun b m=>d b (by rw[e1];exact m)⟩
theorem iZ{ts us:List T}{vs ws:List V}(l:ts.length=vs.length):zz (ts++us) (vs++ws)=zz ts vs++zz us ws:=by
 show(ts++us).zip ((vs++ws).map some)=_
 rw[A',MI (by rw[b_];exact l)]
theorem As:OpR X (NY .Add) (fun x y H Q=>∃ a b ys,x=.ref a/\y=.ref b/\SqT X.K H a []/\SqT X.K H b ys/\Q (.ref b) H):=by
 intro pins s σ H x y v u Q I rx ry h
 obtain⟨a,b,ys,rfl,rfl,ha,hb,q⟩:=h
 cases rx
 cases ry
 obtain⟨its,r1,p1,_⟩:=I.tuple ha
 obtain⟨its2,r2,p2,_⟩:=I.tuple hb
 cases r1
 obtain⟨⟨cls,dd,data,sl⟩,ho,hc,n,hd⟩:=id p1
 obtain⟨⟨cls2,dd2,data2,sl2⟩,ho2,hc2,n2,hd2⟩:=id p2
 simp only at hc hd hc2 hd2
 subst hc hd hc2 hd2
 exact RY ⟨_,ho,rfl⟩ ⟨_,ho2,rfl⟩ QQ RK P7 PY (PH _ _)
  (tuple_addW0 a b _ its2.toArray n n2 dd dd2 sl sl2 (by simp)) ⟨ho,ho2,⟨.ref b,H,I,rfl,q⟩⟩
theorem bN:OpP X (NY .Add) Eo:=by
 rintro pins s σ H x y v u Q I rx ry ⟨tx,ty,Γ,k,rp,g,c⟩
 cases tx <;> cases ty <;> first | exact Nu g | skip
 ·rename_i i j
  rw[aR rp]at ry;rw[aR rp.tail]at rx
  exact lK pins s σ H _ _ v u Q I rx ry ⟨i,j,rfl,rfl,c _ _ _ g (bP rp.tail.tail fun _=>.int)⟩
 ·rename_i i j
  rw[eD rp]at ry;rw[eD rp.tail]at rx
  exact sh pins s σ H _ _ v u Q I rx ry ⟨i,j,rfl,rfl,g.1,c _ _ _ g.2 (bP rp.tail.tail fun _=>.str)⟩
 ·rename_i ts us
  obtain⟨b,ws,rfl,hb,lb,rp2⟩:=v5 rp
  obtain⟨a,vs,rfl,ha,la,rp3⟩:=v5 (rp2.perm e_)
  have lz:vs.length + ws.length<=sizeLine:=by rw[<-la,<-lb];exact g.1
  have rp4:Rp X.K H (zz (ts++us) (vs++ws)++Γ):=by
   rw[iZ la,h_];exact rp3
  by_cases hx:vs=[]
  ·subst hx
   refine As pins s σ H _ _ v u Q I rx ry ⟨a,b,ws,rfl,rfl,SqT.of ha,SqT.of hb,?_⟩
   refine c _ _ _ g.2 (fO rp4 (by rw[j_,j_,la,lb]) .bq ?_)
   rw[Ku];exact hb
  refine C1 pins s σ H _ _ v u Q I rx ry ⟨a,b,vs,ws,rfl,rfl,SqT.of ha,SqT.of hb,hx,lz,fun e=>?_,fun _ p hp=>c _ _ _ g.2 (fO rp4 (by rw[j_,j_,la,lb]) (aT hp _) ay)⟩
  refine c _ _ _ g.2 (fO rp4 (by rw[j_,j_,la,lb]) .bq ?_)
  rw[e,IP];exact ha
 rename_i o ts o' us
 obtain⟨b,ws,rfl,hb,lb,rp2⟩:=pR rp
 obtain⟨a,vs,rfl,ha,la,rp3⟩:=pR (rp2.perm e_)
 have lz:vs.length + ws.length<=sizeLine:=by rw[<-la,<-lb];exact g.1
 have rp4:Rp X.K H (zz (ts++us) (vs++ws)++Γ):=by
  rw[iZ la,h_];exact rp3
 exact Bz pins s σ H _ _ v u Q I rx ry ⟨a,b,vs,ws,rfl,rfl,ha,hb,lz,fun p H' hp g' e=>c _ _ _ g.2 (dG rp4 (by rw[j_,j_,la,lb]) hp g' e)⟩
theorem kI:OpP X (NY .Sub) Hn:=(dc (r:=fun i j=>.int (i - j)) Ex fun _ _ _ _ _=>.int).imp fun tx ty k g=>by cases tx <;> cases ty <;> exact g
theorem Cd:OpP X (NY .Mult) G0:=(vw (r:=fun i j=>.int (i * j)) gn fun _ _ _ _ _=>.int).imp fun tx ty k g=>by cases tx <;> cases ty <;> exact g
theorem gL:OpP X (NY .LShift) Hw:=(vw (r:=fun i j=>.int (i * 2 ^ j.toNat)) Er fun _ _ _ _ _=>.int).imp fun tx ty k g=>by cases tx <;> cases ty <;> exact g
theorem uu:OpP X (NY .BitAnd) Hq:=(dc (r:=fun i j=>.int (PQ i j)) Ea fun _ _ _ _ _=>.int).imp fun tx ty k g=>by cases tx <;> cases ty <;> exact g
theorem Du:OpP X (NY .BitOr) orT:=(dc (r:=fun i j=>.int (OA i j)) He fun _ _ _ _ _=>.int).imp fun tx ty k g=>by cases tx <;> cases ty <;> exact g
theorem Eu:OpP X (NP .Lt) ltT:=(dc (r:=fun i j=>.bl (decide (i < j))) Hx fun _ _ _ _ _=>.bl).imp fun tx ty k g=>by cases tx <;> cases ty <;> exact g
theorem Dz:OpP X (NP .LtE) leT:=(dc (r:=fun i j=>.bl (decide (i<=j))) FH fun _ _ _ _ _=>.bl).imp fun tx ty k g=>by cases tx <;> cases ty <;> exact g
theorem zN:OpP X (NP .Gt) gtT:=(dc (r:=fun i j=>.bl (decide (j < i))) Gx fun _ _ _ _ _=>.bl).imp fun tx ty k g=>by cases tx <;> cases ty <;> exact g
theorem CG{k:Nat}{A:Nw}(r:Room k A){n:Nat}(h:n < 190):A.units + n < cLine:=by have:=r.un;lia
theorem nR{k:Nat}(hr:Room k X.A):OpP X (NP .Eq) eqT:=.of wY fun tx ty x y H Γ k Q rp ⟨d1,d2,z,g⟩ c=>
 ⟨dt tx,dt ty,eG rp.tail d1,eG rp d2,CG hr z,c _ _ _ g (bP rp.tail.tail fun _=>.bl)⟩
theorem iR{k:Nat}(hr:Room k X.A):OpP X (NP .NotEq) neT:=.of Fl fun tx ty x y H Γ k Q rp ⟨d1,d2,z,g⟩ c=>
 ⟨dt tx,dt ty,eG rp.tail d1,eG rp d2,CG hr z,c _ _ _ g (bP rp.tail.tail fun _=>.bl)⟩
end
open PySem PySem.Spec PyProof.Rows L2
def rV:T->Option Key
 | .int i=>some (.inl i)
 | .str x=>some (.inr x)
 | .non=>some (.inr none)
 | _=>none
noncomputable def de:List T->Option (List Key)
 | []=>some []
 | t::r=>match rV t,de r with
  | some k,some ks=>some (k::ks)
  | _,_=>none
section
variable{κ:Type}[DecidableEq κ]
def kZ(kvs:List (κ × T))(k:κ):Option T:=(kvs.find? fun kv=>decide (kv.1=k)).map (·.2)
noncomputable def iJ(kvs:List (κ × T))(k:κ)(v:T):List (κ × T):=
 if(kvs.any fun kv=>decide (kv.1=k))=true then kvs.map (fun kv=>if kv.1=k then(kv.1,v)else kv)else kvs++[(k,v)]
theorem iT:∀ {ts:List (κ × T)} {vs:List (κ × V)} {q:κ} {u:T},ts.map (·.1)=vs.map (·.1)->kZ ts q=some u->∃(w:V) (i:Nat),cw vs q=some w/\(ts.map (·.2))[i]?=some u/\(vs.map (·.2))[i]?=some w
 | [],vs,q,u,e,h=>by cases h
 | (k,t)::ts,[],q,u,e,h=>by cases e
 | (k,t)::ts,(k',v)::vs,q,u,e,h=>by
  rw[k_,k_,Ky]at e
  have e0:k=k':=e.1
  subst e0
  unfold kZ at h
  rw[IZ]at h
  unfold cw
  rw[IZ]
  by_cases hk:k=q
  ·have hk':decide (k=q)=true:=decide_eq_true hk
   rw[show decide ((k,t).1=q)=true from hk']at h
   rw[show decide ((k,v).1=q)=true from hk']
   cases h
   exact⟨v,0,rfl,rfl,rfl⟩
  have hk':decide (k=q)=false:=decide_eq_false hk
  rw[show decide ((k,t).1=q)=false from hk']at h
  rw[show decide ((k,v).1=q)=false from hk']
  obtain⟨w,i,h1,h2,h3⟩:=iT (ts:=ts) (vs:=vs) e.2 h
  exact⟨w,i + 1,h1,by simpa using h2,by simpa using h3⟩
theorem iK:∀ {ts:List (κ × T)} {vs:List (κ × V)} (q:κ),ts.map (·.1)=vs.map (·.1)->(kZ ts q).isSome=(cw vs q).isSome
 | [],[],q,e=>rfl
 | [],_::_,q,e=>by cases e
 | (k,t)::ts,[],q,e=>by cases e
 | (k,t)::ts,(k',v)::vs,q,e=>by
  rw[k_,k_,Ky]at e
  have e0:k=k':=e.1
  subst e0
  have ih:=iK (ts:=ts) (vs:=vs) q e.2
  unfold kZ cw at ih ⊢
  rw[IZ,IZ]
  by_cases hk:k=q
  ·have hk':decide (k=q)=true:=decide_eq_true hk
   rw[show decide ((k,t).1=q)=true from hk']
   rfl
  have hk':decide (k=q)=false:=decide_eq_false hk
  rw[show decide ((k,t).1=q)=false from hk']
  exact ih
end
section
variable{K:M8}{H:Hp}{Γ:Fm}
theorem sP{o:Bool}{ts:List (Key × T)}{y:V}(h:Rp K H ((.dK o ts,some y)::Γ)):∃ a vs,y=.ref a/\Rd H a (.dK vs)/\ts.map (·.1)=vs.map (·.1)/\Rp K H (zz (ts.map (·.2)) (vs.map (·.2))++Γ):=by
 obtain⟨Hz,N,h,nd,g,d⟩:=h
 cases h with
 | cons e1 h c=>
  rcases h with⟨z,_⟩ | ⟨v,e2,h⟩
  ·cases z
  cases e2
  cases h
  ·rename_i a vs L h c1
   obtain⟨ek,c2⟩:=c1.toL
   rw[e1,IV,E_]at nd
   exact⟨a,vs,rfl,.inl h,ek,Hz,_,c2.toL.app c,nd.2,g,fun b m=>d b (by rw[e1,IV];exact l_ _ m)⟩
  rename_i a vs h c1
  obtain⟨ek,c2⟩:=c1.toL
  exact⟨a,vs,rfl,g _ _ h,ek,Hz,_,c2.toL.app c,by rw[<-e1];exact nd,g,fun b m=>d b (by rw[e1];exact m)⟩
theorem sO{o:Bool}{ts:List (List Key × T)}{y:V}(h:Rp K H ((.dT o ts,some y)::Γ)):∃ a vs,y=.ref a/\Rd H a (.dT vs)/\ts.map (·.1)=vs.map (·.1)/\Rp K H (zz (ts.map (·.2)) (vs.map (·.2))++Γ):=by
 obtain⟨Hz,N,h,nd,g,d⟩:=h
 cases h with
 | cons e1 h c=>
  rcases h with⟨z,_⟩ | ⟨v,e2,h⟩
  ·cases z
  cases e2
  cases h
  ·rename_i a vs L h c1
   obtain⟨ek,c2⟩:=c1.toL
   rw[e1,IV,E_]at nd
   exact⟨a,vs,rfl,.inl h,ek,Hz,_,c2.toL.app c,nd.2,g,fun b m=>d b (by rw[e1,IV];exact l_ _ m)⟩
  rename_i a vs h c1
  obtain⟨ek,c2⟩:=c1.toL
  exact⟨a,vs,rfl,g _ _ h,ek,Hz,_,c2.toL.app c,by rw[<-e1];exact nd,g,fun b m=>d b (by rw[e1];exact m)⟩
theorem nW{t:T}{k:Key}{y:V}(e:rV t=some k)(h:Rp K H ((t,some y)::Γ)):y=kV k:=by
 cases t <;> cases e
 ·rw[xy h];rfl
 ·rw[aR h];rfl
 rw[eD h];rfl
theorem zf{Hz:Hp}{t:T}{k:Key}{v:V}{L:List M9}(e:rV t=some k)(h:RepT K Hz H t v L):v=kV k:=by
 cases t <;> cases e
 ·cases h;rfl
 ·cases h;rfl
 cases h;rfl
theorem n9{Hz:Hp}:∀ {ts:List T} {ks:List Key} {vs:List V} {L:List M9},de ts=some ks->RepTs K Hz H ts vs L->vs=ks.map kV
 | [],ks,_,_,e,r=>by cases r;cases e;rfl
 | t::ts,ks,_,_,e,r=>by
  cases r with
  | cons _ h c=>
   rw[de]at e
   split at e
   ·rename_i k r e1 e2
    cases e
    rw[zf e1 h,n9 e2 c]
    rfl
   cases e
theorem oM{ts:List T}{ks:List Key}{y:V}(e:de ts=some ks)(h:Rp K H ((.tup ts,some y)::Γ)):∃ b,y=.ref b/\H b=some (.tup (ks.map kV)):=by
 obtain⟨Hz,L,r,g⟩:=fT h rfl
 cases r with
 | tup h1 c1=>exact⟨_,rfl,by rw[h1,n9 e c1]⟩
end
noncomputable def ixT:P2
 | .tup ts,.int i,k=>got (atI ts i) k
 | .cst ts,.int i,k=>got (atI ts i) k
 | .lst _ ts,.int i,k=>got (atI ts i) k
 | .str x,.int i,k=>x.length<=sizeLine/\got (atI x.cps.toList i) fun c=>k (.str ⟨#[c]⟩)
 | .dK _ kvs,y,k=>got (rV y) fun q=>got (kZ kvs q) k
 | .dT _ kvs,.tup ts,k=>got (de ts) fun q=>got (kZ kvs q) k
 | _,_,_=>False
section
variable{X:Cx}
theorem uA(hu:X.A.units + 1 < cLine):IxR X (fun x y H Q=>∃ a v,x=.ref a/\jo H a y (some v)/\Q v H):=by
 intro value slice pins s σ H x y v u Q I rx ry h hs
 obtain⟨a,z,rfl,g,q⟩:=h
 cases rx
 have hT:=ju I g
 unfold P'
 refine M6 ?_
 rw[Ro hT.not_modules]
 refine M6 (Pz hT QH.lookup ?_)
 have fin:Nb (Ni X.prog X.w) X.A (Qp slice false (.ref a) u) (fun r s₃=>Nb (Ni X.prog X.w) X.A (Ti value (.ref a) r >>= fun _=>pure r) (EP X pins σ Q) X.xe s₃) X.xe s:=by
  rw[hs]
  refine SS (n6 hu I g ry fun w' s' I' r'=>M6 (RB (M' ⟨z,H,I',r',q⟩)))
 first
  | exact M' (M6 fin)
  | exact M6 (M' (M6 fin))
  | exact M6 fin
theorem Iq{kr:Nat}(hr:Room kr X.A):IxR X (w2 X.K ixT):=by
 rintro value slice pins s σ H x y v u Q I rx ry ⟨tx,ty,Γ,k,rp,g,c⟩ hs
 have sq:∀ ts i,items tx=some ts->ty=.int i->got (atI ts i) k->Nb (Ni X.prog X.w) X.A (P' value slice v u) (EP X pins σ Q) X.xe s:=fun ts i e1 e2 g=>by
  obtain⟨t,et,kt⟩:=aH g
  subst e2
  rw[aR rp]at ry
  obtain⟨a,vs,rfl,hq,l,rp2⟩:=aD e1 rp.tail
  obtain⟨w,ew,rp3⟩:=zZ l et rp2
  exact HW value slice pins s σ H _ _ v u Q I rx ry ⟨_,a,vs,i,w,rfl,rfl,hq,ew,c _ _ _ kt rp3⟩ hs
 cases tx with
 | tup ts=>cases ty <;> first | exact Nu g | exact sq _ _ rfl rfl g
 | cst ts=>cases ty <;> first | exact Nu g | exact sq _ _ rfl rfl g
 | lst o ts=>cases ty <;> first | exact Nu g | exact sq _ _ rfl rfl g
 | str z=>
  cases ty <;> first | exact Nu g | skip
  rename_i i
  obtain⟨hz,g⟩:=g
  obtain⟨t,et,kt⟩:=aH g
  rw[aR rp]at ry
  rw[eD rp.tail]at rx
  exact yS value slice pins s σ H _ _ v u Q I rx ry ⟨z,i,t,rfl,rfl,hz,et,c _ _ _ kt (bP rp.tail.tail fun _=>.str)⟩ hs
 | dK o kvs=>
  have g:got (rV ty) fun q=>got (kZ kvs q) k:=by cases ty <;> exact g
  obtain⟨q,eq,g⟩:=aH g
  obtain⟨t,et,kt⟩:=aH g
  rw[nW eq rp]at ry
  obtain⟨a,vs,rfl,hq,ek,rp2⟩:=sP rp.tail
  obtain⟨w,i,ew,e1,e2⟩:=iT ek et
  exact uA (jx hr) value slice pins s σ H _ _ v u Q I rx ry ⟨a,w,rfl,.inl ⟨vs,q,hq,rfl,ew.symm⟩,c _ _ _ kt (i9 rp2 e1 e2)⟩ hs
 | dT o kvs=>
  cases ty <;> first | exact Nu g | skip
  rename_i ts
  obtain⟨q,eq,g⟩:=aH g
  obtain⟨t,et,kt⟩:=aH g
  obtain⟨b,rfl,hb⟩:=oM eq rp
  obtain⟨a,vs,rfl,hq,ek,rp2⟩:=sO rp.tail
  obtain⟨w,i,ew,e1,e2⟩:=iT ek et
  exact uA (jx hr) value slice pins s σ H _ _ v u Q I rx ry ⟨a,w,rfl,.inr ⟨vs,q,b,hq,rfl,hb,ew.symm⟩,c _ _ _ kt (i9 rp2 e1 e2)⟩ hs
 | _=>cases ty <;> exact Nu g
theorem aM{kr:Nat}{a b:Nn}{fa fb:PF}{pos:Pos}(hr:Room kr X.A)(ha:GE X a fa)(hb:GE X b fb)(hs:p8 b:=by intro _ _;rfl):GE X (.Subscript a b pos) (vY ixT fa fb):=PE.imp (A3 (Iq hr) ha hb hs) vA
def qk(x:T)(ts:List T):Bool:=ts.any fun e=>eqD (dt e) (dt x)
noncomputable def inT:P2:=fun x y k=>match y with
 | .dK _ kvs=>got (rV x) fun q=>k (.bl (kZ kvs q).isSome)
 | .dT _ kvs=>match x with
  | .tup ts=>got (de ts) fun q=>k (.bl (kZ kvs q).isSome)
  | _=>False
 | .str b=>match x with
  | .str a=>k (.bl (!(Q0 b a 0 b.length 1).isEmpty))
  | _=>False
 | y=>got (items y) fun ts=>isD x=true/\d8 ts=true/\bH (dtL ts) < 180/\k (.bl (qk x ts))
theorem y9:OpR X (NP .In) (fun x y H Q=>∃ p xs d ds,y=.ref p/\SqT X.K H p xs/\Has X.K H d x/\az X.K H ds xs/\X.A.in1.units + bH ds < cLine/\Q (.bl (ds.any fun e=>eqD e d)) H):=by
 intro pins s σ H x y v u Q I rx ry h
 obtain⟨p,xs,d,ds,rfl,hq,hd,hl,hA,q⟩:=h
 cases ry
 obtain⟨its,r,pl,hz⟩:=I.tuple hq
 obtain⟨e,e1,_,e3⟩:=sF I (A:=X.A.in1) hA hd rx (d_ _) hl r
 refine SeqAt.in_tupleAt e pl (fun w hw=>e1 w (by simpa using hw)) ⟨.bl _,H,I,rfl,?_⟩
 rw[show its.toArray.any e=its.any e by simp,e3]
 exact q
theorem Br(x:T)(ts:List T):qk x ts=(dtL ts).any fun e=>eqD e (dt x):=by
 unfold qk
 rw[tN,K']
 rfl
theorem EG{kr:Nat}(hr:Room kr X.A):OpP X (NP .In) inT:=by
 rintro pins s σ H x y v u Q I rx ry ⟨tx,ty,Γ,k,rp,g,c⟩
 have sq:(got (items ty) fun ts=>isD tx=true/\d8 ts=true/\bH (dtL ts) < 180/\k (.bl (qk tx ts)))->Nb (Ni X.prog X.w) X.A (NP .In v u) (EP X pins σ Q) X.xe s:=fun g=>by
  obtain⟨ts,e,d1,d2,z,kt⟩:=aH g
  obtain⟨a,vs,rfl,hq,l,rp2⟩:=aD e rp
  have fin:=c _ _ _ kt (bP (H:=H) (v:=.bl (qk tx ts)) rp.tail.tail fun _=>.bl)
  rw[Br]at fin
  have hA:X.A.in1.units + bH (dtL ts) < cLine:=by have:=hr.un;show X.A.units + 1 + _ < _;omega
  revert hq
  cases oT ty with
  | true=>exact fun hq=>y9 pins s σ H _ _ v u Q I rx ry ⟨a,vs,_,_,rfl,hq,eG rp.tail d1,ug rp2 l d2,hA,fin⟩
  | false=>exact fun hq=>DH pins s σ H _ _ v u Q I rx ry ⟨a,vs,_,_,rfl,hq,eG rp.tail d1,ug rp2 l d2,hA,fin⟩
 cases ty with
 | tup ts=>exact sq g
 | cst ts=>exact sq g
 | lst o ts=>exact sq g
 | str b=>
  cases tx <;> first | exact Nu g | skip
  rename_i a
  rw[eD rp]at ry
  rw[eD rp.tail]at rx
  exact wg pins s σ H _ _ v u Q I rx ry ⟨a,b,rfl,rfl,c _ _ _ g (bP rp.tail.tail fun _=>.bl)⟩
 | dK o kvs=>
  obtain⟨q,eq,g⟩:=aH g
  rw[nW eq rp.tail]at rx
  obtain⟨a,vs,rfl,hq,ek,rp2⟩:=sP rp
  cases ry
  rw[iK q ek]at g
  exact Gk (jx hr) I (.inl ⟨vs,q,hq,rfl,rfl⟩) rx fun s' I'=>⟨.bl _,H,I',rfl,c _ _ _ g (bP rp.tail.tail fun _=>.bl)⟩
 | dT o kvs=>
  cases tx <;> first | exact Nu g | skip
  rename_i ts
  obtain⟨q,eq,g⟩:=aH g
  obtain⟨b,rfl,hb⟩:=oM eq rp.tail
  obtain⟨a,vs,rfl,hq,ek,rp2⟩:=sO rp
  cases ry
  rw[iK q ek]at g
  exact Gk (jx hr) I (.inr ⟨vs,q,b,hq,rfl,hb,rfl⟩) rx fun s' I'=>⟨.bl _,H,I',rfl,c _ _ _ g (bP rp.tail.tail fun _=>.bl)⟩
 | _=>exact Nu g
def fUn(g:T->(T->Prop)->Prop)(fa:PF):PF:=fun env k=>fa env fun t env1=>g t fun u=>k u env1
def Hr:T->(T->Prop)->Prop
 | .int i,k=>k (.int (-i))
 | _,_=>False
theorem yG{a:Nn}{fa:PF}{pos:Pos}(ha:GE X a fa):GE X (.UnaryOp .USub a pos) (fUn Hr fa):=by
 refine PE.imp (Gv Fc ha) ?_
 rintro σ H Q ⟨env,Fr,k,rs,q,c⟩
 refine⟨env,Fr,_,rs,q,fun t env1 v H1 q1 rs1=>?_⟩
 cases t <;> first | exact Nu q1 | skip
 rename_i i
 exact⟨i,aR rs1.head,c _ _ _ _ q1 (m5 rs1.drop fun _=>.int)⟩
end
open PySem PySem.Spec PyProof.Rows L2
abbrev P1s:=List T->(T->Prop)->Prop
noncomputable def w1s(K:M8)(g:P1s):List V->Hp->VK->Prop:=fun xs H Q=>∃ ts Γ k,ts.length=xs.length/\Rp K H (zz ts xs++Γ)/\g ts k/\∀ t v H',k t->Rp K H' ((t,some v)::Γ)->Q v H'
def ny(X:Cx)(f:M7)(g:P1s):Prop:=cy X f (w1s X.K g)
def fCl(g:P1s)(fr:PFs):PF:=fun env k=>fr env fun ts env1=>g ts fun t=>k t env1
section
variable{X:Cx}{e:Nn}{es:List Nn}{fr:PFs}{pos p:Pos}{x:Str}{g:P1s}
theorem Cy:∀ σ H Q,wE X.K (fCl g fr) σ H Q->tCB (w1s X.K g) (wA X.K fr) σ H Q:=by
 rintro σ H Q ⟨env,Fr,k,rs,q,c⟩
 refine⟨env,Fr,_,rs,q,fun ts env1 vs H1 q1 l rs1=>?_⟩
 refine⟨ts,env1.zip σ++Fr,_,l,?_,q1,fun t v H' kt rp=>c _ _ _ _ kt (.of rs1.1 rp)⟩
 refine rs1.2.perm ?_
 rw[<-h_,<-h_]
 exact Jt.append_right _
theorem bK{id:String}(hc:ny X (.builtin id) g)(hg:Gl X x)(hm:X.mg x=none)(hv:O0 x=some (.builtin id))(ha:GA X (e::es) fr)(hn:x≠"__name__":=by decide)(hdb:(x ==("__debug__":Str))=false:=by decide)
  (he:Np (e::es) X.env=(false,NA e X.env)::Np es X.env:=by rfl) (hpl:(O1 pos (Np es X.env)).any (·.1)=false:=by rfl):GE X (.Call (.Name x p) (e::es) [] pos) (fCl g fr):=PE.imp (aU hc hg hm hv ha hn hdb he hpl) Cy
theorem iY{id:String}(hc:ny X (.type id) g)(hg:Gl X x)(hm:X.mg x=none)(hv:O0 x=some (.type id))(ha:GA X (e::es) fr)(hn:x≠"__name__":=by decide)(hdb:(x ==("__debug__":Str))=false:=by decide)
  (he:Np (e::es) X.env=(false,NA e X.env)::Np es X.env:=by rfl) (hpl:(O1 pos (Np es X.env)).any (·.1)=false:=by rfl):GE X (.Call (.Name x p) (e::es) [] pos) (fCl g fr):=PE.imp (nz hc hg hm hv ha hn hdb he hpl) Cy
end
section
variable{X:Cx}
theorem zz1{ts:List T}{xs:List V}{t:T}(l:ts.length=xs.length)(e:ts=[t]):∃ x,xs=[x]:=by
 subst e
 rcases xs with _ | ⟨x,_ | ⟨y,xs⟩⟩
 ·cases l
 ·exact⟨x,rfl⟩
 cases l
theorem zz2{ts:List T}{xs:List V}{t u:T}(l:ts.length=xs.length)(e:ts=[t,u]):∃ x y,xs=[x,y]:=by
 subst e
 rcases xs with _ | ⟨x,xs⟩
 ·cases l
 obtain⟨y,rfl⟩:=zz1 (ts:=[u]) (JT l) rfl
 exact⟨x,y,rfl⟩
theorem rZ{prog:Nl}{w:Nq}(d:M9)(nd:(d == Ou)=false) :
  MeetsIn prog w (Oy.«dict.__len__» ⟨[.ref d],[]⟩) (fun _ R s=>∃ o es ep,s.heap.get? d=some o/\o.data=.dict es ep/\R (.ok (.ret (.int es.size s.toks))) { s with toks:=s.toks + 1 }):=
 .of_wp fun A R s ⟨o,es,ep,ho,hdat,q⟩=>by
  show Nb _ _ (dictSize d >>= _) _ _ s
  unfold dictSize
  refine M6 (M6 (wpAny_dictEntries ho hdat (M' ?_)))
  show Nb _ _ (Ui d >>= _) _ _ s
  exact M6 (wpAny_pendingCount_other nd (wpAny_ret_mkInt (by rw[LN];exact q)))
theorem Ba{prog:Nl}{w:Nq}{A:Nw}{E:M7->M_->Prop}{s:M_}{d:M9}{o:Obj}{es:Array Tw}{ep:Nat}{Q:M7->M_->Prop}(nd:(d == Ou)=false)(ho:s.heap.get? d=some o)(hc:o.ExactDict)(hdat:o.data=.dict es ep)
  (fit:(es.size:Int) < 2 ^ 63) (q:∀ t tk,Q (.int es.size t) { s with toks:=tk }):Nb (Ni prog w) A (call (.builtin "len") [.ref d]) Q E s:=by
 have ty:s.TypeIs (.ref d) "dict":=⟨_,ho,hc.1⟩
 refine QK kind_len plain_len entry_len (args_len1 _) ?_
 unfold Oy.«len»
 refine M6 (m:=oneArg "len" _) (M' ?_)
 refine M6 (m:=callSpecial? (.ref d) (N8 "__len__")) (N2 (name:=N8 "__len__") ty Rt
  (call_meetsIn Rt ty PySem.F.entry_dict_len (PySem.F.args_dict_len_1 _) (rZ d nd) ⟨o,es,ep,ho,hdat,?_⟩))
 show Nb _ _ _ _ _ { s with toks:=s.toks + 1 }
 refine M6 (Ny (M' (M6 (OY ?_))))
 show Nb _ _ (if((es.size:Nat):Int) < 0 then _ else _) _ _ _
 rw[if_neg (by lia)]
 show Nb _ _ (if((es.size:Nat):Int)>=2 ^ 63 then _ else _) _ _ _
 rw[if_neg (by lia)]
 exact M6 (UZ (M' ⟨_,rfl,q _ _⟩))
theorem DQ{pins:List (M9 × Obj)}{σ:L2.St}{H:Hp}{s:M_}{a:M9}{kvs:List (List Key × V)}{Q:M7->M_->Prop}{E:M7->M_->Prop}(I:Inv X pins σ H s)(e:Rd H a (.dT kvs))(q:∀ t s',Inv X pins σ H s'->Q (.int kvs.length t) s'):Nb (Ni X.prog X.w) X.A (call (.builtin "len") [.ref a]) Q E s:=by
 obtain⟨z,hd,xs,rel,o,es,ep,h1,h2,h3,h4,_⟩:=qF I.hok e
 have hs:es.size=kvs.length:=by
  have:=congrArg Lm h4
  rw[b_]at this
  rw[<-gV,this]
  exact(P_ rel).symm
 refine Ba hd h1 h2 h3 (by rw[NI]at z;lia) fun t tk=>?_
 rw[hs]
 exact q _ _ (I.tok _)
noncomputable def Hc:P1s
 | [t],k=>match t with
  | .str x=>x.length<=sizeLine/\k (.int x.length)
  | .dK _ kvs=>k (.int kvs.length)
  | .dT _ kvs=>k (.int kvs.length)
  | t=>got (items t) fun ts=>k (.int ts.length)
 | _,_=>False
theorem bA:ny X (.builtin "len") Hc:=by
 rintro pins s σ H xs us Q I r ⟨ts,Γ,k,l,rp,g,c⟩
 match ts,l,g with
 | [t],l,g=>
  obtain⟨x,rfl⟩:=zz1 l rfl
  have rp:Rp X.K H ((t,some x)::Γ):=rp
  have sq:(got (items t) fun ts=>k (.int ts.length))->Nb (Ni X.prog X.w) X.A (call (.builtin "len") us) (EP X pins σ Q) X.xe s:=fun g=>by
   obtain⟨us',e,kt⟩:=aH g
   obtain⟨a,vs,rfl,hq,l2,rp2⟩:=aD e rp
   rw[l2]at kt
   exact wa pins s σ H _ us Q I r ⟨_,a,vs,rfl,hq,c _ _ _ kt (bP rp.tail fun _=>.int)⟩
  cases t with
  | str z=>
   rw[eD rp]at r
   exact oD pins s σ H _ us Q I r ⟨z,rfl,g.1,c _ _ _ g.2 (bP rp.tail fun _=>.int)⟩
  | dK o kvs=>
   obtain⟨a,vs,rfl,hq,ek,rp2⟩:=sP rp
   obtain⟨u,rfl,ru⟩:=vals1 r
   cases ru
   have g:k (.int kvs.length):=g
   rw[bx ek]at g
   exact GU I hq fun t s' I'=>⟨.int vs.length,H,I',⟨t,rfl⟩,c _ _ _ g (bP rp.tail fun _=>.int)⟩
  | dT o kvs=>
   obtain⟨a,vs,rfl,hq,ek,rp2⟩:=sO rp
   obtain⟨u,rfl,ru⟩:=vals1 r
   cases ru
   have g:k (.int kvs.length):=g
   rw[bx ek]at g
   exact DQ I hq fun t s' I'=>⟨.int vs.length,H,I',⟨t,rfl⟩,c _ _ _ g (bP rp.tail fun _=>.int)⟩
  | _=>exact sq g
 | [],_,g=>exact Nu g
 | _::_::_,_,g=>exact Nu g
noncomputable def intsOf:List T->Option (List Int)
 | []=>some []
 | .int i::r=>match intsOf r with
  | some ns=>some (i::ns)
  | none=>none
 | _::_=>none
theorem l6(ns:List Int):intsOf (ns.map T.int)=some ns:=by
 induction ns with
 | nil=>rfl
 | cons n r ih=>rw[k_,intsOf,ih]
theorem iP:∀ {ts:List T} {ns:List Int},intsOf ts=some ns->ts=ns.map T.int
 | [],ns,e=>by cases e;rfl
 | t::ts,ns,e=>by
  cases t <;> first | cases e | skip
  rename_i i
  rw[intsOf]at e
  split at e
  ·rename_i ms em
   cases e
   rw[k_,iP em]
  cases e
theorem gP{K:M8}{H:Hp}{Γ:Fm}:∀ {ns:List Int} {vs:List V},(ns.map T.int).length=vs.length->Rp K H (zz (ns.map T.int) vs++Γ)->vs=ns.map V.int
 | [],[],_,_=>rfl
 | [],_::_,l,_=>by simp at l
 | _::_,[],l,_=>by simp at l
 | n::ns,v::vs,l,h=>by
  have h:Rp K H ((.int n,some v)::(zz (ns.map T.int) vs++Γ)):=h
  rw[aR h,gP (by simpa using l) h.tail]
  rfl
def Ei:P1s
 | [.int i],k=>k (.int i)
 | [.bl b],k=>k (.int (if b then 1 else 0))
 | _,_=>False
theorem vW:ny X (.type "int") Ei:=by
 rintro pins s σ H xs us Q I r ⟨ts,Γ,k,l,rp,g,c⟩
 unfold Ei at g
 split at g
 ·rename_i k i
  obtain⟨x,rfl⟩:=zz1 l rfl
  have rp:Rp X.K H ((.int i,some x)::Γ):=rp
  rw[aR rp]at r
  exact mN pins s σ H _ us Q I r (.inl ⟨i,rfl,c _ _ _ g (bP rp.tail fun _=>.int)⟩)
 ·rename_i k i
  obtain⟨x,rfl⟩:=zz1 l rfl
  have rp:Rp X.K H ((.bl i,some x)::Γ):=rp
  rw[mF rp]at r
  exact mN pins s σ H _ us Q I r (.inr ⟨i,rfl,c _ _ _ g (bP rp.tail fun _=>.int)⟩)
 exact Nu g
def qY:P1s
 | [t],k=>got (items t) fun ts=>k (.lst true ts)
 | _,_=>False
theorem l8:ny X (.type "list") qY:=by
 rintro pins s σ H xs us Q I r ⟨ts,Γ,k,l,rp,g,c⟩
 unfold qY at g
 split at g
 ·rename_i k t
  obtain⟨x,rfl⟩:=zz1 l rfl
  have rp:Rp X.K H ((t,some x)::Γ):=rp
  obtain⟨us',e,kt⟩:=aH g
  obtain⟨a,vs,rfl,hq,l2,rp2⟩:=aD e rp
  exact sJ pins s σ H _ us Q I r ⟨_,a,vs,rfl,hq,fun p H' hp g' e'=>c _ _ _ kt (dG rp2 l2 hp g' e')⟩
 exact Nu g
def DA:P1s
 | [.tup ts],k=>k (.tup ts)
 | [.cst ts],k=>k (.cst ts)
 | [.lst _ ts],k=>k (.tup ts)
 | _,_=>False
noncomputable def boolsOf:List T->Option (List Bool)
 | []=>some []
 | .bl i::r=>match boolsOf r with
  | some ns=>some (i::ns)
  | none=>none
 | _::_=>none
theorem lG:∀ {ts:List T} {ns:List Bool},boolsOf ts=some ns->ts=ns.map T.bl
 | [],ns,e=>by cases e;rfl
 | t::ts,ns,e=>by
  cases t <;> first | cases e | skip
  rename_i i
  rw[boolsOf]at e
  split at e
  ·rename_i ms em
   cases e
   rw[k_,lG em]
  cases e
theorem qa{K:M8}{H:Hp}{Γ:Fm}:∀ {ns:List Bool} {vs:List V},(ns.map T.bl).length=vs.length->Rp K H (zz (ns.map T.bl) vs++Γ)->vs=bools ns
 | [],[],_,_=>rfl
 | [],_::_,l,_=>by simp at l
 | _::_,[],l,_=>by simp at l
 | n::ns,v::vs,l,h=>by
  have h:Rp K H ((.bl n,some v)::(zz (ns.map T.bl) vs++Γ)):=h
  rw[mF h,qa (by simpa using l) h.tail]
  rfl
def Dc:P1s
 | [.lst _ ts],k=>got (boolsOf ts) fun bs=>k (.bl (bs.any id))
 | _,_=>False
theorem w6(hc:X.calm=true):ny X (.builtin "any") Dc:=by
 rintro pins s σ H xs us Q I r ⟨ts,Γ,k,l,rp,g,c⟩
 unfold Dc at g
 split at g
 ·rename_i k o ts
  obtain⟨x,rfl⟩:=zz1 l rfl
  have rp:Rp X.K H ((.lst o ts,some x)::Γ):=rp
  obtain⟨bs,e,kt⟩:=aH g
  have:=lG e
  subst this
  obtain⟨a,vs,rfl,hq,l2,rp2⟩:=aD rfl rp
  have:=qa l2 rp2
  subst this
  exact zE hc pins s σ H _ us Q I r ⟨a,bs,rfl,hq,c _ _ _ kt (bP rp.tail fun _=>.bl)⟩
 exact Nu g
abbrev PO':=Ev->(Option Int->Ev->Prop)->Prop
def wO(K:M8)(f:PO'):TO:=fun σ H Q=>∃ env Fr k,Rs K H env σ Fr/\f env k/\∀ o env' H',k o env'->Rs K H' env' σ Fr->Q o H'
def GO(X:Cx)(e:Option Nn)(f:PO'):Prop:=PO X e (wO X.K f)
def Ht:PO':=fun env k=>k none env
def FW(f:PF):PO':=fun env k=>f env fun t env1=>match t with
 | .int i=>k (some i) env1
 | _=>False
theorem AM:GO X none Ht:=fun pins s σ H Q I ⟨env,Fr,k,rs,q,c⟩=>vz pins s σ H Q I (c _ _ _ q rs)
theorem B6{e:Nn}{f:PF}(h:GE X e f):GO X (some e) (FW f):=by
 rintro pins s σ H Q I ⟨env,Fr,k,rs,q,c⟩
 refine um h pins s σ H Q I ⟨env,Fr,_,rs,q,fun t env1 v H1 q1 rs1=>?_⟩
 cases t <;> first | exact Nu q1 | skip
 exact⟨_,aR rs1.head,c _ _ _ q1 rs1.drop⟩
noncomputable def mC(ts:List T)(lo hi:Option Int):List T:=(ts.drop (HT.sIx ts.length 0 lo)).take (HT.sIx ts.length ts.length hi - HT.sIx ts.length 0 lo)
noncomputable def slT:T->Option Int->Option Int->(T->Prop)->Prop
 | .lst _ ts,lo,hi,k=>k (.lst true (mC ts lo hi))
 | .tup ts,lo,hi,k=>¬(HT.sIx ts.length 0 lo=0/\HT.sIx ts.length ts.length hi=ts.length)/\k (.tup (mC ts lo hi))
 | .cst ts,lo,hi,k=>¬(HT.sIx ts.length 0 lo=0/\HT.sIx ts.length ts.length hi=ts.length)/\k (.tup (mC ts lo hi))
 | _,_,_,_=>False
theorem uV:∀(ts:List T) (vs:List V) (n:Nat),zz (ts.drop n) (vs.drop n)=(zz ts vs).drop n
 | ts,vs,0=>rfl
 | [],vs,n + 1=>by simp[zz]
 | t::ts,[],n + 1=>by simp[zz]
 | t::ts,v::vs,n + 1=>by
  show zz (ts.drop n) (vs.drop n)=(zz ts vs).drop n
  exact uV ts vs n
theorem u6:∀(ts:List T) (vs:List V) (n:Nat),zz (ts.take n) (vs.take n)=(zz ts vs).take n
 | ts,vs,0=>by simp[zz]
 | [],vs,n + 1=>by simp[zz]
 | t::ts,[],n + 1=>by simp[zz]
 | t::ts,v::vs,n + 1=>by
  show(t,some v)::zz (ts.take n) (vs.take n)=(t,some v)::(zz ts vs).take n
  rw[u6 ts vs n]
theorem sC{K:M8}{H:Hp}{Γ:Fm}{ts:List T}{vs:List V}(l:ts.length=vs.length)(lo hi:Option Int)(h:Rp K H (zz ts vs++Γ)):Rp K H (zz (mC ts lo hi) (eF vs lo hi)++Γ)/\(mC ts lo hi).length=(eF vs lo hi).length:=by
 unfold mC eF
 rw[<-l]
 refine⟨?_,?_⟩
 ·rw[u6,uV]
  have e1:=IF (HT.sIx ts.length 0 lo) (zz ts vs)
  have e2:=IF (HT.sIx ts.length ts.length hi - HT.sIx ts.length 0 lo) ((zz ts vs).drop (HT.sIx ts.length 0 lo))
  have h2:Rp K H ((zz ts vs).drop (HT.sIx ts.length 0 lo)++Γ):=by
   rw[<-e1,h_]at h
   exact h.part
  rw[<-e2,h_]at h2
  have h3:=h2.perm (s_ _ _ _)
  exact h3.part
 rw[D',D',IS,IS,l]
noncomputable def fSl(fa:PF)(fl fh:PO'):PF:=fun env k=>fa env fun t env1=>fl env1 fun lo env2=>fh env2 fun hi env3=>slT t lo hi fun u=>k u env3
theorem xm{e:Nn}{lo hi:Option Nn}{fa:PF}{fl fh:PO'}{p2 pos:Pos}(he:GE X e fa)(hl:GO X lo fl)(hh:GO X hi fh):GE X (.Subscript e (.Slice lo hi none p2) pos) (fSl fa fl fh):=by
 have sl:SlR X (fun x lo hi H Q=>∃ t Γ k,Rp X.K H ((t,some x)::Γ)/\slT t lo hi k/\∀ u v H',k u->Rp X.K H' ((u,some v)::Γ)->Q v H'):=by
  rintro pins s σ H x v vl vu lo hi sl Q I rx hs pl pu ⟨t,Γ,k,rp,g,c⟩
  cases t with
  | lst o ts=>
   obtain⟨a,vs,rfl,hq,l,rp2⟩:=aD rfl rp
   obtain⟨rp3,l3⟩:=sC l lo hi rp2
   exact zj pins s σ H _ v vl vu lo hi sl Q I rx hs pl pu ⟨a,vs,rfl,hq,fun p H' hp g' e=>c _ _ _ g (dG rp3 l3 hp g' e)⟩
  | tup ts=>
   obtain⟨a,vs,rfl,hq,l,rp2⟩:=aD rfl rp
   obtain⟨rp3,l3⟩:=sC l lo hi rp2
   exact ur pins s σ H _ v vl vu lo hi sl Q I rx hs pl pu ⟨a,vs,rfl,hq,by rw[<-l];exact g.1,fun p H' hp g' e=>c _ _ _ g.2 (fO rp3 l3 g' e)⟩
  | cst ts=>
   obtain⟨a,vs,rfl,hq,l,rp2⟩:=aD rfl rp
   obtain⟨rp3,l3⟩:=sC l lo hi rp2
   exact ur pins s σ H _ v vl vu lo hi sl Q I rx hs pl pu ⟨a,vs,rfl,hq,by rw[<-l];exact g.1,fun p H' hp g' e=>c _ _ _ g.2 (fO rp3 l3 g' e)⟩
  | _=>exact Nu g
 refine PE.imp (rq sl he hl hh) ?_
 rintro σ H Q ⟨env,Fr,k,rs,q,c⟩
 refine⟨env,Fr,_,rs,q,fun t env1 v H1 q1 rs1=>⟨env1,_,_,rs1,q1,fun lo env2 H2 q2 rs2=>⟨env2,_,_,rs2,q2,fun hi env3 H3 q3 rs3=>?_⟩⟩⟩
 exact⟨t,_,_,rs3.head,q3,fun u w H' ku rp=>c _ _ _ _ ku (.of rs3.1 rp)⟩
end
open PySem PySem.Spec PyProof.Rows L2
inductive Arg where
 | val (t:T) | bor (i:Nat)
def lg:Arg->T
 | .val t=>t
 | .bor _=>.any
noncomputable def lend:List Arg->Ev->List T × Ev
 | [],env=>([],env)
 | .val t::r,env=>(t::(lend r env).1,(lend r env).2)
 | .bor i::r,env=>match env[i]? with
  | some t=>(t::(lend r (env.set i .any)).1,(lend r (env.set i .any)).2)
  | none=>(.any::(lend r env).1,(lend r env).2)
noncomputable def back:List Arg->List T->Ev->Ev
 | .bor i::r,t::ts,env=>back r ts (env.set i t)
 | .val _::r,_::ts,env=>back r ts env
 | _,_,env=>env
noncomputable def i7:List Arg->List (Option V)->L2.St->Prop
 | [],[],_=>True
 | .val _::r,_::xs,σ=>i7 r xs σ
 | .bor i::r,x::xs,σ=>(σ[i]?=some x\/σ.length<=i)/\i7 r xs σ
 | _,_,_=>False
section
variable{K:M8}{H:Hp}{σ:L2.St}
theorem gF:∀ {as:List Arg} {xs:List (Option V)} {env:Ev} {Fr:Fm},i7 as xs σ->Rs K H env σ ((as.map lg).zip xs++Fr)->Rs K H (lend as env).2 σ ((lend as env).1.zip xs++Fr)
 | [],[],env,Fr,_,h=>h
 | [],_::_,env,Fr,o,_=>o.elim
 | .val t::r,[],env,Fr,o,_=>o.elim
 | .bor i::r,[],env,Fr,o,_=>o.elim
 | .val t::r,x::xs,env,Fr,o,h=>by
  have h:Rs K H env σ ((t,x)::((r.map lg).zip xs++Fr)):=h
  have h2:Rs K H env σ ((r.map lg).zip xs++((t,x)::Fr)):=h.perm e_.symm
  exact(gF (as:=r) o h2).perm e_
 | .bor i::r,x::xs,env,Fr,o,h=>by
  have h:Rs K H env σ ((.any,x)::((r.map lg).zip xs++Fr)):=h
  have h:=h.drop
  rw[lend]
  split
  ·rename_i t e
   obtain⟨y,ey,h2⟩:=h.slot e
   have o1:σ[i]?=some x:=by
    rcases o.1 with z | z
    ·exact z
    have:=(c_.mp ey).1
    lia
   rw[o1]at ey
   cases ey
   have h3:Rs K H (env.set i .any) σ ((r.map lg).zip xs++((t,x)::Fr)):=h2.perm e_.symm
   exact(gF (as:=r) o.2 h3).perm e_
  have h3:Rs K H env σ ((r.map lg).zip xs++((.any,x)::Fr)):=(Rs.of h.1 (e6 (x:=x) h.2)).perm e_.symm
  exact(gF (as:=r) o.2 h3).perm e_
theorem iC:∀ {as:List Arg} {xs:List (Option V)} {ts:List T} {env:Ev} {Fr:Fm},i7 as xs σ->Rs K H env σ (ts.zip xs++Fr)->Rs K H (back as ts env) σ Fr
 | [],xs,ts,env,Fr,_,h=>by
  have:back [] ts env=env:=by cases ts <;> rfl
  rw[this]
  exact⟨h.1,(h.2.perm (s_ _ _ _)).part⟩
 | a::r,xs,[],env,Fr,_,h=>by
  have:back (a::r) [] env=env:=by cases a <;> rfl
  rw[this]
  exact h
 | .val t::r,[],u::ts,env,Fr,o,_=>o.elim
 | .bor i::r,[],u::ts,env,Fr,o,_=>o.elim
 | .val t::r,x::xs,u::ts,env,Fr,o,h=>by
  have h:Rs K H env σ ((u,x)::(ts.zip xs++Fr)):=h
  exact iC (as:=r) o h.drop
 | .bor i::r,x::xs,u::ts,env,Fr,o,h=>by
  have h:Rs K H env σ ((u,x)::(ts.zip xs++Fr)):=h
  rw[back]
  by_cases hi:i < env.length
  ·have o1:σ[i]?=some x:=by
    rcases o.1 with z | z
    ·exact z
    have:=h.1
    lia
   exact iC (as:=r) o.2 (h.dS hi o1)
  have e:env.set i u=env:=KG (by lia)
  rw[e]
  exact iC (as:=r) o.2 h.drop
theorem Rs.put {env:Ev}{Fr:Fm}{i:Nat}{t:T}{v:V}(h:Rs K H env σ ((t,some v)::Fr)):Rs K H (env.set i t) (σ.set i (some v)) Fr:=by
 by_cases hi:i < env.length
 ·exact h.store hi
 rw[KG (by lia),KG (by rw[<-h.1];lia)]
 exact h.drop
end
abbrev PAs:=Ev->(List Arg->Ev->Prop)->Prop
noncomputable def wR(K:M8)(f:PAs):TA:=fun σ H Q=>∃ env Fr k,Rs K H env σ Fr/\f env k/\∀ as env' vs H',k as env'->as.length=vs.length->i7 as (vs.map some) σ->Rs K H' env' σ ((as.map lg).zip (vs.map some)++Fr)->Q vs H'
def GR(X:Cx)(es:List Nn)(f:PAs):Prop:=PA X es (wR X.K f)
def G4:PAs:=fun env k=>k [] env
def HE(f:PF)(r:PAs):PAs:=fun env k=>f env fun t env1=>r env1 fun as env2=>k (.val t::as) env2
noncomputable def EB(i:Nat)(r:PAs):PAs:=fun env k=>(match env[i]? with
 | some t=>isAny t=false
 | none=>False)/\r env fun as env2=>k (.bor i::as) env2
section
variable{X:Cx}{e:Nn}{es:List Nn}{f:PF}{fr:PAs}
theorem aj:GR X [] G4:=PA.imp aZ fun σ H Q ⟨env,Fr,k,rs,q,c⟩=>c [] env [] H q rfl trivial rs
theorem af(he:GE X e f)(hr:GR X es fr)(hs:Np (e::es) X.env=(false,NA e X.env)::Np es X.env:=by rfl):GR X (e::es) (HE f fr):=by
 refine PA.imp (aq he hr hs) ?_
 rintro σ H Q ⟨env,Fr,k,rs,q,c⟩
 refine⟨env,Fr,_,rs,q,fun t env1 v H1 q1 rs1=>⟨env1,_,_,rs1,q1,fun as env2 vs H2 q2 l ao rs2=>c _ _ _ _ q2 (by rw[o_,o_,l]) ao ?_⟩⟩
 exact rs2.perm e_
theorem bo(i:Nat){x:Str}{pos:Pos}(hr:GR X es fr)(hN:X.N[i]?=some x:=by rfl)(hv:Vis X.env.scope x:=by first | exact f' rfl | exact i_ (f' rfl) | exact i_ (i_ rfl))(hd:(x ==("__debug__":Str))=false:=by decide)(hcd:(x ==("__classdict__":Str))=false:=by decide)
  (hs:Np (.Name x pos::es) X.env=(false,NA (.Name x pos) X.env)::Np es X.env:=by rfl):GR X (.Name x pos::es) (EB i fr):=by
 refine PA.imp (aq (cU hN hv hd hcd) hr hs) ?_
 rintro σ H Q ⟨env,Fr,k,rs,⟨na,q⟩,c⟩
 split at na
 ·rename_i t e
  obtain⟨y,ey,rs2⟩:=rs.slot e
  obtain⟨v,rfl⟩:=cG rs2 na
  refine⟨v,ey,env,Fr,_,rs,q,fun as env2 vs H2 q2 l ao rs2=>c _ _ _ _ q2 (by rw[o_,o_,l]) ⟨.inl ey,ao⟩ ?_⟩
  exact .of rs2.1 (e6 rs2.2)
 exact na.elim
end
abbrev FP:=List T->(T->List T->Prop)->Prop
noncomputable def aK(K:M8)(n:Nat)(P:FP):Sp:=fun vs H Q _=>∃ ts Fr k,ts.length=vs.length/\vs.length=n/\Rp K H (zz ts vs++Fr)/\P ts k/\∀ t ts' v H',k t ts'->Rp K H' ((t,some v)::(zz ts' vs++Fr))->Q v H'
def Gf(P:FP)(ts:List T)(k:T->List T->Prop):Prop:=P ts k
noncomputable def Fh(n:Nat)(P:FP)(fr:PAs):PF:=fun env k=>fr env fun as env1=>as.length=n/\Gf P (lend as env1).1 fun t ts'=>k t (back as ts' (lend as env1).2)
section
variable{X:Cx}
theorem dO:∀(as:List Arg) (env:Ev),(lend as env).1.length=as.length
 | [],env=>rfl
 | .val t::r,env=>by rw[lend,o_,o_,dO r]
 | .bor i::r,env=>by
  rw[lend]
  split
  ·rw[o_,o_,dO r]
  rw[o_,o_,dO r]
theorem Ax{n:Nat}{P:FP}{fr:PAs}:∀ σ H Q,wE X.K (Fh n P fr) σ H Q->yC (aK X.K n P) [] E0 (wR X.K fr) σ H Q:=by
 rintro σ H Q ⟨env,Fr,k,rs,q,c⟩
 refine⟨env,Fr,_,rs,q,fun as env1 vs H1 ⟨hn,q1⟩ l ao rs1=>?_⟩
 show aK X.K n P (vs++[]) H1 Q E0
 rw[IP]
 have rs2:=gF ao rs1
 refine⟨(lend as env1).1,(lend as env1).2.zip σ++Fr,_,by rw[dO,l],by rw[<-l];exact hn,?_,q1,fun t ts' v H' kt rp=>c _ _ _ _ kt ?_⟩
 ·exact rs2.2.perm (s_ _ _ _)
 have h3:Rs X.K H' (lend as env1).2 σ (zz ts' vs++((t,some v)::Fr)):=⟨rs2.1,rp.perm (by
  refine A_ ?_ (s_ _ _ _)
  refine A_ e_.symm ?_
  exact IL _ e_.symm)⟩
 exact iC ao h3
theorem ai{j k n:Nat}{x:Str}{ps:List Str}{P:FP}{e:Nn}{es:List Nn}{fr:PAs}{p pos:Pos}(D:Cal X.prog X.w X.K X.mg X.base j x ps (aK X.K n P))(hr:Room k X.A)(hg:Gl X x)(ha:GR X (e::es) fr)(hjk:j<=k:=by omega)(hdb:(x ==("__debug__":Str))=false:=by decide)
  (he:Np (e::es) X.env=(false,NA e X.env)::Np es X.env:=by rfl) (hpl:(O1 pos (Np es X.env)).any (·.1)=false:=by rfl):GE X (.Call (.Name x p) (e::es) [] pos) (Fh n P fr):=PE.imp (xG D hr hg ha hjk hdb he hpl) Ax
end
structure PEn where
 nx:Ev->Prop
 rt:T->Ev->Prop
 bk:Ev->Prop:=fun _=>False
 ct:Ev->Prop:=fun _=>False
abbrev PSt:=PEn->Ev->Prop
def Kept(κ:Nat->Bool)(σ σ':L2.St):Prop:=σ'.length=σ.length/\∀ j,κ j=true->σ'[j]?=σ[j]?
theorem Kept.refl {κ:Nat->Bool}{σ:L2.St}:Kept κ σ σ:=⟨rfl,fun _ _=>rfl⟩
theorem Kept.trans {κ:Nat->Bool}{σ σ' σ'':L2.St}(a:Kept κ σ σ')(b:Kept κ σ' σ''):Kept κ σ σ'':=⟨b.1.trans a.1,fun j h=>(b.2 j h).trans (a.2 j h)⟩
theorem Kept.set {κ:Nat->Bool}{σ:L2.St}{i:Nat}{x:Option V}(h:κ i=false):Kept κ σ (σ.set i x):=⟨IE,fun j hj=>by
 by_cases e:i=j
 ·subst e;rw[h]at hj;cases hj
 rw[Jw e]⟩
structure EndOk (K:M8) (κ:Nat->Bool) (σ:L2.St) (Fr:Fm) (pe:PEn) (D:Ends):Prop where
 nx:∀ env' σ' H',pe.nx env'->Rs K H' env' σ' Fr->Kept κ σ σ'->D.nx σ' H'
 rt:∀ t env' v σ' H',pe.rt t env'->Rs K H' env' σ' ((t,some v)::Fr)->Kept κ σ σ'->D.rt v H'
 bk:∀ env' σ' H',pe.bk env'->Rs K H' env' σ' Fr->Kept κ σ σ'->D.bk σ' H'
 ct:∀ env' σ' H',pe.ct env'->Rs K H' env' σ' Fr->Kept κ σ σ'->D.ct σ' H'
theorem EndOk.later {K:M8}{κ:Nat->Bool}{σ σ':L2.St}{Fr:Fm}{pe:PEn}{D:Ends}(h:EndOk K κ σ Fr pe D)(k:Kept κ σ σ'):EndOk K κ σ' Fr pe D:=
 ⟨fun a b c p q r=>h.nx a b c p q (k.trans r),fun a b c d e p q r=>h.rt a b c d e p q (k.trans r),fun a b c p q r=>h.bk a b c p q (k.trans r),fun a b c p q r=>h.ct a b c p q (k.trans r)⟩
def wS(K:M8)(κ:Nat->Bool)(f:PSt):TS:=fun D σ H=>∃ env Fr pe,Rs K H env σ Fr/\f pe env/\EndOk K κ σ Fr pe D
def GS(κ:Nat->Bool)(X:Cx)(st:NN)(f:PSt):Prop:=PS X st (wS X.K κ f)
def GSs(κ:Nat->Bool)(X:Cx)(sts:List NN)(f:PSt):Prop:=PSs X sts (wS X.K κ f)
theorem PS.imp {X:Cx}{st:NN}{t t':TS}(h:PS X st t)(k:∀ D σ H,t' D σ H->t D σ H):PS X st t':=fun pins s σ H D I q=>h pins s σ H D I (k _ _ _ q)
theorem PSs.imp {X:Cx}{st:List NN}{t t':TS}(h:PSs X st t)(k:∀ D σ H,t' D σ H->t D σ H):PSs X st t':=fun pins s σ H D I q=>h pins s σ H D I (k _ _ _ q)
def Co:PSt:=fun pe env=>pe.nx env
def FR(f g:PSt):PSt:=fun pe env=>f { pe with nx:=g pe } env
section
variable{X:Cx}{κ:Nat->Bool}{pos:Pos}{st:NN}{rest:List NN}{f g:PSt}{e:Nn}{fe:PF}
theorem dA:GSs κ X [] Co:=PSs.imp cB fun D σ H ⟨env,Fr,pe,rs,q,c⟩=>c.nx _ _ _ q rs .refl
theorem ag(h1:GS κ X st f)(h2:GSs κ X rest g):GSs κ X (st::rest) (FR f g):=by
 refine PSs.imp (aO h1 h2) ?_
 rintro D σ H ⟨env,Fr,pe,rs,q,c⟩
 refine⟨env,Fr,_,rs,q,⟨fun env' σ' H' q1 rs1 k1=>⟨env',Fr,pe,rs1,q1,c.later k1⟩,c.rt,c.bk,c.ct⟩⟩
theorem ax(h1:GS κ X st f):GSs κ X [st] f:=bX h1
def CN(fe:PF):PSt:=fun pe env=>fe env fun _ env1=>pe.nx env1
theorem dq(he:GE X e fe)(hs:Pa e none pos.line X.env=pure false:=by rfl):GS κ X (.Expr e pos) (CN fe):=by
 refine PS.imp (Be he hs) ?_
 rintro D σ H ⟨env,Fr,pe,rs,q,c⟩
 exact⟨env,Fr,_,rs,q,fun t env' v H' q1 rs1=>c.nx _ _ _ q1 rs1.drop .refl⟩
def Hi(fe:PF):PSt:=fun pe env=>fe env fun t env1=>pe.rt t env1
theorem b9(he:GE X e fe):GS κ X (.Return (some e) pos) (Hi fe):=by
 refine PS.imp (cQ he) ?_
 rintro D σ H ⟨env,Fr,pe,rs,q,c⟩
 exact⟨env,Fr,_,rs,q,fun t env' v H' q1 rs1=>c.rt _ _ _ _ _ q1 rs1 .refl⟩
def sIf(tc:PB)(f g:PSt):PSt:=fun pe env=>tc env fun b env1=>cnd b (f pe env1) (g pe env1)
theorem l9{c:Nn}{a b:List NN}{tc:PB}(hc:GT X c tc)(ha:GSs κ X a f)(hb:GSs κ X b g):GS κ X (.If c a b pos) (sIf tc f g):=by
 refine PS.imp (ib hc ha hb) ?_
 rintro D σ H ⟨env,Fr,pe,rs,q,c⟩
 refine⟨env,Fr,_,rs,q,fun b env' H' q1 rs1=>dB ⟨fun h=>⟨env',Fr,pe,rs1,q1.1 h,c⟩,fun h=>⟨env',Fr,pe,rs1,q1.2 h,c⟩⟩⟩
def xU(i:Nat)(fe:PF):PSt:=fun pe env=>fe env fun t env1=>pe.nx (env1.set i t)
theorem aE{i:Nat}{x:Str}{pos':Pos}(hN:X.N.Nodup)(hi:X.N[i]?=some x)(hx:Loc X.env.scope x)(hκ:κ i=false)(he:GE X e fe)(hs:Pa e (some (.Name x pos')) pos.line X.env=pure false:=by rfl)(hf:X.fn x=true\/X.env.scope.names.lookup x=some .local:=by first | exact .inl rfl | exact .inr rfl | assumption) :
  GS κ X (.Assign [.Name x pos'] e pos) (xU i fe):=by
 refine PS.imp (e7 hN hi hx he hs hf) ?_
 rintro D σ H ⟨env,Fr,pe,rs,q,c⟩
 exact⟨env,Fr,_,rs,q,fun t env' v H' q1 rs1=>c.nx _ _ _ q1 rs1.put (.set hκ)⟩
abbrev PG':=T->Ev->(Ev->Prop)->Prop
abbrev qv:=List T->Ev->(Ev->Prop)->Prop
noncomputable def wG(K:M8)(κ:Nat->Bool)(f:PG'):TG:=fun v σ H Q=>∃ t env Fr k,Rs K H env σ ((t,some v)::Fr)/\f t env k/\∀ env' σ' H',k env'->Rs K H' env' σ' Fr->Kept κ σ σ'->Q σ' H'
noncomputable def wGs(K:M8)(κ:Nat->Bool)(f:qv):TGs:=fun vs σ H Q=>∃ ts env Fr k,ts.length=vs.length/\Rs K H env σ (zz ts vs++Fr)/\f ts env k/\∀ env' σ' H',k env'->Rs K H' env' σ' Fr->Kept κ σ σ'->Q σ' H'
def GG(κ:Nat->Bool)(X:Cx)(tg:Nn)(f:PG'):Prop:=PG X tg (wG X.K κ f)
def GGs(κ:Nat->Bool)(X:Cx)(tgs:List Nn)(f:qv):Prop:=PGs X tgs (wGs X.K κ f)
def gN(i:Nat):PG':=fun t env k=>k (env.set i t)
theorem au{i:Nat}{x:Str}(hN:X.N.Nodup)(hi:X.N[i]?=some x)(hx:Loc X.env.scope x)(hκ:κ i=false)(hf:X.fn x=true\/X.env.scope.names.lookup x=some .local:=by first | exact .inl rfl | exact .inr rfl | assumption):GG κ X (.Name x pos) (gN i):=
 fun pins s σ H v u Q I r ⟨t,env,Fr,k,rs,q,c⟩=>k9 hN hi hx hf pins s σ H v u Q I r (c _ _ _ q rs.put (.set hκ))
def CH:qv:=fun ts env k=>ts=[]/\k env
def zr(f:PG')(r:qv):qv:=fun ts env k=>match ts with
 | t::ts=>f t env fun env1=>r ts env1 k
 | []=>False
noncomputable def gTp(n:Nat)(f:qv):PG':=fun t env k=>match t with
 | .tup ts=>ts.length=n/\f ts env k
 | .cst ts=>ts.length=n/\f ts env k
 | _=>False
end
open PySem PySem.Spec PyProof.Rows L2
section
variable{X:Cx}{κ:Nat->Bool}{pos:Pos}{e tg:Nn}{es:List Nn}{fe:PF}{g:PG'}{gs:qv}
theorem bZ:GGs κ X [] CH:=by
 rintro pins s σ H vs us Q I r ⟨ts,env,Fr,k,l,rs,⟨e,q⟩,c⟩
 subst e
 have:vs=[]:=by cases vs with | nil=>rfl | cons _ _=>cases l
 subst this
 exact nU pins s σ H [] us Q I r ⟨rfl,c _ _ _ q rs .refl⟩
theorem aC(h1:GG κ X e g)(h2:GGs κ X es gs)(hs:(OC (e::es) X.env).map (·.2)=Pn e X.env::(OC es X.env).map (·.2):=by rfl):GGs κ X (e::es) (zr g gs):=by
 rintro pins s σ H vs us Q I r ⟨ts,env,Fr,k,l,rs,q,c⟩
 cases ts with
 | nil=>exact Nu q
 | cons t ts=>
  cases vs with
  | nil=>cases l
  | cons v vs=>
   have q:g t env fun env1=>gs ts env1 k:=q
   refine dW h1 h2 hs pins s σ H (v::vs) us Q I r ⟨v,vs,rfl,t,env,zz ts vs++Fr,_,rs,q,fun env1 σ1 H1 q1 rs1 k1=>?_⟩
   exact⟨ts,env1,Fr,k,by simpa using l,rs1,q1,fun env2 σ2 H2 q2 rs2 k2=>c _ _ _ q2 rs2 (k1.trans k2)⟩
theorem cF{x1 n:Nat}(hc:X.calm=true)(h:GGs κ X es gs)(hn:(OC es X.env).length=n:=by rfl)(hst:(OC es X.env).findIdx? (·.1)=none:=by rfl):GG κ X (.Tuple es x1 pos) (gTp n gs):=by
 rintro pins s σ H v u Q I r ⟨t,env,Fr,k,rs,q,c⟩
 have go:∀ ts,items t=some ts->oT t=true->ts.length=n->gs ts env k->Nb (Ni X.prog X.w) X.A (Pn (.Tuple es x1 pos) X.env u) (fun _ s'=>∃ σ' H',Inv X pins σ' H' s'/\Q σ' H') X.xe s:=fun ts e1 e2 e3 q=>by
  obtain⟨a,vs,rfl,hq,l,rp⟩:=aD e1 rs.head
  rw[e2]at hq
  refine tD hc h hn hst pins s σ H _ u Q I r ⟨a,vs,rfl,hq,by rw[<-l];exact e3,ts,env,Fr,k,l,⟨rs.1,?_⟩,q,c⟩
  exact rp.perm (s_ _ _ _)
 cases t with
 | tup ts=>exact go ts rfl rfl q.1 q.2
 | cst ts=>exact go ts rfl rfl q.1 q.2
 | _=>exact Nu q
def Gj(fe:PF)(g:PG'):PSt:=fun pe env=>fe env fun t env1=>g t env1 pe.nx
theorem pN(he:GE X e fe)(hg:GG κ X tg g)(hs:Qw [tg] e pos.line X.env=pure false:=by rfl)(hw:Qx [tg] e X.env=pure none:=by rfl)(h1:(OC [tg] X.env).map (·.2)=[Pn tg X.env]:=by rfl) :
  GS κ X (.Assign [tg] e pos) (Gj fe g):=by
 refine PS.imp (zt he hg hs hw h1) ?_
 rintro D σ H ⟨env,Fr,pe,rs,q,c⟩
 exact⟨env,Fr,_,rs,q,fun t env' v H' q1 rs1=>⟨t,env',Fr,_,rs1,q1,fun env2 σ2 H2 q2 rs2 k2=>c.nx _ _ _ q2 rs2 k2⟩⟩
noncomputable def G5(i j:Nat)(fr:PFs):PSt:=fun pe env=>fr env fun ts env1=>match ts with
 | [t,u]=>pe.nx ((env1.set i t).set j u)
 | _=>False
theorem D6{i j:Nat}{x y:Str}{a b:Nn}{fr:PFs}{px py pt:Pos}{kt k2 pt2}(hc:X.calm=true)(hN:X.N.Nodup)(hi:X.N[i]?=some x)(hj:X.N[j]?=some y)(hij:i≠j)
  (hx:X.env.scope.names.lookup x=some .local) (hy:X.env.scope.names.lookup y=some .local) (hκi:κ i=false) (hκj:κ j=false) (ha:GA X [a,b] fr)
  (hw:Qx [.Tuple [.Name x px,.Name y py] kt pt] (.Tuple [a,b] k2 pt2) X.env=pure (some [x,y])) (hs:Qw [.Tuple [.Name x px,.Name y py] kt pt] (.Tuple [a,b] k2 pt2) pos.line X.env=pure false:=by rfl) :
  GS κ X (.Assign [.Tuple [.Name x px,.Name y py] kt pt] (.Tuple [a,b] k2 pt2) pos) (G5 i j fr):=by
 refine PS.imp (Fw hc hN hi hj hij hx hy ha hw hs) ?_
 rintro D σ H ⟨env,Fr,pe,rs,q,c⟩
 refine⟨env,Fr,_,rs,q,fun ts env1 vs H1 q1 l rs1=>?_⟩
 rcases ts with _ | ⟨t,_ | ⟨u,_ | ⟨t3,ts⟩⟩⟩
 ·exact q1.elim
 ·exact q1.elim
 ·obtain⟨v,w,rfl⟩:=zz2 l rfl
  refine⟨v,w,rfl,c.nx _ _ _ q1 ?_ ((Kept.set hκi).trans (Kept.set hκj))⟩
  have r1:Rs X.K H1 env1 σ ((t,some v)::(u,some w)::Fr):=rs1
  exact Rs.put (Rs.put r1)
 exact q1.elim
noncomputable def EX(i:Nat)(fe:PF)(g:P2):PSt:=fun pe env=>(match env[i]? with
 | some t=>isAny t=false/\aV t=true
 | none=>False)/\fe env fun u env1=>match env[i]? with
 | some t=>g t u fun w=>pe.nx (env1.set i w)
 | none=>False
def IpP(X:Cx)(op:QP)(g:P2):Prop:=PIp X op (w2 X.K g)
theorem sL{i:Nat}{x:Str}{op:QP}{g:P2}{pos':Pos}(hN:X.N.Nodup)(hi:X.N[i]?=some x)(hx:Loc X.env.scope x)(hκ:κ i=false)(he:GE X e fe)(ho:IpP X op g)(hf:X.fn x=true\/X.env.scope.names.lookup x=some .local:=by first | exact .inl rfl | exact .inr rfl | assumption) :
  GS κ X (.AugAssign (.Name x pos') op e pos) (EX i fe g):=by
 refine PS.imp (ER hN hi hx he ho hf) ?_
 rintro D σ H ⟨env,Fr,pe,rs,⟨q0,q⟩,c⟩
 cases e0:env[i]? with
 | none=>rw[e0]at q0;exact q0.elim
 | some t=>
  simp only[e0]at q0 q
  obtain⟨y,ey,rs2⟩:=rs.slot e0
  obtain⟨v,rfl⟩:=cG rs2 q0.1
  have hi':i < env.length:=(c_.mp e0).1
  have r3:Rs X.K H (env.set i .any) σ ((t,some v)::(t,some v)::Fr):=.of rs2.1 ((iW rs2.head q0.2).perm (Ll _ e_.symm))
  have r4:=Rs.dS (i:=i) r3 (by rw[IE];exact hi') ey
  rw[gR e0]at r4
  refine⟨v,ey,env,(t,some v)::Fr,_,r4,q,fun u env1 w H1 q1 rs1=>?_⟩
  refine⟨t,u,env1.zip σ++Fr,_,rs1.head.perm (.cons _ e_),q1,fun z b H2 kz rp=>?_⟩
  exact c.nx _ _ _ kz (Rs.put (.of rs1.1 rp)) (.set hκ)
noncomputable def sf(tc:PB)(fb:PSt)(pe:PEn)(env:Ev):Prop:=∃ W:Nat->Ev->Prop,(∃ m,W m env)/\∀ m env,W m env->tc env fun b env1=>cnd b (fb { pe with nx:=fun e=>∃ m',m' < m/\W m' e,ct:=fun e=>∃ m',m' < m/\W m' e,bk:=pe.nx } env1) (pe.nx env1)
def zJ(tc:PB)(fb:PSt):PSt:=fun pe env=>sf tc fb pe env
theorem qE{c:Nn}{body:List NN}{tc:PB}{fb:PSt}(hp:Q6 (Ni X.prog X.w) X.A X.env X.xe)(hc:GT X c tc)(hb:GSs κ X body fb):GS κ X (.While c body [] pos) (zJ tc fb):=by
 refine PS.imp (xF hp hc hb) ?_
 rintro D σ H ⟨env,Fr,pe,rs,⟨W,⟨m0,w0⟩,wt⟩,c⟩
 refine⟨fun m σ' H'=>∃ env',W m env'/\Rs X.K H' env' σ' Fr/\Kept κ σ σ',⟨m0,env,w0,rs,.refl⟩,?_⟩
 rintro m σ1 H1 ⟨env1,w1,rs1,k1⟩
 refine⟨env1,Fr,_,rs1,wt m env1 w1,fun b env2 H2 q2 rs2=>dB ⟨fun h=>?_,fun h=>c.nx _ _ _ (q2.2 h) rs2 k1⟩⟩
 refine⟨fun σ' H'=>∃ m' env',m' < m/\W m' env'/\Rs X.K H' env' σ' Fr/\Kept κ σ σ',fun σ' H' ⟨m',env',hm,w',r',k'⟩=>⟨m',hm,env',w',r',k'⟩,env2,Fr,_,rs2,q2.1 h,⟨?_,?_,?_,?_⟩⟩
 ·exact fun env' σ' H' ⟨m',hm,w'⟩ r' k'=>⟨m',env',hm,w',r',k1.trans k'⟩
 ·exact fun t env' v σ' H' p r' k'=>c.rt _ _ _ _ _ p r' (k1.trans k')
 ·exact fun env' σ' H' p r' k'=>c.nx _ _ _ p r' (k1.trans k')
 exact fun env' σ' H' ⟨m',hm,w'⟩ r' k'=>⟨m',env',hm,w',r',k1.trans k'⟩
structure ItOk (K:M8) (J:It) (its:List T) (Fg:Fm):Prop where
 turn:∀ i t H Γ,its[i]?=some t->Rp K H (Fg++Γ)->J.go i H/\∀ x H',J.yld i H x H'->Rp K H' ((t,some x)::(Fg++Γ))
 stop:∀ H Γ,Rp K H (Fg++Γ)->J.stop its.length H
abbrev PIt:=Ev->(List T->Ev->Prop)->Prop
noncomputable def wI(K:M8)(f:PIt):TI:=fun σ H R=>∃ env Fr k,Rs K H env σ Fr/\f env k/\∀ its env' J Fg H',k its env'->Rs K H' env' σ (Fg++Fr)->ItOk K J its Fg->R J H'
def GI(X:Cx)(tg iter:Nn)(f:PIt):Prop:=PI X tg iter (wI X.K f)
noncomputable def forL(its:List T)(g:PG')(fb:PSt)(pe:PEn)(env1:Ev):Prop:=∃ W:Nat->Ev->Prop,W 0 env1/\(∀ i t env,W i env->its[i]?=some t->g t env fun env2=>fb { pe with nx:=W (i + 1),ct:=W (i + 1),bk:=pe.nx } env2)/\∀ env,W its.length env->pe.nx env
def G6(fi:PIt)(g:PG')(fb:PSt):PSt:=fun pe env=>fi env fun its env1=>forL its g fb pe env1
theorem m8{K:M8}{H:Hp}{env:Ev}{σ:L2.St}{Fg Fr:Fm}(h:Rs K H env σ (Fg++Fr)):Rs K H env σ Fr:=⟨h.1,(h.2.perm (s_ _ _ _)).part⟩
theorem gc{iter:Nn}{body:List NN}{fi:PIt}{g:PG'}{fb:PSt}(hp:Q6 (Ni X.prog X.w) X.A X.env X.xe)(hc:X.calm=true)(hi:GI X tg iter fi)(hg:GG κ X tg g)(hb:GSs κ X body fb)(hs:∀ x,NJ iter X.env x=pure x:=by intro _;rfl):GS κ X (.For tg iter body [] pos) (G6 fi g fb):=by
 refine PS.imp (zp hp hc hi hg hb hs) ?_
 rintro D σ H ⟨env,Fr,pe,rs,q,c⟩
 refine⟨env,Fr,_,rs,q,?_⟩
 rintro its env1 J Fg H1 ⟨W,w0,wt,we⟩ rs1 ok
 refine⟨fun i m σ' H'=>∃ env',W i env'/\Rs X.K H' env' σ' (Fg++Fr)/\Kept κ σ σ'/\m + i=its.length,⟨its.length,env1,w0,rs1,.refl,rfl⟩,?_⟩
 rintro i m σ1 H2 ⟨env2,w2,rs2,k2,hm⟩
 have rp2:Rp X.K H2 (Fg++(env2.zip σ1++Fr)):=rs2.2.perm (s_ _ _ _)
 by_cases hlt:i < its.length
 ·have ei:its[i]?=some its[i]:=a_ hlt
  obtain⟨hgo,hy⟩:=ok.turn i its[i] H2 _ ei rp2
  refine .inr ⟨hgo,fun σ' H'=>∃ env',W (i + 1) env'/\Rs X.K H' env' σ' (Fg++Fr)/\Kept κ σ σ',fun σ' H' ⟨env',w',r',k'⟩=>⟨m - 1,by lia,env',w',r',k',by lia⟩,fun x H' hx=>?_⟩
  have rp3:=hy x H' hx
  have rs3:Rs X.K H' env2 σ1 ((its[i],some x)::(Fg++Fr)):=.of rs2.1 (rp3.perm (.cons _ (s_ _ _ _)))
  refine⟨its[i],env2,Fg++Fr,_,rs3,wt i its[i] env2 w2 ei,fun env3 σ3 H3 q3 rs4 k4=>?_⟩
  refine⟨env3,Fg++Fr,_,rs4,q3,⟨?_,?_,?_,?_⟩⟩
  ·exact fun env' σ' H' w' r' k'=>⟨env',w',r',k2.trans (k4.trans k')⟩
  ·exact fun t env' v σ' H' p r' k'=>c.rt _ _ _ _ _ p (m8 (Fg:=Fg) (r'.perm e_.symm)) (k2.trans (k4.trans k'))
  ·exact fun env' σ' H' p r' k'=>c.nx _ _ _ p (m8 r') (k2.trans (k4.trans k'))
  exact fun env' σ' H' w' r' k'=>⟨env',w',r',k2.trans (k4.trans k')⟩
 have:i=its.length:=by lia
 subst this
 exact .inl ⟨ok.stop H2 _ rp2,c.nx _ _ _ (we env2 w2) (m8 rs2) k2⟩
end
section
variable{X:Cx}{pos:Pos}{e tg:Nn}{fe:PF}
def GH(fe:PF):PIt:=fun env k=>fe env fun t env1=>got (items t) fun ts=>k (erL ts) env1
theorem Ey{K:M8}{t:T}{ts:List T}{a:M9}(e:items t=some ts)(n:aV t=true):ItOk K (Its K (oT t) a) ts [(t,some (.ref a))] where
 turn:=fun i u H Γ ei rp=>by
  obtain⟨a',vs,ea,hq,l,rp2⟩:=aD e (iW rp n)
  cases ea
  obtain⟨w,ew⟩:=oa l ei
  refine⟨wX hq rfl i H .bq (by have:=(c_.mp ew).1;exact this),fun x H' hy=>?_⟩
  obtain⟨rfl,hx⟩:=ui hq .bq hy
  rw[ew]at hx
  cases hx
  exact i9 rp2 ei ew
 stop:=fun H Γ rp=>by
  obtain⟨a',vs,ea,hq,l,rp2⟩:=aD e rp
  cases ea
  exact pU hq l.symm H .bq
theorem qU{t:T}{ts:List T}(e:items t=some ts):items (er t)=some (erL ts)/\oT (er t)=oT t:=by
 cases t <;> cases e <;> exact⟨rfl,rfl⟩
theorem bS(h:GE X e fe):GI X tg e (GH fe):=by
 rintro pins s σ H R I ⟨env,Fr,k,rs,q,c⟩
 refine yI h pins s σ H R I ⟨env,Fr,_,rs,q,fun t env1 v H1 q1 rs1=>?_⟩
 obtain⟨ts,e1,kt⟩:=aH q1
 have rf:Rp X.K H1 ((er t,some v)::(env1.zip σ++Fr)):=nV rs1.head
 obtain⟨e2,e3⟩:=qU e1
 obtain⟨a,vs,rfl,hq,l,rp2⟩:=aD e2 rf
 exact⟨oT (er t),a,vs,rfl,hq,c _ _ _ _ _ kt (Rs.of (Fr:=Fr) rs1.1 rf) (Ey e2 (bz t))⟩
def gm(lo:Int)(n:Nat):List T:=(m_ n).map fun(i:Nat)=>.int (lo + (i:Int))
theorem Dd{K:M8}(lo:Int)(n:Nat):ItOk K (Itr lo n) (gm lo n) [] where
 turn:=fun i t H Γ ei rp=>by
  unfold gm at ei
  rw[B']at ei
  have hi:i < n:=by
   cases h:(m_ n)[i]? with
   | none=>rw[h]at ei;cases ei
   | some j=>
    have:=(c_.mp h).1
    simpa using this
  rw[JU hi]at ei
  cases ei
  refine⟨hi,fun x H' ⟨e1,e2⟩=>?_⟩
  subst e1;subst e2
  exact bP rp fun _=>.int
 stop:=fun H Γ rp=>by
  show n<=_
  unfold gm
  rw[b_,y_]
  exact d_ _
noncomputable def iR1(fr:PFs):PIt:=fun env k=>fr env fun ts env1=>match ts with
 | [.int j]=>(-(2 ^ 62)<=j/\j < 2 ^ 62)/\k (gm 0 j.toNat) env1
 | _=>False
variable{a b c:Nn}{fr:PFs}{p:Pos}
theorem fu(hg:Gl X "range")(hm:X.mg "range"=none)(ha:GA X [a] fr)(hs:Np [a] X.env=[(false,NA a X.env)]:=by rfl):GI X tg (.Call (.Name "range" p) [a] [] pos) (iR1 fr):=by
 rintro pins s σ H R I ⟨env,Fr,k,rs,q,c⟩
 refine vL hg hm ha hs pins s σ H R I ⟨env,Fr,_,rs,q,fun ts env1 vs H1 q1 l rs1=>?_⟩
 rcases ts with _ | ⟨t,_ | ⟨t2,ts⟩⟩
 ·exact q1.elim
 ·cases t <;> first | exact q1.elim | skip
  rename_i j
  rcases vs with _ | ⟨v,_ | ⟨v2,vs⟩⟩
  ·cases l
  ·have rs1:Rs X.K H1 env1 σ ((.int j,some v)::Fr):=rs1
   rw[aR rs1.head]
   exact⟨j,rfl,q1.1.1,q1.1.2,c _ _ _ [] _ q1.2 rs1.drop (Dd 0 _)⟩
  cases l
 cases t <;> exact q1.elim
def dnT(lo:Int)(n:Nat):List T:=(m_ n).map fun(i:Nat)=>.int (lo - (i:Int))
theorem FY{K:M8}(lo:Int)(n:Nat):ItOk K (Idn lo n) (dnT lo n) [] where
 turn:=fun i t H Γ ei rp=>by
  unfold dnT at ei
  rw[B']at ei
  have hi:i < n:=by
   cases h:(m_ n)[i]? with
   | none=>rw[h]at ei;cases ei
   | some j=>
    have:=(c_.mp h).1
    simpa using this
  rw[JU hi]at ei
  cases ei
  refine⟨hi,fun x H' ⟨e1,e2⟩=>?_⟩
  subst e1;subst e2
  exact bP rp fun _=>.int
 stop:=fun H Γ rp=>by
  show n<=_
  unfold dnT
  rw[b_,y_]
  exact d_ _
noncomputable def iR3(fr:PFs):PIt:=fun env k=>fr env fun ts env1=>match ts with
 | [.int i,.int j,.int m]=>m=-1/\(-(2 ^ 60)<=i/\i < 2 ^ 60/\-(2 ^ 60)<=j/\j < 2 ^ 60)/\k (dnT i (i - j).toNat) env1
 | _=>False
theorem vV(hg:Gl X "range")(hm:X.mg "range"=none)(ha:GA X [a,b,c] fr)(hs:Np [a,b,c] X.env=[(false,NA a X.env),(false,NA b X.env),(false,NA c X.env)]:=by rfl)(hs2:Np [b,c] X.env=[(false,NA b X.env),(false,NA c X.env)]:=by rfl):GI X tg (.Call (.Name "range" p) [a,b,c] [] pos) (iR3 fr):=by
 rintro pins s σ H R I ⟨env,Fr,k,rs,q,c⟩
 refine wL hg hm ha hs hs2 pins s σ H R I ⟨env,Fr,_,rs,q,fun ts env1 vs H1 q1 l rs1=>?_⟩
 match ts,vs,l,q1 with
 | [.int i,.int j,.int m],[v,w,z],l,q1=>
  have rs1:Rs X.K H1 env1 σ ((.int i,some v)::(.int j,some w)::(.int m,some z)::Fr):=rs1
  rw[aR rs1.head,aR rs1.drop.head,aR rs1.drop.drop.head,q1.1]
  exact⟨i,j,rfl,q1.2.1,c _ _ _ [] _ q1.2.2 rs1.drop.drop.drop (FY i _)⟩
theorem F2{K:M8}{H H':Hp}{Γ:Fm}{t u:T}{x y:V}{p:M9}(h:Rp K H ((t,some x)::(u,some y)::Γ))(s:aN H H')(e:H' p=some (.tup [x,y])):Rp K H' ((.tup [t,u],some (.ref p))::Γ):=
 fO (ts:=[t,u]) (vs:=[x,y]) h rfl s e
noncomputable def iEn(fr:PFs):PIt:=fun env k=>fr env fun ts env1=>match ts with
 | [t]=>got (items t) fun as=>k ((m_ as.length).zipWith (fun(i:Nat) (x:T)=>T.tup [.int (i:Int),x]) (erL as)) env1
 | _=>False
theorem E6{K:M8}{t:T}{as:List T}{a:M9}(e1:items t=some as)(n1:aV t=true) :
  ItOk K (Ite K (oT t) a) ((m_ as.length).zipWith (fun(i:Nat) (x:T)=>T.tup [.int (i:Int),x]) as) [(t,some (.ref a))] where
 turn:=fun i w H Γ ei rp=>by
  have rp0:Rp K H ((t,some (.ref a))::Γ):=rp
  rw[Ma]at ei
  cases h1:(m_ as.length)[i]? with
  | none=>rw[h1]at ei;cases ei
  | some j=>
   cases h2:as[i]? with
   | none=>rw[h1,h2]at ei;cases ei
   | some u=>
    rw[h1,h2]at ei
    cases ei
    have hi:i < as.length:=(c_.mp h2).1
    rw[JU hi]at h1
    cases h1
    obtain⟨a',vs,ea,ha,la,rp2⟩:=aD e1 (iW rp0 n1)
    cases ea
    obtain⟨x,ex⟩:=oa la h2
    have rp3:=i9 rp2 h2 ex
    refine⟨⟨vs,x,ha,ex⟩,fun v H' hy=>?_⟩
    obtain⟨p,x',hp,ev,eH,h3⟩:=hy
    have ex':=h3 vs ha
    rw[ex]at ex'
    cases ex'
    subst ev;subst eH
    exact F2 (bP rp3 fun _=>.int) (aT hp _) ay
 stop:=fun H Γ rp=>by
  have rp0:Rp K H ((t,some (.ref a))::Γ):=rp
  obtain⟨a',vs,ea,ha,la,_⟩:=aD e1 rp0
  cases ea
  refine⟨vs,ha,?_⟩
  rw[Mh,y_,la,MU]
theorem jV{es:List Nn}{x1:Nat}{tp:Pos}(hg:Gl X "enumerate")(hm:X.mg "enumerate"=none)(ha:GA X [a] fr)(hs:Np [a] X.env=[(false,NA a X.env)]:=by rfl) :
  GI X (.Tuple es x1 tp) (.Call (.Name "enumerate" p) [a] [] pos) (iEn fr):=by
 rintro pins s σ H R I ⟨env,Fr,k,rs,q,c⟩
 refine C5 hg hm ha hs pins s σ H R I ⟨env,Fr,_,rs,q,fun ts env1 vs H1 q1 l rs1=>?_⟩
 rcases ts with _ | ⟨t,_ | ⟨t2,ts⟩⟩
 ·exact q1.elim
 ·obtain⟨v,rfl⟩:=zz1 l rfl
  obtain⟨as,ea,kt⟩:=aH q1
  have rs1:Rs X.K H1 env1 σ ((t,some v)::Fr):=rs1
  have r2:Rs X.K H1 env1 σ ((er t,some v)::Fr):=.of rs1.1 (nV rs1.head)
  obtain⟨e1,_⟩:=qU ea
  obtain⟨a',xs,rfl,hq,l1,_⟩:=aD e1 r2.head
  rw[<-jR as]at kt
  exact⟨_,a',rfl,⟨xs,hq⟩,c _ _ _ [(er t,_)] _ kt r2 (E6 e1 (bz t))⟩
 exact q1.elim
end
open PySem PySem.Spec PyProof.Rows L2
def frA(fr:List (Option Nat)):List Arg:=fr.map fun o=>match o with
 | some j=>.bor j
 | none=>.val .any
def κc(fr:List (Option Nat))(j:Nat):Bool:=match fr[j]? with
 | some (some _)=>true
 | _=>false
theorem dr:∀(fr:List (Option Nat)) (σ:L2.St),i7 (frA fr) (bg fr σ) σ
 | [],σ=>trivial
 | none::r,σ=>dr r σ
 | some j::r,σ=>by
  refine⟨?_,dr r σ⟩
  by_cases h:j < σ.length
  ·refine .inl ?_
   show σ[j]?=some ((σ[j]?).join)
   rw[a_ h]
   rfl
  exact .inr (by lia)
theorem fZ:∀(fr:List (Option Nat)) (τ τ':List (Option V)) (σ:L2.St),τ'.length=τ.length->(∀ j,κc fr j=true->τ'[j]?=τ[j]?)->i7 (frA fr) τ σ->i7 (frA fr) τ' σ
 | [],[],τ',σ,l,_,_=>by
  have:τ'=[]:=by cases τ' with | nil=>rfl | cons _ _=>cases l
  subst this
  trivial
 | [],_::_,_,_,_,_,o=>o.elim
 | none::r,[],_,_,_,_,o=>o.elim
 | some j::r,[],_,_,_,_,o=>o.elim
 | none::r,x::τ,[],σ,l,_,_=>by cases l
 | some j::r,x::τ,[],σ,l,_,_=>by cases l
 | none::r,x::τ,y::τ',σ,l,k,o=>fZ r τ τ' σ (by simpa using l) (fun j hj=>by simpa using k (j + 1) hj) o
 | some i::r,x::τ,y::τ',σ,l,k,o=>by
  have e:y=x:=by
   have:=k 0 rfl
   simpa using this
  subst e
  exact⟨o.1,fZ r τ τ' σ (by simpa using l) (fun j hj=>by simpa using k (j + 1) hj) o.2⟩
noncomputable def CP(fr:List (Option Nat))(its:List T)(g:PG')(ft:PB)(fe:PF)(env1:Ev)(k:T->Ev->Prop):Prop:=its.length < sizeLine/\∃ W:Nat->List T->Ev->Prop,W 0 [] (lend (frA fr) env1).1/\
 (∀ i t acc ie,W i acc ie->its[i]?=some t->g t ie fun ie2=>ft ie2 fun b ie3=>cnd b (fe ie3 fun u ie4=>W (i + 1) (acc++[u]) ie4) (W (i + 1) acc ie3))/\
 ∀ acc ie,W its.length acc ie->k (.lst true acc) (back (frA fr) ie (lend (frA fr) env1).2)
def kY(fr:List (Option Nat))(fi:PIt)(g:PG')(ft:PB)(fe:PF):PF:=fun env k=>fi env fun its env1=>CP fr its g ft fe env1 k
theorem oq:∀ fr:List (Option Nat),(frA fr).map lg=fr.map fun _=>T.any
 | []=>rfl
 | none::r=>by
  show T.any::(frA r).map lg=T.any::r.map fun _=>T.any
  rw[oq r]
 | some j::r=>by
  show T.any::(frA r).map lg=T.any::r.map fun _=>T.any
  rw[oq r]
theorem uo{K:M8}{H:Hp}{Γ:Fm}:∀(fr:List (Option Nat)) (xs:List (Option V)),Rp K H Γ->Rp K H ((fr.map fun _=>T.any).zip xs++Γ)
 | [],xs,h=>h
 | _::r,[],h=>h
 | _::r,x::xs,h=>e6 (uo r xs h)
theorem Bg(fr:List (Option Nat)):(frA fr).length=fr.length:=by unfold frA;rw[b_]
theorem su(fr:List (Option Nat))(σ:L2.St):(bg fr σ).length=fr.length:=by unfold bg;rw[b_]
theorem l5{K:M8}{fr:List (Option Nat)}{fi:PIt}{g:PG'}{ft:PB}{fe:PF}:∀ σ H Q,wE K (kY fr fi g ft fe) σ H Q->rL (wI K fi) fr (fun _ _ _=>wG K (κc fr) g) (fun _ _ _=>wB K ft) (fun _ _ _=>wE K fe) σ H Q:=by
 rintro σ H Q ⟨env,Fr,k,rs,q,c⟩
 refine⟨env,Fr,_,rs,q,?_⟩
 rintro its env1 J Fg H1 ⟨hz,W,w0,wt,we⟩ rs1 ok
 intro p hp s3 H3' fp
 have l0:Rs K H1 env1 σ (((frA fr).map lg).zip (bg fr σ)++(Fg++Fr)):=⟨rs1.1,by
  refine Rp.perm ?_ (s_ _ _ _)
  rw[oq]
  exact uo fr _ rs1.2⟩
 have l1:=gF (dr fr σ) l0
 obtain⟨ie0,ou,e0⟩:∃ ie0 ou,lend (frA fr) env1=(ie0,ou):=⟨_,_,rfl⟩
 have lie:ie0.length=(bg fr σ).length:=by
  have:=dO (frA fr) env1
  rw[e0,Bg]at this
  rw[su];exact this
 rw[e0]at l1 w0
 have rp0:Rp K (upd H1 p (.lst [])) ((.lst true [],some (.ref p))::(ie0.zip (bg fr σ)++(Fg++(ou.zip σ++Fr)))):=by
  refine dG (ts:=[]) (vs:=[]) (l1.2.perm ?_) rfl hp (aT hp _) ay
  show MO (ou.zip σ++(ie0.zip (bg fr σ)++(Fg++Fr))) (ie0.zip (bg fr σ)++(Fg++(ou.zip σ++Fr)))
  exact(s_ _ _ _).trans ((s_ _ _ _).append_left _)
 refine⟨fun i m σ' H'=>∃ acc ie,W i acc ie/\Rs K H' ie σ' ((.lst true acc,some (.ref p))::(Fg++(ou.zip σ++Fr)))/\Kept (κc fr) (bg fr σ) σ'/\m + i=its.length/\acc.length<=i,⟨its.length,[],ie0,w0,.of lie rp0,.refl,rfl,d_ _⟩,?_⟩
 rintro i m σ1 H2 ⟨acc,ie,w2,rs2,k2,hm,ha⟩
 have rp2:Rp K H2 (Fg++((.lst true acc,some (.ref p))::(ie.zip σ1++(ou.zip σ++Fr)))):=by
  refine rs2.head.perm ?_
  refine A_ ?_ e_.symm
  exact .cons _ (s_ _ _ _)
 by_cases hlt:i < its.length
 ·have ei:its[i]?=some its[i]:=a_ hlt
  obtain⟨hgo,hy⟩:=ok.turn i its[i] H2 _ ei rp2
  refine .inr ⟨hgo,fun x H' hx=>?_⟩
  have rp3:=hy x H' hx
  have rs3:Rs K H' ie σ1 ((its[i],some x)::((.lst true acc,some (.ref p))::(Fg++(ou.zip σ++Fr)))):=.of rs2.1 (rp3.perm (.cons _ (by
   refine e_.trans ?_
   refine A_ ?_ e_.symm
   exact .cons _ (s_ _ _ _))))
  refine⟨its[i],ie,_,_,rs3,wt i its[i] acc ie w2 ei,fun ie3 σ3 H3 q3 rs4 k4=>?_⟩
  refine⟨ie3,_,_,rs4,q3,fun b ie4 H4 q4 rs5=>dB ⟨fun hb=>?_,fun hb=>?_⟩⟩
  ·refine⟨ie4,_,_,rs5,q4.1 hb,fun u ie5 v H5 q5 rs6=>?_⟩
   have r7:=rs6.perm (.swap _ _ _)
   obtain⟨a',ys,ea,hys,ly,r8⟩:=dy r7.head
   cases ea
   refine⟨ys,hys,by rw[<-ly];exact Je ha (K9 hlt hz),m - 1,by lia,acc++[u],ie5,q5,.of r7.1 ?_,k2.trans k4,by lia,by rw[j_];simp;omega⟩
   refine cZ (ts:=acc++[u]) (vs:=ys++[v]) (r8.perm (.cons _ ?_)) (by rw[j_,j_,ly];rfl) Put.up
   rw[iZ ly,h_]
   refine IL _ ?_
   exact e_
  exact⟨m - 1,by lia,acc,ie4,q4.2 hb,rs5,k2.trans k4,by lia,by lia⟩
 have:i=its.length:=by lia
 subst this
 refine .inl ⟨ok.stop H2 _ rp2,c _ _ _ _ (we acc ie w2) ?_⟩
 rw[e0]
 have ao:i7 (frA fr) σ1 σ:=fZ fr (bg fr σ) σ1 σ k2.1 k2.2 (dr fr σ)
 refine iC ao (env:=ou) ⟨l1.1,?_⟩
 refine rp2.part.perm ?_
 refine A_ ?_ (s_ _ _ _)
 refine A_ e_.symm ?_
 exact IL _ e_.symm
def GTs(X:Cx)(ifs:List Nn)(f:PB):Prop:=PTs X ifs (wB X.K f)
def yq:PB:=fun env k=>k true env
theorem bB{X:Cx}:GTs X [] yq:=fun pins s σ H Q I ⟨env,Fr,k,rs,q,c⟩=>uQ pins s σ H Q I (c _ _ _ q rs)
theorem oR{X:Cx}{c:Nn}{f:PB}(h:GT X c f):GTs X [c] f:=Ab h
theorem dC{X:Cx}{N ps:List Str}{esc:NO}(S:FnScope N ps esc)(N':List Str)(fr:List (Option Nat))(nd:N'.Nodup){elt target iter:Nn}{ifs:List Nn}{sc:NO}{pos:Pos}{fi:PIt}{g:PG'}{ft:PB}{fe:PF}(C:dE N esc sc N' fr=true)
  (hi:GI X target iter fi) (hg:∀ s3 H3 fp,GG (κc fr) (aB X N' sc s3 H3 fp) target g) (ht:∀ s3 H3 fp,GTs (aB X N' sc s3 H3 fp) ifs ft) (he:∀ s3 H3 fp,GE (aB X N' sc s3 H3 fp) elt fe)
  (hc:X.calm=true:=by rfl) (hN:X.N=N:=by rfl) (hS:X.env.scope=esc:=by rfl) (hs:∀ x,NJ iter X.env x=pure x:=by intro _;rfl):GE X (.ListComp elt [⟨target,iter,ifs,0⟩] sc pos) (kY fr fi g ft fe):=
 PE.imp (qb S N' fr nd C hi hg ht he hc hN hS hs) l5
theorem Az{X:Cx}{κ:Nat->Bool}{N ps:List Str}{esc:NO}(S:FnScope N ps esc){i:Nat}{x:Str}{pos pos':Pos}(N':List Str)(fr:List (Option Nat))(nd:N'.Nodup){elt target iter:Nn}{ifs:List Nn}{sc:NO}{pos2:Pos}{fi:PIt}{g:PG'}{ft:PB}{fe:PF}(C:dE N esc sc N' fr=true)
  (hi:X.N[i]?=some x) (hx:Loc X.env.scope x) (hκ:κ i=false) (hit:GI X target iter fi) (hg:∀ s3 H3 fp,GG (κc fr) (aB X N' sc s3 H3 fp) target g) (ht:∀ s3 H3 fp,GTs (aB X N' sc s3 H3 fp) ifs ft) (he:∀ s3 H3 fp,GE (aB X N' sc s3 H3 fp) elt fe)
  (hsw:Pa (.ListComp elt [⟨target,iter,ifs,0⟩] sc pos2) (some (.Name x pos')) pos.line X.env=pure true) (hf:X.fn x=true:=by rfl)
  (hc:X.calm=true:=by rfl) (hN:X.N=N:=by rfl) (hS:X.env.scope=esc:=by rfl) (hs:∀ x,NJ iter X.env x=pure x:=by intro _;rfl):GS κ X (.Assign [.Name x pos'] (.ListComp elt [⟨target,iter,ifs,0⟩] sc pos2) pos) (xU i (kY fr fi g ft fe)):=by
 refine PS.imp (uB S N' fr nd C hi hx hit hg ht he hsw hf hc hN hS hs) ?_
 rintro D σ H ⟨env,Fr,pe,rs,q,c⟩
 exact l5 σ H _ ⟨env,Fr,_,rs,q,fun t env' v H' q1 rs1=>c.nx _ _ _ q1 rs1.put (.set hκ)⟩
abbrev PM:=T->List T->(T->T->Prop)->Prop
noncomputable def MtP(X:Cx)(id:String)(m:PM):Prop:=MtM X id (fun x xs H Q=>∃ t ts Γ k,ts.length=xs.length/\Rp X.K H ((t,some x)::(zz ts xs++Γ))/\m t ts k/\∀ t' r v H',k t' r->Rp X.K H' ((r,some v)::(t',some x)::Γ)->Q v H')
def isL:T->Bool
 | .lst _ _=>true
 | _=>false
noncomputable def uJ(i:Nat)(m:PM)(fr:PFs):PF:=fun env k=>got (env[i]?) fun t0=>isL t0=true/\fr env fun ts env1=>got (env1[i]?) fun t=>m t ts fun t' r=>k r (env1.set i t')
section
variable{X:Cx}{e o:Nn}{es:List Nn}{fr:PFs}{fe:PF}{m:PM}{name:Str}{id:String}{apos cpos pos:Pos}
theorem va{H:Hp}{Γ:Fm}{t:T}{v:V}(h:isL t=true)(rp:Rp X.K H ((t,some v)::Γ)):tyV X.K "list" v H:=by
 cases t <;> first | cases h | skip
 obtain⟨a,vs,rfl,hq,l,_⟩:=pR rp
 exact .inl ⟨rfl,vs,.inl hq⟩
theorem BY{t:T}(h:isL t=true):isAny t=false:=by cases t <;> first | rfl | cases h
theorem Cf{i:Nat}:∀ σ H Q,wE X.K (uJ i m fr) σ H Q->tBM X.K "list" (fun x xs H Q=>∃ t ts Γ k,ts.length=xs.length/\Rp X.K H ((t,some x)::(zz ts xs++Γ))/\m t ts k/\∀ t' r v H',k t' r->Rp X.K H' ((r,some v)::(t',some x)::Γ)->Q v H') (AQ i) (wA X.K fr) σ H Q:=by
 rintro σ H Q ⟨env,Fr,k,rs,q,c⟩
 obtain⟨t0,e0,hl,q⟩:=aH q
 obtain⟨y,ey,rs2⟩:=rs.slot e0
 obtain⟨v,rfl⟩:=cG rs2 (BY hl)
 refine⟨v,ey,va hl rs2.head,env,Fr,_,rs,q,fun ts env1 vs H1 q1 l rs1=>?_⟩
 obtain⟨t,et,q1⟩:=aH q1
 obtain⟨y',ey',rs3⟩:=rs1.slot et
 rw[ey]at ey'
 cases ey'
 have hi:i < env1.length:=(c_.mp et).1
 refine⟨t,ts,(env1.set i .any).zip σ++Fr,_,l,?_,q1,fun t' r w H' kt rp=>c _ _ _ _ kt ?_⟩
 ·refine rs3.head.perm (.cons _ ?_)
  exact s_ _ _ _
 have r4:Rs X.K H' (env1.set i .any) σ ((t',some v)::(r,some w)::Fr):=.of rs3.1 (rp.perm (by
  refine A_ (.swap _ _ _) ?_
  exact .cons _ e_.symm))
 have r5:=Rs.dS (i:=i) r4 (by rw[IE];exact hi) ey
 rw[LQ]at r5
 exact r5
theorem hZ(i:Nat){x:Str}{xp:Pos}(slot:Tf "list" name id)(hty:SQ (.builtin id)=pure (.type "method_descriptor"))(hm:MtP X id m)(ha:GA X (e::es) fr)(hN:X.N[i]?=some x:=by rfl)(hv:Vis X.env.scope x:=by first | exact f' rfl | exact i_ (f' rfl) | exact i_ (i_ rfl))(hd:(x ==("__debug__":Str))=false:=by decide)(hcd:(x ==("__classdict__":Str))=false:=by decide)
  (hbase:Qa (.Name x xp) name X.env (NA (.Name x xp) X.env)=NA (.Name x xp) X.env:=by rfl)
  (hfew:((O1 cpos (Np (e::es) X.env)).all (fun x=>!x.1) && (UE cpos (Sl [] X.env)).all (fun x=>x.1.isSome) && decide ((e::es).length + ([]:List Rn).length + (if([]:List Rn).isEmpty then 0 else 1) < 30))=true:=by rfl)
  (hline:(apos.endLine == cpos.line)=true:=by rfl) (hs:Np (e::es) X.env=(false,NA e X.env)::Np es X.env:=by rfl) (hplain:(O1 cpos (Np es X.env)).any (·.1)=false:=by rfl) :
  GE X (.Call (.Attribute (.Name x xp) name apos) (e::es) [] cpos) (uJ i m fr):=PE.imp (Ct PZ slot hty hm (cU hN hv hd hcd) ha hbase hfew hline hs hplain) Cf
theorem rG(i:Nat){x:Str}{xp:Pos}(slot:Tf "list" name id)(hty:SQ (.builtin id)=pure (.type "method_descriptor"))(hm:MtP X id m)(hN:X.N[i]?=some x:=by rfl)(hv:Vis X.env.scope x:=by first | exact f' rfl | exact i_ (f' rfl) | exact i_ (i_ rfl))(hd:(x ==("__debug__":Str))=false:=by decide)(hcd:(x ==("__classdict__":Str))=false:=by decide)
  (hbase:Qa (.Name x xp) name X.env (NA (.Name x xp) X.env)=NA (.Name x xp) X.env:=by rfl) (hline:(apos.endLine == cpos.line)=true:=by rfl) :
  GE X (.Call (.Attribute (.Name x xp) name apos) [] [] cpos) (uJ i m DW):=by
 refine PE.imp (Dh PZ slot hty hm (cU hN hv hd hcd) hbase hline) fun σ H Q h=>?_
 obtain⟨v,ev,ty,env,Fr,k,rs,q,c⟩:=Cf σ H Q h
 exact⟨v,ev,ty,c [] env [] H q rfl rs⟩
def oY:PM
 | .lst true ts,[t],k=>ts.length < sizeLine/\k (.lst true (ts++[t])) .non
 | _,_,_=>False
theorem dh:MtP X "list.append" oY:=by
 rintro pins s σ H x xs v us Q I rx r ⟨t,ts,Γ,k,l,rp,g,c⟩
 unfold oY at g
 split at g
 ·rename_i k ts t
  obtain⟨y,rfl⟩:=zz1 l rfl
  obtain⟨a,vs,ea,ha,la,rp2⟩:=dy rp
  cases ea
  refine si pins s σ H _ _ v us Q I rx r ⟨a,vs,y,rfl,rfl,ha,by rw[<-la];exact g.1,fun H' hp=>c _ _ _ _ g.2 (bP ?_ fun _=>.non)⟩
  refine cZ (ts:=ts++[t]) (vs:=vs++[y]) ?_ (by rw[j_,j_,la];rfl) hp
  rw[iZ la,h_]
  exact rp2
 exact Nu g
theorem yb:∀ {ts:List T} {vs:List V},ts.length=vs.length->zz ts.reverse vs.reverse=(zz ts vs).reverse
 | [],[],_=>rfl
 | [],_::_,l=>by cases l
 | _::_,[],l=>by cases l
 | t::ts,v::vs,l=>by
  have l':ts.length=vs.length:=by simpa using l
  rw[J7,J7,iZ (by rw[Jp,Jp];exact l'),yb l']
  show _=((t,some v)::zz ts vs).reverse
  rw[J7]
  rfl
end
def outs(ms:List Bool)(env:Ev):List T:=ms.zipWith (fun b t=>if b then t else .any) env
def κm(ms:List Bool)(j:Nat):Bool:=match ms[j]? with
 | some b=>b
 | none=>false
theorem gX{K:M8}{H:Hp}{Γ:Fm}:∀ {ms:List Bool} {env:Ev} {σ:L2.St} {vs:List V},ms.length=vs.length->(∀ j,κm ms j=true->σ[j]?=(vs[j]?).map some)->Rp K H (env.zip σ++Γ)->Rp K H (zz (outs ms env) vs++Γ)
 | [],env,σ,vs,l,k,h=>h.part
 | _::_,_,_,[],l,_,_=>by cases l
 | m::ms,[],σ,v::vs,l,k,h=>h
 | m::ms,t::env,[],v::vs,l,k,h=>by
  have ih:=gX (ms:=ms) (env:=env) (σ:=[]) (vs:=vs) (by simpa using l) (fun j hj=>by
   have:=k (j + 1) hj
   simpa using this) (by simpa using h)
  cases m with
  | true=>have:=k 0 rfl;simp at this
  | false=>exact e6 ih
 | m::ms,t::env,x::σ,v::vs,l,k,h=>by
  have h:Rp K H ((t,x)::(env.zip σ++Γ)):=h
  have ks:∀ j,κm ms j=true->σ[j]?=(vs[j]?).map some:=fun j hj=>by
   have:=k (j + 1) hj
   simpa using this
  cases m with
  | true=>
   have e:x=some v:=by
    have:=k 0 rfl
    simpa using this
   subst e
   have h2:Rp K H (env.zip σ++((t,some v)::Γ)):=h.perm e_.symm
   exact(gX (ms:=ms) (by simpa using l) ks h2).perm e_
  | false=>exact e6 (gX (ms:=ms) (by simpa using l) ks h.tail)
theorem yH{K:M8}{H:Hp}{Γ:Fm}{ts:List T}{vs:List V}(l:ts.length=vs.length)(n:Nat)(h:Rp K H (zz ts vs++Γ)):Rp K H ((ts++w_ n T.any).zip (vs.map some++w_ n none)++Γ):=by
 rw[MI (by rw[b_];exact l),h_]
 have:∀ n,Rp K H (zz ts vs++((w_ n T.any).zip (w_ n (none:Option V))++Γ)):=by
  intro n
  induction n with
  | zero=>exact h
  | succ n ih=>
   rw[Jh,Jh]
   exact(e6 (x:=none) ih).perm e_.symm
 exact this n
theorem cp{P:Nl}{w:Nq}{K:M8}{mg:Str->Option M7}{base:Nr}{x qual:Str}{st:NN}{f:M9}{fd:NB}{N ps:List Str}{k:Nat}{Pr:FP}(F:Fun K x qual st f fd)(S:FnScope N ps (ak st))(ms:List Bool)(hms:ms.length=ps.length)
  (body:∀(cdv:M7) (A:Nw) (outer:List Env) (s:M_) (H:Hp) (E:XK),Room k (A.deeper (Qf qual (ak st) s.heap.objs.size f cdv))->
   ∃ fb,GSs (κm ms) (tq CX0 P w K mg base N qual (ak st) f cdv A outer s H E).nox (cg st) fb/\∀ ts kk,ts.length=ps.length->Pr ts kk->fb { nx:=fun env=>kk .non (outs ms env),rt:=fun t env=>kk t (outs ms env) } (ts++w_ (N.length - ps.length) .any)) :
  FnOk P w K mg base CX0 (k + 1) f fd ps (aK K ps.length Pr):=by
 refine F.ok S (fun vs H Q E ⟨ts,Fr,kk,h1,h2,_⟩=>h2) (fun cdv A outer s H vs Q E hr ⟨ts,Fr,kk,h1,h2,rp,pr,c⟩=>?_)
 obtain⟨fb,hb,q⟩:=body cdv A outer s H E hr
 refine⟨_,hb,ts++w_ (N.length - ps.length) .any,Fr,_,?_,q ts kk (by rw[h1,h2]) pr,?_⟩
 ·unfold L2.start
  rw[h2]
  refine⟨by simp[h1],yH h1 _ rp⟩
 have kv:∀ {σ'},Kept (κm ms) (L2.start N vs) σ'->∀ j,κm ms j=true->σ'[j]?=(vs[j]?).map some:=fun{σ'} kp j hj=>by
  rw[kp.2 j hj]
  unfold L2.start
  have hj2:j < vs.length:=by
   rw[h2,<-hms]
   unfold κm at hj
   split at hj
   ·rename_i b e
    exact(c_.mp e).1
   cases hj
  rw[Jg (by rw[b_];exact hj2),B']
 refine⟨fun env' σ' H' q' rs' k'=>c _ _ _ _ q' ?_,fun t env' v σ' H' q' rs' k'=>c _ _ _ _ q' ?_,fun _ _ _ z=>z.elim,fun _ _ _ z=>z.elim⟩
 ·exact bP (gX (by rw[hms,h2]) (kv k') rs'.2) fun _=>.non
 exact(gX (Γ:=(t,some v)::Fr) (by rw[hms,h2]) (kv k') rs'.2).perm e_
open PySem PySem.Spec PyProof.Rows L2
section
variable{X:Cx}{pos:Pos}
theorem rP{st:NN}{te:TE}{i:Nat}(h:PS X st (zl te (r9 i))):PS X st (fun D σ H=>te σ H fun v H'=>Gr H H'/\D.nx (σ.set i (some v)) (over H H')):=by
 intro pins s σ H D I q
 have key:=h pins s σ H { nx:=fun σ' H'=>Gr H H'/\D.nx σ' (over H H'),rt:=fun _ _=>False } I q
 refine thn key fun f s' hs=>?_
 cases f with
 | next=>
  obtain⟨σ',H',I',g,q'⟩:=hs
  exact⟨σ',over H H',lC I I' g,q'⟩
 | brk=>obtain⟨_,_,_,z⟩:=hs;exact z.elim
 | cont=>obtain⟨_,_,_,z⟩:=hs;exact z.elim
 | ret u=>obtain⟨_,_,_,_,_,z⟩:=hs;exact z.elim
theorem uE{K:M8}{f:PF}{σ:L2.St}{H:Hp}{Q:VK}(h:wE K (fQ f) σ H Q):wE K f σ H fun v H'=>Gr H H'/\Q v (over H H'):=by
 obtain⟨env,Fr,k,rs,q,c⟩:=h
 have rv:Rs K H (erL env) σ ((Fr.map fun p=>(er p.1,p.2))++[(.kp H,some .non)]):=by
  refine⟨by rw[jR];exact rs.1,?_⟩
  have:=oP rs.2
  rw[A',kB,h_]at this
  exact this
 refine⟨erL env,_,_,rv,q,?_⟩
 rintro t env' v H' ⟨n,kt⟩ rs'
 obtain⟨g,r2⟩:=nQ rs.2 (Δ:=env'.zip σ++(Fr.map fun p=>(er p.1,p.2))) (by rw[h_];exact rs'.head) n
 exact⟨g,c t env v _ kt (.of rs.1 r2)⟩
theorem eK{κ:Nat->Bool}{N ps:List Str}{esc:NO}(S:FnScope N ps esc){i:Nat}{x:Str}{pos pos':Pos}(N':List Str)(fr:List (Option Nat))(nd:N'.Nodup){elt target iter:Nn}{ifs:List Nn}{sc:NO}{pos2:Pos}{fi:PIt}{g:PG'}{ft:PB}{fe:PF}(C:dE N esc sc N' fr=true)
  (hi:X.N[i]?=some x) (hx:Loc X.env.scope x) (hκ:κ i=false) (hit:GI X target iter fi) (hg:∀ s3 H3 fp,GG (κc fr) (aB X N' sc s3 H3 fp) target g) (ht:∀ s3 H3 fp,GTs (aB X N' sc s3 H3 fp) ifs ft) (he:∀ s3 H3 fp,GE (aB X N' sc s3 H3 fp) elt fe)
  (hsw:Pa (.ListComp elt [⟨target,iter,ifs,0⟩] sc pos2) (some (.Name x pos')) pos.line X.env=pure true) (hf:X.fn x=true:=by rfl)
  (hc:X.calm=true:=by rfl) (hN:X.N=N:=by rfl) (hS:X.env.scope=esc:=by rfl) (hs:∀ x,NJ iter X.env x=pure x:=by intro _;rfl):GS κ X (.Assign [.Name x pos'] (.ListComp elt [⟨target,iter,ifs,0⟩] sc pos2) pos) (xU i (fQ (kY fr fi g ft fe))):=by
 refine PS.imp (rP (uB S N' fr nd C hi hx hit hg ht he hsw hf hc hN hS hs)) ?_
 rintro D σ H ⟨env,Fr,pe,rs,q,c⟩
 exact l5 σ H _ (uE (Q:=fun v H'=>D.nx (σ.set i (some v)) H') ⟨env,Fr,_,rs,q,fun t env' v H' q1 rs1=>c.nx _ _ _ q1 rs1.put (.set hκ)⟩)
theorem Ff:GE X (.Dict [] [] pos) (fK (.dT true [])):=PE.imp yx fun σ H Q ⟨env,Fr,k,rs,q,c⟩=>fun p hp=>c _ _ _ _ q (.of rs.1 (Bw rs.2 hp (aT hp _) ay))
def Hb:T->(T->Prop)->Prop
 | .lst _ ts,k=>k (.lst true ts.reverse)
 | _,_=>False
theorem D9{K:M8}{H H':Hp}{Γ:Fm}{ts:List T}{vs:List V}{p:M9}(rp:Rp K H (zz ts vs++Γ))(l:ts.length=vs.length)(hp:H p=none)(g:aN H H')(e:H' p=some (.lst vs.reverse)):Rp K H' ((.lst true ts.reverse,some (.ref p))::Γ):=
 dG (ts:=ts.reverse) (vs:=vs.reverse) (rp.perm (by rw[yb l];exact(List.reverse_perm _).symm.append_right _)) (by rw[Jp,Jp,l]) hp g e
theorem tM{e:Nn}{fe:PF}{p1 p2 pos1 pos2:Pos}(hc:X.calm=true)(hg1:Gl X "list")(hm1:X.mg "list"=none)(hg2:Gl X "reversed")(hm2:X.mg "reversed"=none)(he:GE X e fe)
  (hs1:Np [e] X.env=[(false,NA e X.env)]:=by rfl) (hs2:Np [.Call (.Name "reversed" p2) [e] [] pos2] X.env=[(false,NA (.Call (.Name "reversed" p2) [e] [] pos2) X.env)]:=by rfl) :
  GE X (.Call (.Name "list" p1) [.Call (.Name "reversed" p2) [e] [] pos2] [] pos1) (fUn Hb fe):=by
 refine PE.imp (t7 hc hg1 hm1 hg2 hm2 he hs1 hs2) ?_
 rintro σ H Q ⟨env,Fr,k,rs,q,c⟩
 refine⟨env,Fr,_,rs,q,fun t env1 v H1 q1 rs1=>?_⟩
 cases t <;> first | exact Nu q1 | skip
 obtain⟨a,vs,rfl,hq,l,rp⟩:=aD rfl rs1.head
 exact⟨a,vs,rfl,hq,fun p H' hp g e=>c _ _ _ _ q1 (.of rs1.1 (D9 rp l hp g e))⟩
end
section
variable{κ':Type}[DecidableEq κ']
theorem pZ:∀ {ts:List (κ' × T)} {vs:List (κ' × V)} (q:κ') (t:T) (w:V),ts.map (·.1)=vs.map (·.1)->(iJ ts q t).map (·.1)=(putK vs q w).map (·.1):=by
 intro ts vs q t w e
 have ha:(ts.any fun kv=>decide (kv.1=q))=(vs.any fun kv=>decide (kv.1=q)):=by
  have e1:(ts.any fun kv=>decide (kv.1=q))=(ts.map (·.1)).any fun k=>decide (k=q):=by rw[K'];rfl
  have e2:(vs.any fun kv=>decide (kv.1=q))=(vs.map (·.1)).any fun k=>decide (k=q):=by rw[K'];rfl
  rw[e1,e2,e]
 unfold iJ putK
 rw[ha]
 split
 ·rw[II,II]
  have f1:((fun x:κ' × T=>x.1) ∘ fun kv=>if kv.1=q then(kv.1,t)else kv)=fun x=>x.1:=by funext kv;show(if kv.1=q then(kv.1,t)else kv).1=kv.1;split <;> rfl
  have f2:((fun x:κ' × V=>x.1) ∘ fun kv=>if kv.1=q then(kv.1,w)else kv)=fun x=>x.1:=by funext kv;show(if kv.1=q then(kv.1,w)else kv).1=kv.1;split <;> rfl
  rw[f1,f2,e]
 rw[A',A',e]
 rfl
theorem nK:∀ {ts:List (κ' × T)} {vs:List (κ' × V)} (q:κ') (t:T) (w:V),ts.map (·.1)=vs.map (·.1)->(vs.map (·.1)).Nodup->∃ r,((t,some w)::zz (ts.map (·.2)) (vs.map (·.2))).Perm (r++zz ((iJ ts q t).map (·.2)) ((putK vs q w).map (·.2))):=by
 intro ts vs q t w e nd
 by_cases hm:q∈vs.map (·.1)
 ·
  have ha:(vs.any fun kv=>decide (kv.1=q))=true:=by
   obtain⟨kv,h1,h2⟩:=B_.mp hm
   exact Ki.mpr ⟨kv,h1,decide_eq_true h2⟩
  have hb:(ts.any fun kv=>decide (kv.1=q))=true:=by
   rw[<-e]at hm
   obtain⟨kv,h1,h2⟩:=B_.mp hm
   exact Ki.mpr ⟨kv,h1,decide_eq_true h2⟩
  unfold iJ putK
  rw[if_pos ha,if_pos hb]
  clear ha hb
  induction ts generalizing vs with
  | nil=>
   have:vs=[]:=by cases vs with | nil=>rfl | cons _ _=>cases e
   subst this
   cases hm
  | cons a ts ih=>
   cases vs with
   | nil=>cases e
   | cons b vs=>
    obtain⟨k1,t1⟩:=a
    obtain⟨k2,v1⟩:=b
    rw[k_,k_,Ky]at e
    have ek:k1=k2:=e.1
    subst ek
    rw[k_,E_]at nd
    by_cases hk:k1=q
    ·subst hk
     have n1:∀ kv∈ts,kv.1≠k1:=fun kv hkv z=>nd.1 (by
      rw[<-e.2]
      exact B_.mpr ⟨kv,hkv,z⟩)
     have n2:∀ kv∈vs,kv.1≠k1:=fun kv hkv z=>nd.1 (B_.mpr ⟨kv,hkv,z⟩)
     have m1:ts.map (fun kv=>if kv.1=k1 then(kv.1,t)else kv)=ts:=by
      conv=>rhs;rw[<-L7 ts]
      exact Ji fun kv hkv=>if_neg (n1 kv hkv)
     have m2:vs.map (fun kv=>if kv.1=k1 then(kv.1,w)else kv)=vs:=by
      conv=>rhs;rw[<-L7 vs]
      exact Ji fun kv hkv=>if_neg (n2 kv hkv)
     refine⟨[(t1,some v1)],?_⟩
     simp only[k_,if_true,m1,m2]
     exact .swap _ _ _
    have hm':q∈vs.map (·.1):=by
     rcases u_.mp hm with z | z
     ·exact absurd z.symm hk
     exact z
    obtain⟨r,p⟩:=ih e.2 nd.2 hm'
    refine⟨r,?_⟩
    simp only[k_,if_neg hk]
    show MO ((t,some w)::(t1,some v1)::zz (ts.map (·.2)) (vs.map (·.2))) (r++((t1,some v1)::zz ((ts.map fun kv=>if kv.1=q then(kv.1,t)else kv).map (·.2)) ((vs.map fun kv=>if kv.1=q then(kv.1,w)else kv).map (·.2))))
    exact(Lk _ _ _).trans ((p.cons _).trans e_.symm)
 have ha:(vs.any fun kv=>decide (kv.1=q))=false:=by
  rw[JN]
  intro z
  obtain⟨kv,h1,h2⟩:=Ki.mp z
  exact hm (B_.mpr ⟨kv,h1,of_decide_eq_true h2⟩)
 have hb:(ts.any fun kv=>decide (kv.1=q))=false:=by
  rw[JN]
  intro z
  obtain⟨kv,h1,h2⟩:=Ki.mp z
  exact hm (by rw[<-e];exact B_.mpr ⟨kv,h1,of_decide_eq_true h2⟩)
 unfold iJ putK
 rw[ha,hb]
 refine⟨[],?_⟩
 simp only[Jf,if_false,Ku]
 rw[A',A',iZ (by rw[b_,b_];exact bx e)]
 exact(Jt (l₁:=[(t,some w)]))
end
noncomputable def w9:T->T->T->(T->Prop)->Prop
 | .lst true ts,.int i,v,k=>got (ixN ts.length i) fun j=>k (.lst true (ts.set j v))
 | .dK true kvs,y,v,k=>got (rV y) fun q=>kvs.length < sizeLine/\k (.dK true (iJ kvs q v))
 | .dT true kvs,.tup ks,v,k=>got (de ks) fun q=>kvs.length < sizeLine/\k (.dT true (iJ kvs q v))
 | _,_,_,_=>False
section
variable{X:Cx}{κ:Nat->Bool}{pos:Pos}
theorem xK{P:Nl}{w:Nq}{H:Hp}{h:Nr}{a:M9}{kvs:List (List Key × V)}(ok:HOk P w H h)(e:H a=some (.dT kvs)):(kvs.map (·.1)).Nodup:=by
 obtain⟨z,y,xs,r,o,es,ep,h1,h2,h3,h4,h5⟩:=ok a _ e
 have:kvs.map (·.1)=xs.map (·.1):=by
  clear h4 h5 h1 z e
  induction r with
  | nil=>rfl
  | cons q _ ih=>rw[k_,k_,ih,q.1]
 rw[this];exact h5
theorem xr{P:Nl}{w:Nq}{H:Hp}{h:Nr}{a:M9}{kvs:List (Key × V)}(ok:HOk P w H h)(e:H a=some (.dK kvs)):(kvs.map (·.1)).Nodup:=by
 obtain⟨z,y,vs,r,o,es,ep,h1,h2,h3,h4,h5,h6⟩:=ok a _ e
 have:kvs.map (·.1)=vs.map (·.1):=by
  clear h6 h5 h4 h1 z e
  induction r with
  | nil=>rfl
  | cons q _ ih=>rw[k_,k_,ih,q.1]
 rw[this];exact h6
theorem xc:∀ {ts:List T} {vs:List V} {j:Nat} {t:T} {w:V},ts.length=vs.length->j < ts.length->∃ r,((t,some w)::zz ts vs).Perm (r::zz (ts.set j t) (vs.set j w))
 | [],vs,j,t,w,l,h=>by cases h
 | a::ts,[],j,t,w,l,h=>by cases l
 | a::ts,b::vs,0,t,w,l,h=>⟨(a,some b),.swap _ _ _⟩
 | a::ts,b::vs,j + 1,t,w,l,h=>by
  obtain⟨r,p⟩:=xc (ts:=ts) (vs:=vs) (j:=j) (t:=t) (w:=w) (by simpa using l) (by simpa using h)
  exact⟨r,(Lk _ _ _).trans ((p.cons _).trans (.swap _ _ _))⟩
theorem FJ{kr:Nat}(hr:Room kr X.A):sA X (fun o i v H Q=>∃ t ti tv Γ k,Rp X.K H ((t,some o)::(ti,some i)::(tv,some v)::Γ)/\w9 t ti tv k/\∀ t' H',k t'->Rp X.K H' ((t',some o)::Γ)->Q H'):=by
 rintro pins s σ H o i v ov iv u Q I ro ri rv ⟨t,ti,tv,Γ,k,rp,g,c⟩
 cases t with
 | lst own ts=>
  cases own <;> cases ti <;> first | exact Nu g | skip
  rename_i j
  obtain⟨m,em,kt⟩:=aH g
  rw[aR rp.tail]at ri
  obtain⟨a,vs,ea,ha,la,rp2⟩:=dy rp
  cases ea
  have hm:m < ts.length:=by have:=(p9 em).2.1;exact this
  rw[la]at em
  refine vQ pins s σ H _ _ v ov iv u Q I ro ri rv ⟨a,vs,j,m,rfl,rfl,ha,em,fun H' hp=>c _ _ kt ?_⟩
  obtain⟨r,p⟩:=xc (t:=tv) (w:=v) la hm
  have rp3:Rp X.K H ((.bare,some (.ref a))::(zz ts vs++((tv,some v)::Γ))):=by
   have:Rp X.K H ((.int j,some i)::((.bare,some (.ref a))::(zz ts vs++((tv,some v)::Γ)))):=rp2.perm (by
    refine A_ (.cons _ e_) ?_
    exact .swap _ _ _)
   exact this.tail
  have rp4:Rp X.K H (r::((.bare,some (.ref a))::(zz (ts.set m tv) (vs.set m v)++Γ))):=rp3.perm (by
   refine A_ (.cons _ (e_.trans (p.append_right Γ))) ?_
   exact .swap _ _ _)
  exact cZ rp4.tail (by rw[IE,IE,la]) hp
 | dK own kvs=>
  cases own <;> first | exact Nu g | skip
  have g:got (rV ti) fun q=>kvs.length < sizeLine/\k (.dK true (iJ kvs q tv)):=by cases ti <;> exact g
  obtain⟨q,eq,hz,kt⟩:=aH g
  rw[nW eq rp.tail]at ri
  obtain⟨a,vs,ea,ha,la,rp2⟩:=qQ rp
  cases ea
  cases ro
  have hl:vs.length < sizeLine:=by rw[<-bx la];exact hz
  refine iI (jx hr) I (.inl ⟨vs,q,ha,rfl,hl,rfl⟩) ri rv fun s' I'=>⟨_,I',c _ _ kt ?_⟩
  obtain⟨r,p⟩:=nK q tv v la (xr I.hok ha)
  have rp3:Rp X.K H ((.bare,some (.ref a))::(zz (kvs.map (·.2)) (vs.map (·.2))++((tv,some v)::Γ))):=by
   have:Rp X.K H ((ti,some i)::((.bare,some (.ref a))::(zz (kvs.map (·.2)) (vs.map (·.2))++((tv,some v)::Γ)))):=rp2.perm (by
    refine A_ (.cons _ e_) ?_
    exact .swap _ _ _)
   exact this.tail
  have rp4:Rp X.K H (r++((.bare,some (.ref a))::(zz ((iJ kvs q tv).map (·.2)) ((putK vs q v).map (·.2))++Γ))):=rp3.perm (by
   refine A_ (.cons _ (e_.trans (p.append_right Γ))) ?_
   rw[h_]
   exact e_.symm)
  exact n8 rp4.part (pZ q tv v la) Put.up
 | dT own kvs=>
  cases own <;> cases ti <;> first | exact Nu g | skip
  rename_i ks
  obtain⟨q,eq,hz,kt⟩:=aH g
  obtain⟨b,rfl,hb⟩:=oM eq rp.tail
  obtain⟨a,vs,ea,ha,la,rp2⟩:=yv rp
  cases ea
  cases ro
  have hl:vs.length < sizeLine:=by rw[<-bx la];exact hz
  refine iI (jx hr) I (.inr ⟨vs,q,b,ha,rfl,hb,hl,rfl⟩) ri rv fun s' I'=>⟨_,I',c _ _ kt ?_⟩
  obtain⟨r,p⟩:=nK q tv v la (xK I.hok ha)
  have rp3:Rp X.K H ((.bare,some (.ref a))::(zz (kvs.map (·.2)) (vs.map (·.2))++((tv,some v)::Γ))):=by
   have:Rp X.K H ((.tup ks,some (.ref b))::((.bare,some (.ref a))::(zz (kvs.map (·.2)) (vs.map (·.2))++((tv,some v)::Γ)))):=rp2.perm (by
    refine A_ (.cons _ e_) ?_
    exact .swap _ _ _)
   exact this.tail
  have rp4:Rp X.K H (r++((.bare,some (.ref a))::(zz ((iJ kvs q tv).map (·.2)) ((putK vs q v).map (·.2))++Γ))):=rp3.perm (by
   refine A_ (.cons _ (e_.trans (p.append_right Γ))) ?_
   rw[h_]
   exact e_.symm)
  exact wC rp4.part (pZ q tv v la) Put.up
 | _=>cases ti <;> exact Nu g
noncomputable def Cu(i:Nat)(fi:PF):PG':=fun v env k=>got (env[i]?) fun t0=>isAny t0=false/\fi env fun ti env1=>got (env1[i]?) fun t=>w9 t ti v fun t'=>k (env1.set i t')
theorem pf{kr i:Nat}{x:Str}{xp:Pos}{ix:Nn}{fi:PF}(hr:Room kr X.A)(hi:GE X ix fi)(hN:X.N[i]?=some x:=by rfl)(hv:Vis X.env.scope x:=by first | exact f' rfl | exact i_ (f' rfl) | exact i_ (i_ rfl))(hd:(x ==("__debug__":Str))=false:=by decide)(hcd:(x ==("__classdict__":Str))=false:=by decide)
  (ha:∀ v,Pn (.Subscript (.Name x xp) ix pos) X.env v=(do
   let ov <-Pt [v] (NA (.Name x xp) X.env)
   let iv <-Pt [v,ov] (NA ix X.env)
   R5 pos
   Pt [v,ov,iv] (Tb ov iv v)
   release [v,ov,iv] []):=by intro _;rfl):GG κ X (.Subscript (.Name x xp) ix pos) (Cu i fi):=by
 rintro pins s σ H v u Q I r ⟨tv,env,Fr,k,rs,q,c⟩
 obtain⟨t0,e0,na,q⟩:=aH q
 obtain⟨y,ey,rs2⟩:=rs.slot e0
 obtain⟨w,rfl⟩:=cG rs2 na
 refine yP (cU hN hv hd hcd) hi (FJ hr) ha pins s σ H v u Q I r ⟨w,ey,env,(tv,some v)::Fr,_,rs,q,fun ti env1 iv H1 q1 rs1=>?_⟩
 obtain⟨t,et,q1⟩:=aH q1
 obtain⟨y',ey',rs3⟩:=rs1.slot et
 rw[ey]at ey'
 cases ey'
 have hi':i < env1.length:=(c_.mp et).1
 refine⟨t,ti,tv,(env1.set i .any).zip σ++Fr,_,?_,q1,fun t' H' kt rp=>c _ _ _ kt ?_ .refl⟩
 ·refine rs3.head.perm (.cons _ ?_)
  refine A_ e_ (.cons _ ?_)
  exact e_
 have r4:Rs X.K H' (env1.set i .any) σ ((t',some w)::Fr):=.of rs3.1 rp
 have r5:=Rs.dS (i:=i) r4 (by rw[IE];exact hi') ey
 rw[LQ]at r5
 exact r5
end
open PySem PySem.Spec PyProof.Rows L2
class Th (α:Type) where
 v:α
def Ha(P:FP)(ts:List T)[k:Th (T->List T->Prop)]:Prop:=P ts k.v
def h8(b:Bool)[A:Th Prop][B:Th Prop]:Prop:=cnd b A.v B.v
def cv{α:Type}(o:Option α)[k:Th (α->Prop)]:Prop:=got o k.v
noncomputable def Cz(fr:List (Option Nat))(its:List T)(g:PG')(ft:PB)(fe:PF)(env:Ev)[k:Th (T->Ev->Prop)]:Prop:=CP fr its g ft fe env k.v
theorem fq{α:Type}{u:α}{k:Th (α->Prop)}:cv (some u) (k:=k)=k.v u:=rfl
theorem aF{α:Type}{o:Option α}{u:α}{k:Th (α->Prop)}(e:o=some u)(h:k.v u):cv o (k:=k):=DB e h
theorem qe{A B:Th Prop}:h8 true (A:=A) (B:=B)=A.v:=propext ⟨fun h=>h.1 rfl,fun h=>CA h⟩
theorem nM{A B:Th Prop}:h8 false (A:=A) (B:=B)=B.v:=propext ⟨fun h=>h.2 rfl,fun h=>Hd h⟩
theorem BN{b:Bool}{A B:Th Prop}:h8 (!b) (A:=A) (B:=B)=h8 b (A:=B) (B:=A):=by cases b <;> simp only[Mf,L9,qe,nM]
theorem oI{b:Bool}{A B:Th Prop}(h1:b=true->A.v)(h2:b=false->B.v):h8 b (A:=A) (B:=B):=⟨h1,h2⟩
theorem dv{p:Prop}{d:Decidable p}{A B:Th Prop}(h1:p->A.v)(h2:¬ p->B.v):h8 (decide p) (A:=A) (B:=B):=⟨fun h=>h1 (of_decide_eq_true h),fun h=>h2 (of_decide_eq_false h)⟩
theorem B7{b:Bool}{A B:Th Prop}(e:b=true)(h:A.v):h8 b (A:=A) (B:=B):=by rw[e];exact CA h
section
variable{f g:PF}{env:Ev}{k:T->Ev->Prop}{kb:Bool->Ev->Prop}{tc td:PB}{pe:PEn}{u v:PSt}{fs:PFs}{fa:PAs}{ks:List T->Ev->Prop}{ka:List Arg->Ev->Prop}
theorem vq:fQ f env k=f (erL env) fun t _=>bE t=true/\k t env:=rfl
theorem F3:fQT tc env kb=tc (erL env) fun b _=>kb b env:=rfl
theorem uI{t:T}:fK t env k=k t env:=rfl
theorem Ag{i:Nat}:Ao i env k=cv (env[i]?) (k:=⟨fun t=>isAny t=false/\aV t=true/\k t env⟩):=by unfold Ao;cases env[i]? <;> rfl
theorem F5{i:Nat}:fFz i env k=cv (env[i]?) (k:=⟨fun t=>isAny t=false/\k (er t) (env.set i (er t))⟩):=by unfold fFz;cases env[i]? <;> rfl
theorem E2{i:Nat}:fMv i env k=cv (env[i]?) (k:=⟨fun t=>isAny t=false/\k t (env.set i .any)⟩):=by unfold fMv;cases env[i]? <;> rfl
theorem k7{p:P2}:vY p f g env k=f env fun x env1=>g env1 fun y env2=>p x y fun t=>k t env2:=rfl
theorem D7{p:T->(T->Prop)->Prop}:fUn p f env k=f env fun t env1=>p t fun u=>k u env1:=rfl
def asB(t:T)[k:Th (Bool->Prop)]:Prop:=match t with
 | .bl b=>k.v b
 | _=>False
theorem E3{b:Bool}{k:Th (Bool->Prop)}:asB (.bl b) (k:=k)=k.v b:=rfl
theorem BU:EI f env kb=f env fun t env1=>asB t (k:=⟨fun b=>kb b env1⟩):=rfl
theorem Cb:G2 f env kb=f env fun t env1=>yo t fun b=>kb b env1:=rfl
theorem wZ:Cn tc td env kb=tc env fun b env1=>h8 b (A:=⟨td env1 kb⟩) (B:=⟨kb false env1⟩):=rfl
theorem BH:GC tc td env kb=tc env fun b env1=>h8 b (A:=⟨kb true env1⟩) (B:=⟨td env1 kb⟩):=rfl
theorem xD:CM tc env kb=tc env fun b env1=>kb (!b) env1:=rfl
theorem BX:FG f g env k=f env fun t env1=>asB t (k:=⟨fun b=>h8 b (A:=⟨g env1 k⟩) (B:=⟨k (.bl false) env1⟩)⟩):=rfl
theorem Ew:fIf tc f g env k=tc env fun b env1=>h8 b (A:=⟨f env1 k⟩) (B:=⟨g env1 k⟩):=rfl
theorem jM:DW env ks=ks [] env:=rfl
theorem gZ:Cp f fs env ks=f env fun t env1=>fs env1 fun ts env2=>ks (t::ts) env2:=rfl
theorem kS:HB fs env k=fs env fun ts env1=>ts.length<=sizeLine/\k (.tup ts) env1:=rfl
theorem jL:GK fs env k=fs env fun ts env1=>ts.length<=sizeLine/\k (.lst true ts) env1:=rfl
theorem F7{p:P1s}:fCl p fs env k=fs env fun ts env1=>p ts fun t=>k t env1:=rfl
theorem jN:G4 env ka=ka [] env:=rfl
theorem kg:HE f fa env ka=f env fun t env1=>fa env1 fun as env2=>ka (.val t::as) env2:=rfl
theorem Bl{i:Nat}:EB i fa env ka=cv (env[i]?) (k:=⟨fun t=>isAny t=false/\fa env fun as env2=>ka (.bor i::as) env2⟩):=by
 unfold EB
 cases env[i]? with
 | none=>exact propext ⟨fun h=>h.1,fun h=>h.elim⟩
 | some t=>rfl
theorem jZ{n:Nat}{P:FP}:Fh n P fa env k=fa env fun as env1=>as.length=n/\Ha P (lend as env1).1 (k:=⟨fun t ts'=>k t (back as ts' (lend as env1).2)⟩):=rfl
theorem gG{fr:List (Option Nat)}{fi:PIt}{gt:PG'}{ft:PB}{fe:PF}:kY fr fi gt ft fe env k=fi env fun its env1=>Cz fr its gt ft fe env1 (k:=⟨k⟩):=rfl
theorem y0{i:Nat}{m:PM}:uJ i m fs env k=cv (env[i]?) (k:=⟨fun t0=>isL t0=true/\fs env fun ts env1=>cv (env1[i]?) (k:=⟨fun t=>m t ts fun t' r=>k r (env1.set i t')⟩)⟩):=rfl
theorem Ft{fl fh:PO'}:fSl f fl fh env k=f env fun t env1=>fl env1 fun lo env2=>fh env2 fun hi env3=>slT t lo hi fun u=>k u env3:=rfl
theorem Bx{ko:Option Int->Ev->Prop}:Ht env ko=ko none env:=rfl
def asI(t:T)[k:Th (Int->Prop)]:Prop:=match t with
 | .int b=>k.v b
 | _=>False
theorem Bv{b:Int}{k:Th (Int->Prop)}:asI (.int b) (k:=k)=k.v b:=rfl
theorem Cc{ko:Option Int->Ev->Prop}:FW f env ko=f env fun t env1=>asI t (k:=⟨fun i=>ko (some i) env1⟩):=rfl
theorem yL:Co pe env=pe.nx env:=rfl
theorem jY:FR u v pe env=u { pe with nx:=v pe } env:=rfl
theorem xR:CN f pe env=f env fun _ env1=>pe.nx env1:=rfl
theorem kP:Hi f pe env=f env fun t env1=>pe.rt t env1:=rfl
theorem D4:sIf tc u v pe env=tc env fun b env1=>h8 b (A:=⟨u pe env1⟩) (B:=⟨v pe env1⟩):=rfl
theorem jK{i:Nat}:xU i f pe env=f env fun t env1=>pe.nx (env1.set i t):=rfl
theorem Ak{gt:PG'}:Gj f gt pe env=f env fun t env1=>gt t env1 pe.nx:=rfl
def asP(ts:List T)(k:T->T->Prop):Prop:=match ts with
 | [t,u]=>k t u
 | _=>False
theorem Di{t u:T}{k:T->T->Prop}:asP [t,u] k=k t u:=rfl
theorem Ca{i j:Nat}:G5 i j fs pe env=fs env fun ts env1=>asP ts fun t u=>pe.nx ((env1.set i t).set j u):=rfl
theorem Ay{i:Nat}{p:P2}:EX i f p pe env=cv (env[i]?) (k:=⟨fun t=>isAny t=false/\aV t=true/\f env fun u env1=>p t u fun w=>pe.nx (env1.set i w)⟩):=by
 unfold EX
 cases env[i]? with
 | none=>exact propext ⟨fun h=>h.1,fun h=>h.elim⟩
 | some t=>exact propext ⟨fun⟨⟨a,b⟩,c⟩=>⟨a,b,c⟩,fun⟨a,b,c⟩=>⟨⟨a,b⟩,c⟩⟩
theorem vX:zJ tc u pe env=sf tc u pe env:=rfl
theorem BL{fi:PIt}{gt:PG'}:G6 fi gt u pe env=fi env fun its env1=>forL its gt u pe env1:=rfl
variable{t:T}{ke:Ev->Prop}{ts:List T}{gt:PG'}{gts:qv}
theorem vf{i:Nat}:gN i t env ke=ke (env.set i t):=rfl
theorem Aj:CH [] env ke=ke env:=propext ⟨fun h=>h.2,fun h=>⟨rfl,h⟩⟩
theorem ip:zr gt gts (t::ts) env ke=gt t env fun env1=>gts ts env1 ke:=rfl
theorem BM{n:Nat}:gTp n gts (.tup ts) env ke=(ts.length=n/\gts ts env ke):=rfl
theorem A0{i:Nat}{fi:PF}:Cu i fi t env ke=cv (env[i]?) (k:=⟨fun t0=>isAny t0=false/\fi env fun ti env1=>cv (env1[i]?) (k:=⟨fun t1=>w9 t1 ti t fun t'=>ke (env1.set i t')⟩)⟩):=rfl
variable{ki:List T->Ev->Prop}
theorem Aw:GH f env ki=f env fun t env1=>cv (items t) (k:=⟨fun ts=>ki (erL ts) env1⟩):=rfl
def as1(ts:List T)(k:Int->Prop):Prop:=match ts with
 | [.int j]=>k j
 | _=>False
def as3(ts:List T)(k:Int->Int->Int->Prop):Prop:=match ts with
 | [.int i,.int j,.int m]=>k i j m
 | _=>False
theorem Ek{j:Int}{k:Int->Prop}:as1 [.int j] k=k j:=rfl
theorem EV{i j m:Int}{k:Int->Int->Int->Prop}:as3 [.int i,.int j,.int m] k=k i j m:=rfl
theorem Eh:iR1 fs env ki=fs env fun ts env1=>as1 ts fun j=>(-(2 ^ 62)<=j/\j < 2 ^ 62)/\ki (gm 0 j.toNat) env1:=rfl
theorem Dx:iR3 fs env ki=fs env fun ts env1=>as3 ts fun i j m=>m=-1/\(-(2 ^ 60)<=i/\i < 2 ^ 60/\-(2 ^ 60)<=j/\j < 2 ^ 60)/\ki (dnT i (i - j).toNat) env1:=rfl
def asO(ts:List T)(k:T->Prop):Prop:=match ts with
 | [t]=>k t
 | _=>False
theorem ET{t:T}{k:T->Prop}:asO [t] k=k t:=rfl
theorem Eb:iEn fs env ki=fs env fun ts env1=>asO ts fun t=>cv (items t) (k:=⟨fun as=>ki ((m_ as.length).zipWith (fun(i:Nat) (x:T)=>T.tup [.int (i:Int),x]) (erL as)) env1⟩):=rfl
end
section
variable{k:T->Prop}{i j l:Int}{x y:Str}{ts us:List T}{o o' b c:Bool}{t:T}
theorem B8:Eo (.int i) (.int j) k=k (.int (i + j)):=rfl
theorem BQ:Eo (.lst o ts) (.lst o' us) k=(ts.length + us.length<=sizeLine/\k (.lst true (ts++us))):=rfl
theorem AE:Hn (.int i) (.int j) k=k (.int (i - j)):=rfl
theorem AA:G0 (.int i) (.int j) k=(vG i j/\k (.int (i * j))):=rfl
theorem AH:Hw (.int i) (.int j) k=(A2 i j/\k (.int (i * 2 ^ j.toNat))):=rfl
theorem B4:Hq (.int i) (.int j) k=k (.int (PQ i j)):=rfl
theorem CQ:orT (.int i) (.int j) k=k (.int (OA i j)):=rfl
theorem DL:ltT (.int i) (.int j) k=k (.bl (decide (i < j))):=rfl
theorem Ep:leT (.int i) (.int j) k=k (.bl (decide (i<=j))):=rfl
theorem DP:gtT (.int i) (.int j) k=k (.bl (decide (j < i))):=rfl
theorem DV:Hr (.int i) k=k (.int (-i)):=rfl
theorem yr:eqT (.int i) (.int j) k=k (.bl (decide (i=j))):=by
 unfold eqT
 refine propext ⟨fun h=>?_,fun h=>⟨rfl,rfl,show(0:Nat) < 190 by decide,?_⟩⟩
 ·have:=h.2.2.2
  rw[dt,dt,eqD]at this
  rw[JL]at this
  exact this
 rw[dt,dt,eqD,JL];exact h
theorem CY:neT (.int i) (.int j) k=k (.bl (!decide (i=j))):=by
 unfold neT
 refine propext ⟨fun h=>?_,fun h=>⟨rfl,rfl,show(0:Nat) < 190 by decide,?_⟩⟩
 ·have:=h.2.2.2
  rw[dt,dt,eqD,JL]at this
  exact this
 rw[dt,dt,eqD,JL];exact h
theorem Au:ixT (.tup ts) (.int i) k=cv (atI ts i) (k:=⟨k⟩):=rfl
theorem kC:ixT (.lst o ts) (.int i) k=cv (atI ts i) (k:=⟨k⟩):=rfl
theorem Dg{kvs:List (List Key × T)}:ixT (.dT o kvs) (.tup ts) k=cv (de ts) (k:=⟨fun q=>cv (kZ kvs q) (k:=⟨k⟩)⟩):=rfl
theorem Ae:inT t (.lst o ts) k=(isD t=true/\d8 ts=true/\bH (dtL ts) < 180/\k (.bl (qk t ts))):=rfl
theorem x4:de []=some []:=rfl
theorem zq:de (.int i::ts)=(de ts).map fun ks=>QM i::ks:=by
 rw[de]
 cases de ts <;> rfl
theorem gK:de (.non::ts)=(de ts).map fun ks=>NC none::ks:=by
 rw[de]
 cases de ts <;> rfl
theorem HG{α:Type}(a:α)(l:List α):atI (a::l) 0=some a:=kM (j:=0) rfl
theorem GL{α:Type}(a b:α)(l:List α):atI (a::b::l) 1=some b:=kM (j:=1) rfl
theorem zi:Hc [.lst o ts] k=k (.int ts.length):=rfl
theorem F6:Ei [.bl b] k=k (.int (if b then 1 else 0)):=rfl
theorem Ai:qY [.lst o ts] k=k (.lst true ts):=rfl
theorem CU:Dc [.lst o ts] k=cv (boolsOf ts) (k:=⟨fun bs=>k (.bl (bs.any id))⟩):=rfl
theorem DC:Hb (.lst o ts) k=k (.lst true ts.reverse):=rfl
theorem Gm{lo hi:Option Int}:slT (.lst o ts) lo hi k=k (.lst true (mC ts lo hi)):=rfl
theorem Ds{kb:Bool->Prop}:yo (.bl b) kb=kb b:=rfl
theorem DJ{kb:Bool->Prop}:yo (.int i) kb=kb (i != 0):=rfl
theorem Fy{kb:Bool->Prop}:yo (.lst o ts) kb=kb (!ts.isEmpty):=rfl
variable{km:T->T->Prop}
theorem sQ:oY (.lst true ts) [t] km=(ts.length < sizeLine/\km (.lst true (ts++[t])) .non):=rfl
theorem EE{ti:T}:w9 (.lst true ts) (.int i) t k=cv (ixN ts.length i) (k:=⟨fun j=>k (.lst true (ts.set j t))⟩):=rfl
theorem C7{kvs:List (List Key × T)}:w9 (.dT true kvs) (.tup ts) t k=cv (de ts) (k:=⟨fun q=>kvs.length < sizeLine/\k (.dT true (iJ kvs q t))⟩):=rfl
end
theorem sr{α:Type}(g:α->T)(l:List α):bI (l.map g)=l.all fun x=>aV (g x):=by rw[lB,K_];rfl
theorem je{α:Type}(g:α->T)(l:List α):bD (l.map g)=l.all fun x=>bE (g x):=by rw[cY,K_];rfl
theorem vN(l m:List T):bD (l++m)=(bD l && bD m):=by rw[cY,cY,cY,List.all_append]
theorem yF{α:Type}(l:List α):(l.all fun _=>true)=true:=by induction l with | nil=>rfl | cons _ _ ih=>rw[Lw,ih];rfl
theorem eZ{i:Int}:isAny (.int i)=false:=rfl
theorem wb{ts:List T}:isAny (.tup ts)=false:=rfl
theorem fD{o:Bool}{ts:List T}:isAny (.lst o ts)=false:=rfl
theorem yR{o:Bool}{kvs:List (List Key × T)}:isAny (.dT o kvs)=false:=rfl
theorem Bj{o:Bool}{ts:List T}:isL (.lst o ts)=true:=rfl
theorem vM{o:Bool}{ts:List T}:items (.lst o ts)=some ts:=rfl
theorem cO{its:List T}{g:PG'}{fb:PSt}{pe:PEn}{env:Ev}(W:Nat->Ev->Prop)(h0:W 0 env)(ht:∀ i t env,W i env->its[i]?=some t->g t env fun env2=>fb { pe with nx:=W (i + 1),ct:=W (i + 1),bk:=pe.nx } env2)(he:∀ env,W its.length env->pe.nx env):forL its g fb pe env:=⟨W,h0,ht,he⟩
theorem mP{tc:PB}{fb:PSt}{pe:PEn}{env:Ev}(W:Nat->Ev->Prop)(m:Nat)(h0:W m env)(ht:∀ m env,W m env->tc env fun b env1=>h8 b (A:=⟨fb { pe with nx:=fun e=>∃ m',m' < m/\W m' e,ct:=fun e=>∃ m',m' < m/\W m' e,bk:=pe.nx } env1⟩) (B:=⟨pe.nx env1⟩)):sf tc fb pe env:=⟨W,⟨m,h0⟩,ht⟩
theorem aW{fr:List (Option Nat)}{its:List T}{g:PG'}{ft:PB}{fe:PF}{env:Ev}{k:Th (T->Ev->Prop)}(hz:its.length < sizeLine)(W:Nat->List T->Ev->Prop)(h0:W 0 [] (lend (frA fr) env).1)(ht:∀ i t acc ie,W i acc ie->its[i]?=some t->g t ie fun ie2=>ft ie2 fun b ie3=>h8 b (A:=⟨fe ie3 fun u ie4=>W (i + 1) (acc++[u]) ie4⟩) (B:=⟨W (i + 1) acc ie3⟩))
  (he:∀ acc ie,W its.length acc ie->k.v (.lst true acc) (back (frA fr) ie (lend (frA fr) env).2)):Cz fr its g ft fe env (k:=k):=⟨hz,W,h0,ht,he⟩
def sq(b:Bool)(ts:List T):T:=match b with
 | true=>.tup ts
 | false=>.lst false ts
abbrev pt(x y:Int):T:=.tup [.int x,.int y]
end PL
namespace ZS
open PySem PyProof.Rows
def ltI(a b:Int):Bool:=decide (a < b)
theorem GV:Tot ltI:=⟨fun a=>decide_eq_false (Int.lt_irrefl a),fun a b c h g=>decide_eq_true (Int.lt_trans (of_decide_eq_true h) (of_decide_eq_true g)),fun a b h g=>by
 have h:=of_decide_eq_false h
 have g:=of_decide_eq_false g
 lia⟩
section
variable{prog:Nl}{w:Nq}{A:Nw}{E:M7->M_->Prop}{s:M_}
theorem zG{ns:List Int}{S:Nc->Prop}(hS:∀ x,S x->∃ i t,x.1=.int i t/\i∈ns):cz (Ni prog w) A E s Sy (fun x=>rnk ltI ns (rD x.1)) S:=by
 intro x y st Q sx sy kd q
 obtain⟨i,t,ex,mi⟩:=hS x sx
 obtain⟨j,u,ey,mj⟩:=hS y sy
 rw[lt'_eq]
 refine Nh (PU ?_)
 rw[kd,ex,ey,keyLt'_oneType]
 refine Nh (RF (OP (oneLt_int ⟨rfl,?_⟩)))
 refine Nm ?_
 dsimp only at q
 rw[BR GV (show rD x.1∈ns by rw[ex];exact mi),ex,ey]at q
 exact q
theorem xh{M:Pf}{v1:M7}{vs:List M7}{ns:List Int}{Q:O5->M_->Prop}(hI:IntsAre (v1::vs) ns)(q:Q Sy s):Nb M A (UN (v1::vs).toArray) Q E s:=by
 have e:UN (v1::vs).toArray=pure Sy:=by
  rw[keyKind'_eq,Mw,mapM_first_ints hI]
  simp only[map_pure,pure_bind]
  rw[if_neg (by simp),if_neg (by simp),oneTypeOnly'_eq,Mw,mapM_typeOf_ints hI]
  simp only[map_pure,pure_bind]
  have hal:((Kj (fun _=>Ob "int") (v1::vs)).toArray.all fun x=>x == Ob "int")=true:=by
   simp only[List.all_toArray,K_,Kf]
   exact fun _ _=>rfl
  have hz:(Kj (fun _=>Ob "int") (v1::vs)).toArray[0]?=some (Ob "int"):=by simp
  rw[hz]
  simp only[hal,if_true,pure_bind,Ln]
 rw[e]
 exact M' q
end
end ZS
namespace PL
open PySem PySem.Spec PyProof.Rows L2
section
variable{X:Cx}
theorem nY{K:M8}{H:Hp}{Γ:Fm}:∀(ns:List Int),Rp K H Γ->Rp K H (zz (ns.map T.int) (ns.map V.int)++Γ)
 | [],h=>h
 | _::r,h=>bP (nY r h) fun _=>.int
end
section
variable{X:Cx}
theorem mq{acc:Array M7}{lo:Int}{n:Nat}(h:R6 (fun(i:Nat) (v:M7)=>∃ t:Tok,v=PD (lo + i * 1) t) acc n):Vals (((m_ n).map fun(i:Nat)=>lo + (i:Int)).map V.int) acc.toList:=by
 have gen:∀(m:Nat) (l:List M7),l.length=m->(∀(j:Nat) (v:M7),l[j]?=some v->∃ t:Tok,v=PD (lo + (j:Int)) t)->Vals (((m_ m).map fun(i:Nat)=>lo + (i:Int)).map V.int) l:=by
  intro m
  induction m with
  | zero=>intro l hl _;have:l=[]:=List.length_eq_zero_iff.mp hl;subst this;exact .nil
  | succ m ih=>
   intro l hl hv
   have hne:l≠[]:=by intro z;subst z;simp at hl
   obtain⟨l',v,rfl⟩:∃ l' v,l=l'++[v]:=⟨l.dropLast,l.getLast hne,(List.dropLast_concat_getLast hne).symm⟩
   have hl':l'.length=m:=by simpa using hl
   rw[Kv,A',A']
   refine Vals.append (ih l' hl' fun j w e=>hv j w ?_) ?_
   ·rw[Jg (c_.mp e).1];exact e
   obtain⟨t,e⟩:=hv m v (by rw[IT (by lia),hl',KC];rfl)
   exact .cons ⟨t,e⟩ .nil
 refine gen n _ (by rw[gV];exact h.1) fun j v e=>?_
 rw[fk]at e
 obtain⟨t,q⟩:=h.2 j v e
 exact⟨t,by rw[q,M0]⟩
theorem jH{pins:List (M9 × Obj)}{σ:L2.St}{H:Hp}{s:M_}{lo hi:Int}{t u v:Tok}{tk:Nat}{Q:VK}(I:Inv X pins σ H s)(hc:X.calm=true)(h1:-(2 ^ 62)<=lo)(h2:lo < 2 ^ 62)(h3:-(2 ^ 62)<=hi)(h4:hi < 2 ^ 62)(hz:(hi - lo).toNat<=2 ^ 24)
  (q:New (.lst (((m_ (hi - lo).toNat).map fun(i:Nat)=>lo + (i:Int)).map V.int)) H Q):Nb (Ni X.prog X.w) X.A (call (.type "list") [.ref s.heap.objs.size]) (EP X pins σ Q) X.xe { s with heap:=s.heap.push { cls:=.type "range",data:=.fields #[.int lo t,.int hi u,.int 1 v] },toks:=tk }:=by
 refine call_list_range (n:=(hi - lo).toNat) (I.ok.hd hc) (Si ..) (small_one h1 h2 h3 h4) (rangeSize_nat _ _) hz fun h' tk' acc c hk e it=>?_
 have esz:(s.heap.push { cls:=.type "range",data:=.fields #[.int lo t,.int hi u,.int 1 v] }).objs.size=s.heap.objs.size + 1:=by simp[Vt]
 dsimp only at hk e ⊢
 rw[esz]at e ⊢
 have hfr:H (s.heap.objs.size + 1)=none:=I.hok.fresh (JS _)
 have rv:=mq it
 refine⟨.ref (s.heap.objs.size + 1),_,I.laid (t':=tk') (h':=h') (fun b o z=>hk b o (Na _ z)) (JS _) (show bj X.prog X.w _ h' _ (.lst _)from⟨?_,acc.toList,c,rv,by simpa using e⟩),rfl,q _ _ hfr (aT hfr _) ay⟩
 rw[b_,b_,y_,NI]
 exact hz
variable{e a b:Nn}{fr:PFs}{p1 p2 pos1 pos2:Pos}
def lr1:P1s
 | [.int j],k=>(-(2 ^ 62)<=j/\j<=2 ^ 24)/\k (.lst true (gm 0 j.toNat))
 | _,_=>False
theorem oO{j:Int}{k:T->Prop}:lr1 [.int j] k=((-(2 ^ 62)<=j/\j<=2 ^ 24)/\k (.lst true (gm 0 j.toNat))):=rfl
def FN(fr:PFs):PF:=fCl lr1 fr
theorem jI{env:Ev}{k:T->Ev->Prop}:FN fr env k=fr env fun ts env1=>lr1 ts fun t=>k t env1:=rfl
theorem fH(hc:X.calm=true)(hg1:Gl X "list")(hm1:X.mg "list"=none)(hg2:Gl X "range")(hm2:X.mg "range"=none)(ha:GA X [a] fr)
  (hs1:Np [a] X.env=[(false,NA a X.env)]:=by rfl) (hs2:Np [.Call (.Name "range" p2) [a] [] pos2] X.env=[(false,NA (.Call (.Name "range" p2) [a] [] pos2) X.env)]:=by rfl) :
  GE X (.Call (.Name "list" p1) [.Call (.Name "range" p2) [a] [] pos2] [] pos1) (FN fr):=by
 rintro pins s σ H Q I ⟨env,Fr,k,rs,q,c⟩
 refine N5 (bT I hg1 hm1 boot_list (callWith_type1 ?_ (by rw[hs2];rfl) rfl))
 rw[hs2]
 refine Ox ?_
 refine N5 (bT I hg2 hm2 SK (callWith_type1 ?_ (by rw[hs1];rfl) rfl))
 refine thn (ha pos2 pins s σ H (fun vs H1=>∃ ts env1,(lr1 ts fun t=>k t env1)/\ts.length=vs.length/\Rs X.K H1 env1 σ (zz ts vs++Fr)) I ⟨env,Fr,_,rs,q,fun ts env1 vs H1 q1 l rs1=>⟨ts,env1,q1,l,rs1⟩⟩) fun us s1 ⟨vs,H1,I1,r1,ts,env1,q1,l,rs1⟩=>?_
 match ts,vs,l,q1 with
 | [.int j],[v],l,q1=>
  have rs1:Rs X.K H1 env1 σ ((.int j,some v)::Fr):=rs1
  have ev:=aR rs1.head
  subst ev
  cases r1 with
  | cons r rr=>
   cases rr
   obtain⟨t,rfl⟩:=r
   refine Uo ?_
   refine R9 ?_
   refine jH I1 hc (by lia) (by lia) q1.1.1 (Int.lt_of_le_of_lt q1.1.2 (by decide)) (by rw[Mm];exact Int.toNat_le.mpr q1.1.2) fun p H' hp g e=>c _ _ _ _ q1.2 (.of rs1.1 ?_)
   have rp2:=nY ((m_ (j - 0).toNat).map fun(i:Nat)=>(0:Int) + (i:Int)) rs1.drop.2
   have er:gm 0 j.toNat=((m_ (j - 0).toNat).map fun(i:Nat)=>(0:Int) + (i:Int)).map T.int:=by rw[II,Mm];rfl
   rw[er]
   exact dG rp2 (by simp only[b_]) hp g e
end
section
variable{X:Cx}{pos:Pos}
theorem iz{κ:Type}[DecidableEq κ]:∀(a:List (κ × V)) (b:List (κ × V)),((a++b).map (·.1)).Nodup->b.foldl (fun acc kv=>putK acc kv.1 kv.2) a=a++b
 | a,[],_=>by rw[IP];rfl
 | a,(q,x)::b,h=>by
  have h':((a++[(q,x)]++b).map (·.1)).Nodup:=by rw[h_];exact h
  have nq:(a.any fun kv=>decide (kv.1=q))=false:=by
   rw[Mx]
   intro y my e
   rw[A',JA]at h
   exact h.2.2 y.1 (Mi my) q (r_ ..) (of_decide_eq_true e)
  have e:putK a q x=a++[(q,x)]:=by unfold putK;rw[nq];rfl
  rw[Kt,e,iz (a++[(q,x)]) b h',h_];rfl
theorem rT{N:List Str}{esc:NO}(N':List Str)(fr:List (Option Nat))(nd:N'.Nodup){elt target iter:Nn}{ifs:List Nn}{sc:NO}{fi:PIt}{g:PG'}{ft:PB}{fe:PF}(hN:X.N=N)(hS:X.env.scope=esc)(C:dE N esc sc N' fr=true)
  (hi:GI X target iter fi) (hg:∀ s3 H3 fp,GG (κc fr) (aB X N' sc s3 H3 fp) target g) (ht:∀ s3 H3 fp,GTs (aB X N' sc s3 H3 fp) ifs ft) (he:∀ s3 H3 fp,GE (aB X N' sc s3 H3 fp) elt fe)
  (hc:X.calm=true:=by rfl) (hs:∀ x,NJ iter X.env x=pure x:=by intro _;rfl):GE X (.ListComp elt [⟨target,iter,ifs,0⟩] sc pos) (kY fr fi g ft fe):=
 PE.imp (uv N' fr hc (by rw[hN,hS];exact C) hi hg ht he hs) l5
end
section
variable{b:Bool}{ts us:List T}{k:T->Prop}{i:Int}{t u:T}{env:Ev}{ke:T->Ev->Prop}
theorem wK(ts:List T)(n:Nat):mC ts none (some (n:Int))=ts.take n:=by
 unfold mC
 rw[HT.BV,HT.x6,Kd,MW]
 by_cases h:n<=ts.length
 ·rw[L0 h]
 rw[LK (by lia),IY (by lia),IY (by lia)]
theorem eh(lo:Int)(n:Nat):(gm lo n).length=n:=by rw[gm,b_,y_]
theorem se{lo:Int}{n i:Nat}{t:T}(h:(gm lo n)[i]?=some t):i < n:=by
 have:=(c_.mp h).1
 rwa[eh]at this
theorem EY{lo:Int}{n i:Nat}{t:T}(h:(gm lo n)[i]?=some t):t=.int (lo + (i:Int)):=by
 have hi:=se h
 rw[gm,B',JU hi]at h
 cases h
 rfl
theorem bO{α:Type}{g:α->T}{l:List α}{i:Nat}{t:T}(h:(l.map g)[i]?=some t):∃ x,l[i]?=some x/\t=g x:=by
 rw[B']at h
 cases e:l[i]? with
 | none=>rw[e]at h;cases h
 | some x=>rw[e]at h;cases h;exact⟨x,rfl,rfl⟩
end
def FE(f g:PSt):PSt:=fun pe env=>∃ W:Ev->Prop,f { pe with nx:=W } env/\∀ e,W e->g pe e
theorem bM{X:Cx}{κ:Nat->Bool}{st:NN}{rest:List NN}{f g:PSt}(h1:GS κ X st f)(h2:GSs κ X rest g):GSs κ X (st::rest) (FE f g):=by
 refine PSs.imp (aO h1 h2) ?_
 rintro D σ H ⟨env,Fr,pe,rs,⟨W,q,w⟩,c⟩
 refine⟨env,Fr,_,rs,q,⟨fun env' σ' H' q1 rs1 k1=>⟨env',Fr,pe,rs1,w _ q1,c.later k1⟩,c.rt,c.bk,c.ct⟩⟩
theorem cx{f g:PSt}{pe:PEn}{env:Ev}(W:Ev->Prop)(h1:f { pe with nx:=W } env)(h2:∀ e,W e->g pe e):FE f g pe env:=⟨W,h1,h2⟩
end PL
namespace L2
open PySem PySem.Spec PyProof.Rows
theorem b8:∀(names:List (Str × Oz)) (a:Nat) (acc:List (Str × M9)),NV a names acc=NV a names []++acc
 | [],a,acc=>rfl
 | (n,k)::r,a,acc=>by
  unfold NV
  split
  ·rw[b8 r (a + 1) ((n,a)::acc),b8 r (a + 1) [(n,a)],h_];rfl
  exact b8 r a acc
theorem du:∀(names:List (Str × Oz)) (a:Nat) {x:Str} {c:M9},(x,c)∈NV a names []->(x,Po)∈names
 | [],a,x,c,h=>by cases h
 | (n,k)::r,a,x,c,h=>by
  unfold NV at h
  split at h
  ·rename_i hk
   rw[b8]at h
   rcases D_.mp h with h | h
   ·exact l_ _ (du r _ h)
   rw[C']at h
   cases h
   have:k=.cell:=by simpa using hk
   rw[this]
   exact r_
  exact l_ _ (du r _ h)
theorem fM{α:Type}:∀ {l:List (Str × α)} {x:Str} {c:α},(x,c)∈l->∃ d,l.lookup x=some d
 | (k,v)::r,x,c,h=>by
  rw[Js]
  cases hb:x == k with
  | true=>exact⟨v,rfl⟩
  | false=>
   rcases u_.mp h with h | h
   ·cases h
    rw[beq_self_eq_true]at hb
    cases hb
   exact fM h
theorem cS:∀(names:List (Str × Oz)) (a:Nat) {x:Str},(x,Po)∈names->∃ c,(x,c)∈NV a names []
 | (n,k)::r,a,x,h=>by
  unfold NV
  rcases u_.mp h with e | h
  ·cases e
   rw[if_pos (by rfl),b8]
   exact⟨a,n_ _ (C'.mpr rfl)⟩
  split
  ·rw[b8]
   obtain⟨c,hc⟩:=cS r (a + 1) h
   exact⟨c,IG _ hc⟩
  exact cS r a h
theorem cI{α:Type}(x:Str):∀(l m:List (Str × α)),(l++m).lookup x=match l.lookup x with
  | some c=>some c
  | none=>m.lookup x
 | [],m=>rfl
 | (k,v)::r,m=>by
  rw[IV,Js,Js]
  cases x == k with
  | true=>rfl
  | false=>exact cI x r m
noncomputable def compEnvC(env:Env)(sc:NO)(L:M9):Env:={ newEnv sc L env.globals (NV (L + 1) sc.names []++bL env sc.names []) env.qual none .none (some env) QE with scope:=dJ env sc }
section
variable{M:Pf}{A:Nw}{E:M7->M_->Prop}{s:M_}{env:Env}
theorem gp{e:Nn}{scope:NO}{pos:Pos}{newAcc first:Sem M7}{g:Pp}{gs:List Pp}{u:M7->Sem Unit}{Q:M7->M_->Prop}
  (hcl:Tx e=g::gs) (hs:∀ x,NJ g.iter env x=pure x)
  (hfr:∀ x∈scope.names,x.2=.free->∃ c,env.cells.lookup x.1=some c) (hkind:scope.kind=.function) (hnames:∀ x∈scope.names,x.2=.local->scope.names.lookup x.1=some .local)
  (h:Nb M A first (fun x s₁=>Nb M A (P6 x) (fun it s₂=>Nb M A newAcc (fun acc s₃=>
   ∀ h4,h4.Ns s₃.heap.objs.size (fun _=>none)->(∀ b o,s₃.heap.get? b=some o->h4.get? b=some o)->CellsOk h4 (s₃.heap.objs.size + 1) (NV (s₃.heap.objs.size + 1) scope.names [])->
    Om M A (.compStart e 0 it acc (L2.compEnvC env scope s₃.heap.objs.size)) (fun r s'=>match r with
     | .ok _=>Nb M A (u acc) (fun _ s''=>∃ m,s''.heap.Ns s₃.heap.objs.size m/\∀ h',NX s₃.heap.objs.size s''.heap h'->Q .none { s'' with heap:=h' }) E s'
     | .error x=>False) { s₃ with heap:=h4 }) E s₂) E s₁) E s) :
  Nb M A (OQ e scope env pos newAcc false first (some u)) Q E s:=by
 unfold OQ
 rw[g9 hfr,hcl]
 refine M6 (Nz h (fun x s₁ h₁=>M6 (ON (M6 (Pc (hs x) (M6 (Ny (Nz h₁ (fun it s₂ h₂=>
  RM (M6 (Nz h₂ (fun acc s₃ h₃=>M6 (M' (M6 ?_))) fun _ _ h'=>h'))) fun _ _ h'=>h'))))))) fun _ _ h'=>h')
 simp only[newFunctionEnv,Ln,if_true]
 refine M6 (U7 ?_)
 refine M6 (wpAny_layCells _ (fun name kind cells=>by cases hkc:kind == Po <;> simp[hkc]) _ _ _ _ ?_)
 have ok:=cellsFrom_ok scope.names (s₃.heap.push { cls:=.type "dict",data:=.dict #[] }) (s₃.heap.objs.size + 1) [] ⟨fun _ _ hm=>(nomatch hm),KP⟩ (by rw[NG];exact d_ _)
 rw[NG]at ok
 rw[show({ s₃ with heap:=s₃.heap.push { cls:=.type "dict",data:=.dict #[] } }:M_).heap.objs.size=s₃.heap.objs.size + 1 from NG ..,b8]
 have h₄:=h₃ (pushCells (s₃.heap.push { cls:=.type "dict",data:=.dict #[] }) scope.names) ((Heap.Ns.new s₃.heap (.type "dict")).keeps (S3 _ _)) (fun b o e=>S3 _ _ b o (Na _ e)) ok
 rw[Lj]
 refine M6 (M' (M' ?_))
 dsimp only
 have hv:∀ x∈(scope.names.filter fun x=>(x.2 == .local || x.2 == .cell) && x.1 !=(".0":Str)).reverse,x.2=.local->
   QI (L2.compEnvC env scope s₃.heap.objs.size) x.1=some .local:=fun x hx hl=>by
  show(dJ env scope).names.lookup x.1=some .local
  rw[cL,hnames x (Jd.mp (Ke.mp hx)).1 hl]
  rfl
 have hv':∀ x∈(scope.names.filter fun x=>(x.2 == .local || x.2 == .cell) && x.1 !=(".0":Str)).reverse.drop 1++(scope.names.filter fun x=>(x.2 == .local || x.2 == .cell) && x.1 !=(".0":Str)).reverse.take 1,
   x.2=.local->QI (L2.compEnvC env scope s₃.heap.objs.size) x.1=some .local:=fun x hx hl=>
  (D_.mp hx).elim (fun z=>hv x (JO z) hl) fun z=>hv x (IX z) hl
 refine Ny (M6 (OP (Ny (Tz (OF h₄ fun r s' hr=>?_)))))
 cases r with
 | ok f=>
  refine M6 (OD (M6 (Ny (Nz hr (fun _ s'' hr'=>?_) fun _ _ h'=>h'))))
  obtain⟨m,hn,hr'⟩:=hr'
  exact M6 (QV (cenv:=L2.compEnvC env scope s₃.heap.objs.size) hkind _ s'' m hv' hn fun h' m' _ hs'=>M' (hr' h' hs'))
 | error x=>exact hr.elim
end
noncomputable def bC(X:Cx)(N':List Str)(sc:NO)(s3:M_)(H3:Hp)(fp:List M9):Cx where
 prog:=X.prog
 w:=X.w
 K:=X.K
 mg:=X.mg
 base:=X.base
 A:=X.A
 N:=N'
 s₀:=s3
 H₀:=H3
 env:=compEnvC X.env sc s3.heap.objs.size
 outer:=X.stack
 stack:=X.stack
 ex:=fp
 calm:=true
 fn:=fun x=>sc.names.lookup x == some .cell
 pn:=[]
 xe:=fun _ _=>False
noncomputable def jT(N:List Str)(esc sc:NO)(N':List Str)(fr:List (Option Nat)):Bool:=
 sc.kind == .function && esc.kind == .function
 && sc.names.all (fun y=>(y.2 != .cell || sc.names.lookup y.1 == some .cell) && (y.2 != .free || esc.names.lookup y.1 == some .cell) && (y.2 != .local || sc.names.lookup y.1 == some .local))
 && fr.length == N'.length
 && (m_ N'.length).all (fun i=>match fr[i]? with
  | some (some j)=>match N'[i]? with
   | some x=>N[j]? == some x && sc.names.lookup x == some .free
   | none=>false
  | _=>true)
structure CompOkC (N:List Str) (esc sc:NO) (N':List Str) (fr:List (Option Nat)):Prop where
 kind:sc.kind=.function
 ekind:esc.kind=.function
 cell:∀ x∈sc.names,x.2=.cell->sc.names.lookup x.1=some .cell
 free:∀ x∈sc.names,x.2=.free->esc.names.lookup x.1=some .cell
 names:∀ x∈sc.names,x.2=.local->sc.names.lookup x.1=some .local
 len:fr.length=N'.length
 at_:∀(i j:Nat) (x:Str),fr[i]?=some (some j)->N'[i]?=some x->N[j]?=some x/\sc.names.lookup x=some .free
theorem sN{N:List Str}{esc sc:NO}{N':List Str}{fr:List (Option Nat)}(h:jT N esc sc N' fr=true):CompOkC N esc sc N' fr:=by
 unfold jT at h
 simp only[H_,beq_iff_eq,Kf,IQ]at h
 obtain⟨⟨⟨⟨h1,h2⟩,h3⟩,h4⟩,h5⟩:=h
 refine⟨h1,h2,fun x hx e=>?_,fun x hx e=>?_,fun x hx e=>?_,h4,fun i j x e1 e2=>?_⟩
 ·have:=(h3 x hx).1.1
  rw[e]at this
  simpa using this
 ·have:=(h3 x hx).1.2
  rw[e]at this
  simpa using this
 ·have:=(h3 x hx).2
  rw[e]at this
  simpa using this
 have hi:i < N'.length:=(c_.mp e2).1
 have q:=h5 i hi
 rw[e1,e2]at q
 simpa using q
theorem wD{X:Cx}{pins:List (M9 × Obj)}{σ:St}{H3:Hp}{s3:M_}{sc:NO}{N':List Str}{fr:List (Option Nat)}{fp:List M9}{h4:Nr}(I:Inv X pins σ H3 s3)(C:CompOkC X.N X.env.scope sc N' fr)(hc:X.calm=true)
  (hfp:∀ b∈fp,eE X pins H3 b) (hfo:∀ b∈fp,∃ o,s3.heap.get? b=some o) (hn:h4.Ns s3.heap.objs.size (fun _=>none)) (hk:∀ b o,s3.heap.get? b=some o->h4.get? b=some o) (ck:CellsOk h4 (s3.heap.objs.size + 1) (NV (s3.heap.objs.size + 1) sc.names [])) :
  Inv (bC X N' sc s3 H3 fp) [] (bg fr σ) H3 { s3 with heap:=h4 }:=by
 have hfr:∀ x∈sc.names,x.2=.free->∃ c,X.env.cells.lookup x.1=some c:=fun x hx e=>I.ok.has x.1 (.inl (C.free x hx e))
 have clo:∀ {x c},(bL X.env sc.names []).lookup x=some c->X.env.cells.lookup x=some c:=fun{x c} e=>by
  rcases l4 hfr e with⟨h1,_⟩ | h
  ·exact h1
  cases h
 have two:∀ {x c},(compEnvC X.env sc s3.heap.objs.size).cells.lookup x=some c->((NV (s3.heap.objs.size + 1) sc.names []).lookup x=some c/\(x,c)∈NV (s3.heap.objs.size + 1) sc.names [])\/(X.env.cells.lookup x=some c/\c < s3.heap.objs.size):=fun{x c} e=>by
  have e:(NV (s3.heap.objs.size + 1) sc.names []++bL X.env sc.names []).lookup x=some c:=e
  rw[cI]at e
  cases q:(NV (s3.heap.objs.size + 1) sc.names []).lookup x with
  | some d=>rw[q]at e;cases e;exact .inl ⟨rfl,NM q⟩
  | none=>
   rw[q]at e
   obtain⟨v,z⟩:=I.cell x c (clo e)
   exact .inr ⟨clo e,z.lt⟩
 have own:∀ {x},(x,Po)∈sc.names->∃ c,(NV (s3.heap.objs.size + 1) sc.names []).lookup x=some c:=fun{x} m=>by
  obtain⟨c,hm⟩:=cS sc.names (s3.heap.objs.size + 1) m
  exact fM hm
 have thr:∀ {x c},(x,Od)∈sc.names->sc.names.lookup x=some .free->X.env.cells.lookup x=some c->(compEnvC X.env sc s3.heap.objs.size).cells.lookup x=some c:=fun{x c} m hl e=>by
  show(NV (s3.heap.objs.size + 1) sc.names []++bL X.env sc.names []).lookup x=some c
  rw[cI]
  cases q:(NV (s3.heap.objs.size + 1) sc.names []).lookup x with
  | some d=>
   have:=C.cell _ (du _ _ (NM q)) rfl
   rw[hl]at this
   cases this
  | none=>exact jQ hfr e m
 have nfs:∀ b∈fp,b ∉ frs X.stack:=fun b hb z=>by
  obtain⟨_,h1,h2,_⟩:=hfp b hb
  rcases u_.mp (I.o9 b z)with e | e
  ·exact h1 e
  exact h2 e
 have hfresh:H3 s3.heap.objs.size=none:=I.hok.fresh (d_ _)
 refine⟨⟨I.ok.mod,C.kind,I.ok.glob,I.ok.blt,d_ _,fun x y c e1 e2=>?_,fun x hx=>?_,fun x c z e=>?_,fun _=>I.ok.hd hc,I.ok.frames,.inl rfl,fun b hb=>⟨?_,fun x c e=>?_⟩,fun b o e=>I.bs b o e,z_ I.ok.bsz I.sz,fun b o e hb=>?_,nfs,I.stack,I.oQ⟩,
  rfl,I.bare,Un.kept hk,⟨_,hn,fun i x v e1 e2 e3=>?_⟩,fun x c e=>?_,hfresh,fun x c e=>?_,fun p hp=>(nomatch hp),I.hok.kept hk,?_⟩
 ·rcases two e1 with⟨_,m1⟩ | ⟨l1,b1⟩ <;> rcases two e2 with⟨_,m2⟩ | ⟨l2,b2⟩
  ·exact UD ck.apart m1 m2
  ·exact absurd (x_ b2 (KU (ck.empty _ _ m1).2)) (Jc _)
  ·exact absurd (x_ b1 (KU (ck.empty _ _ m2).2)) (Jc _)
  exact I.ok.inj x y c l1 l2
 ·have hx:(dJ X.env sc).names.lookup x=some .cell\/(dJ X.env sc).names.lookup x=some .free:=hx
  rw[cL]at hx
  cases e:sc.names.lookup x with
  | none=>rw[e]at hx;rcases hx with z | z <;> cases z
  | some k=>
   have hm:(x,k)∈sc.names:=NM e
   cases k with
   | cell=>
    obtain⟨c,q⟩:=own hm
    refine⟨c,?_⟩
    show(NV (s3.heap.objs.size + 1) sc.names []++bL X.env sc.names []).lookup x=some c
    rw[cI,q]
   | free=>
    obtain⟨c,hc'⟩:=hfr _ hm rfl
    exact⟨c,thr hm e hc'⟩
   | _=>rw[e]at hx;rcases hx with z | z <;>(simp at z)
 ·have z:(sc.names.lookup x == some Po)=true:=z
  have z:sc.names.lookup x=some .cell:=by simpa using z
  rcases two e with⟨_,m1⟩ | ⟨l1,b1⟩
  ·have:=(ck.empty _ _ m1).2
   show s3.heap.objs.size<=c
   omega
  obtain⟨d,q⟩:=own (NM z)
  have e:(NV (s3.heap.objs.size + 1) sc.names []++bL X.env sc.names []).lookup x=some c:=e
  rw[cI,q]at e
  have e:some d=some c:=e
  rw[v_ e]at q
  exact KU (ck.empty _ _ (NM q)).2
 ·obtain⟨o,ho⟩:=hfo b hb
  exact q_ (Ng ho)
 ·rcases two e with⟨_,m1⟩ | ⟨l1,b1⟩
  ·obtain⟨o,ho⟩:=hfo b hb
   exact fun z=>absurd (x_ (Ng (z ▸ ho)) (KU (ck.empty _ _ m1).2)) (Jc _)
  exact(hfp b hb).2.2.2.2.1 x c l1
 ·obtain⟨e1,_⟩:=I.ok.bs b o e
  rcases(hfp b hb).2.2.2.1 with z | z
  ·exact I.ok.noex b o e z
  exact absurd (x_ (Ng e1) z) (Jc _)
 ·have e2:(bg fr σ)[i]?=some (some v):=e2
  unfold bg at e2
  rw[B']at e2
  cases ef:fr[i]? with
  | none=>rw[ef]at e2;cases e2
  | some o=>
   rw[ef]at e2
   cases o with
   | none=>cases e2
   | some j=>
    have e2':(σ[j]?).join=some v:=by simpa using e2
    have e2'':σ[j]?=some (some v):=by
     cases q:σ[j]? with
     | none=>rw[q]at e2';cases e2'
     | some z=>rw[q]at e2';exact congrArg some e2'
    obtain⟨hN,hfrx⟩:=C.at_ i j x ef e1
    have hm:(x,Od)∈sc.names:=NM hfrx
    have hcell:=C.free _ hm rfl
    obtain⟨m,_,hl⟩:=I.loc
    obtain⟨u,r,l⟩:=hl j x v hN e2'' (.inr (.inl hcell))
    refine⟨u,r,.inr ⟨.inl ?_,?_⟩⟩
    ·show(dJ X.env sc).names.lookup x=some .cell
     rw[cL,hfrx]
     have h1:X.env.kindOf x=some .cell:=hcell
     have h2:X.env.scope.kind=.function:=C.ekind
     simp[h1,h2]
    rcases l with⟨k,_⟩ | ⟨_,c,ec,ic⟩
    ·have h1:X.env.kindOf x=some .cell:=hcell
     rw[h1]at k;cases k
    obtain⟨o,ho,hd⟩:=ic
    exact⟨c,thr hm hfrx ec,o,hk c o ho,hd⟩
 ·rcases two e with⟨_,m1⟩ | ⟨l1,b1⟩
  ·exact⟨none,(ck.empty _ _ m1).1⟩
  obtain⟨v,o,ho,hd⟩:=I.cell x c l1
  exact⟨v,o,hk c o ho,hd⟩
 ·rcases two e with⟨_,m1⟩ | ⟨l1,b1⟩
  ·exact I.hok.fresh (by have:=(ck.empty _ _ m1).2;omega)
  exact I.freeC x c l1
 unfold bg
 rw[b_]
 exact C.len
theorem zd{X:Cx}{N ps:List Str}{esc:NO}(S:FnScope N ps esc){i:Nat}{x:Str}{pos pos':Pos}(N':List Str)(fr:List (Option Nat))(nd:N'.Nodup){elt target iter:Nn}{ifs:List Nn}{sc:NO}{pos2:Pos}{wi:TI}{g:M_->Hp->List M9->TG}{tt:M_->Hp->List M9->TT}{te:M_->Hp->List M9->TE}(C:jT N esc sc N' fr=true)
  (hi:X.N[i]?=some x) (hx:Loc X.env.scope x) (hit:PI X target iter wi) (hg:∀ s3 H3 fp,PG (bC X N' sc s3 H3 fp) target (g s3 H3 fp)) (ht:∀ s3 H3 fp,PTs (bC X N' sc s3 H3 fp) ifs (tt s3 H3 fp)) (he:∀ s3 H3 fp,PE (bC X N' sc s3 H3 fp) elt (te s3 H3 fp))
  (hsw:Pa (.ListComp elt [⟨target,iter,ifs,0⟩] sc pos2) (some (.Name x pos')) pos.line X.env=pure true) (hf:X.fn x=true:=by rfl)
  (hc:X.calm=true:=by rfl) (hN:X.N=N:=by rfl) (hS:X.env.scope=esc:=by rfl) (hs:∀ x,NJ iter X.env x=pure x:=by intro _;rfl):PS X (.Assign [.Name x pos'] (.ListComp elt [⟨target,iter,ifs,0⟩] sc pos2) pos) (zl (rL wi fr g tt te) (r9 i)):=by
 have C:CompOkC X.N X.env.scope sc N' fr:=sN (by rw[hN,hS];exact C)
 have hNd:X.N.Nodup:=by rw[hN];exact S.nd
 intro pins s σ H D I h
 rw[Rr _ _ _ _ hsw]
 refine M6 (ON (M6 ?_))
 show Nb _ X.A (do let _ <-OQ (.ListComp elt [⟨target,iter,ifs,0⟩] sc pos2) sc X.env _ (Va []) false (NA iter X.env) (some (Pn (.Name x pos') X.env))) _ _ s
 have hfr:∀ x∈sc.names,x.2=.free->∃ c,X.env.cells.lookup x.1=some c:=fun x hx e=>I.ok.has x.1 (.inl (C.free x hx e))
 refine M6 (Nz (gp (g:=⟨target,iter,ifs,0⟩) (gs:=[]) (Q:=fun _ s'=>SP X pins D .next s') rfl hs hfr C.kind C.names ?_) (fun _ s' hq=>M' (M' hq)) fun _ _ e=>e)
 refine thn (hit pins s σ H _ I h) fun v s1 h1=>thn h1 fun itv s2 h2=>?_
 obtain⟨it,fp,tn,J,H2,e,I2,T,st2,f2,k2⟩:=h2
 subst e
 refine Qb ?_ (by show 0<=sizeLine;decide)
 have hfree:H2 s2.heap.objs.size=none:=I2.hok.fresh (d_ _)
 obtain⟨W,⟨m0,w0⟩,turn⟩:=k2 _ hfree { s2 with heap:=s2.heap.push { cls:=.type "list",data:=.seq ([]:List M7).toArray } } (upd H2 s2.heap.objs.size (.lst [])) fp
 have kp:∀ b u,s2.heap.get? b=some u->(s2.heap.push { cls:=.type "list",data:=.seq ([]:List M7).toArray }).get? b=some u:=fun b u e=>Na _ e
 have I3:Inv X pins σ (upd H2 s2.heap.objs.size (.lst [])) { s2 with heap:=s2.heap.push { cls:=.type "list",data:=.seq ([]:List M7).toArray } }:=
  I2.laid (t':=s2.toks) kp (d_ _) ⟨F_ _,[],0,.nil,Nf _ rfl⟩
 have obj2:=T.obj 0 s2.heap st2
 have fpne:∀ b∈fp,b≠s2.heap.objs.size:=fun b hb=>by
  obtain⟨o,ho,_⟩:=obj2 b hb
  exact q_ (Ng ho)
 have f3:∀ b∈fp,eE X pins (upd H2 s2.heap.objs.size (.lst [])) b:=fun b hb=>⟨by rw[av (fpne b hb)];exact(f2 b hb).1,(f2 b hb).2⟩
 have st3:=T.keep 0 s2.heap _ st2 fun b hb o e=>kp b o e
 have obj3:=T.obj 0 _ st3
 intro h4 hn4 hk4 ck4
 have st4:=T.keep 0 _ h4 st3 fun b hb o e=>hk4 b o e
 have I4:=wD (N':=N') (fr:=fr) (fp:=fp) I3 C hc f3 (fun b hb=>let ⟨o,ho,_⟩:=obj3 b hb;⟨o,ho⟩) hn4 hk4 ck4
 have stat:∀ {H':Hp},(∀ b∈fp,H' b=none)->∀ b∈fp,eE (bC X N' sc { s2 with heap:=s2.heap.push { cls:=.type "list",data:=.seq ([]:List M7).toArray } } (upd H2 s2.heap.objs.size (.lst [])) fp) [] H' b:=fun hn b hb=>
  ⟨hn b hb,(I4.ok.exf b hb).1,I4.ok.exfs b hb,.inl hb,(I4.ok.exf b hb).2,fun p hp=>(nomatch hp)⟩
 have loop:Om (Ni X.prog X.w) X.A (.compLoop (.ListComp elt [⟨target,iter,ifs,0⟩] sc pos2) 0 (.ref it) (.ref s2.heap.objs.size) (L2.compEnvC X.env sc (s2.heap.push { cls:=.type "list",data:=.seq ([]:List M7).toArray }).objs.size))
   (fun r s'=>match r with
    | .ok _=>Nb (Ni X.prog X.w) X.A (Pn (.Name x pos') X.env (.ref s2.heap.objs.size)) (fun _ s''=>∃ m,s''.heap.Ns (s2.heap.push { cls:=.type "list",data:=.seq ([]:List M7).toArray }).objs.size m/\∀ h',NX (s2.heap.push { cls:=.type "list",data:=.seq ([]:List M7).toArray }).objs.size s''.heap h'->SP X pins D .next { s'' with heap:=h' }) X.xe s'
    | .error x=>False) { s2 with heap:=h4 }:=by
  refine dZ (fun n s'=>∃ i σ' H',Inv (bC X N' sc { s2 with heap:=s2.heap.push { cls:=.type "list",data:=.seq ([]:List M7).toArray } } (upd H2 s2.heap.objs.size (.lst [])) fp) [] σ' H' s'/\tn i s'.heap/\(∀ b∈fp,H' b=none)/\W i n σ' H') ?_ m0
   ⟨0,_,_,I4,st4,fun b hb=>(f3 b hb).1,w0⟩
  rintro n s5 ⟨j,σ5,H5,I5,st5,fr5,w5⟩
  rcases turn j n σ5 H5 w5 with⟨stop,q⟩ | ⟨go,step⟩
  ·refine thn (T.done (bC X N' sc _ _ fp) rfl rfl rfl rfl j [] s5 σ5 H5 (fun _ _=>False) I5 (stat fr5) st5 stop) fun r s6 ⟨hr,I6⟩=>?_
   subst hr
   obtain⟨m6,hn6,_⟩:=id I6.loc
   have hL:H5 (s2.heap.push { cls:=.type "list",data:=.seq ([]:List M7).toArray }).objs.size=none:=I6.free
   have I7:Inv X pins σ H5 s6:=I3.zM (s':=s6) (ch:=fp) I6.os I6.base I6.hok I6.bare (fun b hb=>by
    obtain⟨_,g1,g2,g3,g4,g5⟩:=f3 b hb
    exact⟨g3,g1,g4,g5⟩)
   have Lne:(s2.heap.push { cls:=.type "list",data:=.seq ([]:List M7).toArray }).objs.size≠X.env.locals:=JE I3.lt
   have cne:∀ y c,X.env.cells.lookup y=some c->c≠(s2.heap.push { cls:=.type "list",data:=.seq ([]:List M7).toArray }).objs.size:=fun y c e=>by
    obtain⟨v',z⟩:=I3.cell y c e
    exact q_ z.lt
   refine QC (jq (v:=.ref s2.heap.objs.size) I7 hNd hi hx rfl (fun s8 I8 ⟨a8,sb8,ha8⟩=>?_) (.inl hf))
   refine⟨m6,hn6.sameBut sb8 (fun z=>ha8.elim (fun w'=>Lne (z.trans w')) fun w'=>cne _ _ w' z.symm),fun h' hs'=>⟨_,H5,?_,q⟩⟩
   refine I8.turned (it:=(s2.heap.push { cls:=.type "list",data:=.seq ([]:List M7).toArray }).objs.size) (t':=s8.toks) (fun b o hb e=>(hs'.2 b hb).trans e) hL Lne (.inr I3.sz) cne fun p hp z=>?_
   have lt:=Ng (I3.pin p hp).1
   rw[z]at lt
   exact Jc _ lt
  refine thn (T.item (bC X N' sc _ _ fp) rfl rfl rfl rfl j [] s5 σ5 H5 (fun _ _=>False) I5 (stat fr5) st5 go) fun r s6 ⟨u,hr,h6⟩=>?_
  subst hr
  refine thn h6 fun _ s7 ⟨y,H7,I7,r7,y7,st7,fr7⟩=>?_
  have I7':=I7.pinned (stat fr7) (T.obj _ _ st7)
  have again:∀ {σ8:St} {H8:Hp} {s8:M_},Inv (bC X N' sc { s2 with heap:=s2.heap.push { cls:=.type "list",data:=.seq ([]:List M7).toArray } } (upd H2 s2.heap.objs.size (.lst [])) fp) ([]++gb fp s7.heap) σ8 H8 s8->(∃ m',m' < n/\W (j + 1) m' σ8 H8)->
    ∃ m,m < n/\∃ i σ' H',Inv (bC X N' sc { s2 with heap:=s2.heap.push { cls:=.type "list",data:=.seq ([]:List M7).toArray } } (upd H2 s2.heap.objs.size (.lst [])) fp) [] σ' H' s8/\tn i s8.heap/\(∀ b∈fp,H' b=none)/\W i m σ' H':=fun{σ8 H8 s8} I8 ⟨m',hm,w8⟩=>by
   refine⟨m',hm,j + 1,σ8,H8,I8.d6,T.keep _ _ _ st7 fun b hb o e=>(I8.pin (b,o) (n_ _ (n_ _ (bu hb e)))).1,fun b hb=>?_,w8⟩
   obtain⟨o,e,d⟩:=T.obj _ _ st7 b hb
   exact(I8.pin (b,o) (n_ _ (n_ _ (bu hb e)))).2.1
  refine thn (hg _ _ fp _ s7 σ5 H7 y u _ I7' r7 (step y H7 y7)) fun _ s8 ⟨σ8,H8,I8,q8⟩=>?_
  refine thn (ht _ _ fp _ s8 σ8 H8 _ I8 q8) fun ok s9 ⟨H9,I9,q9⟩=>?_
  cases ok with
  | false=>exact again I9 q9
  | true=>
   refine thn (he _ _ fp _ s9 σ8 H9 _ I9 q9) fun y s10 ⟨v,H10,I10,r10,ys,hys,hl,q10⟩=>?_
   refine thn (fF _ s10 σ8 H10 (.ref s2.heap.objs.size) [v] (.ref s2.heap.objs.size) [y] (fun _ H'=>∃ m',m' < n/\W (j + 1) m' σ8 H') I10 rfl (.cons r10 .nil) ⟨_,ys,v,rfl,rfl,hys,hl,q10⟩) fun z s11 ⟨_,H11,I11,_,q11⟩=>?_
   exact again I11 q11
 refine P9 loop ?_
 exact T.self X.A 0 _ _ _ st4 loop
end L2
namespace PL
open PySem PySem.Spec PyProof.Rows L2
section
variable{X:Cx}{pos:Pos}
theorem vJ{κ:Nat->Bool}{N ps:List Str}{esc:NO}(S:FnScope N ps esc){i:Nat}{x:Str}{pos pos':Pos}(N':List Str)(fr:List (Option Nat))(nd:N'.Nodup){elt target iter:Nn}{ifs:List Nn}{sc:NO}{pos2:Pos}{fi:PIt}{g:PG'}{ft:PB}{fe:PF}(C:jT N esc sc N' fr=true)
  (hi:X.N[i]?=some x) (hx:Loc X.env.scope x) (hκ:κ i=false) (hit:GI X target iter fi) (hg:∀ s3 H3 fp,GG (κc fr) (bC X N' sc s3 H3 fp) target g) (ht:∀ s3 H3 fp,GTs (bC X N' sc s3 H3 fp) ifs ft) (he:∀ s3 H3 fp,GE (bC X N' sc s3 H3 fp) elt fe)
  (hsw:Pa (.ListComp elt [⟨target,iter,ifs,0⟩] sc pos2) (some (.Name x pos')) pos.line X.env=pure true) (hf:X.fn x=true:=by rfl)
  (hc:X.calm=true:=by rfl) (hN:X.N=N:=by rfl) (hS:X.env.scope=esc:=by rfl) (hs:∀ x,NJ iter X.env x=pure x:=by intro _;rfl):GS κ X (.Assign [.Name x pos'] (.ListComp elt [⟨target,iter,ifs,0⟩] sc pos2) pos) (xU i (fQ (kY fr fi g ft fe))):=by
 refine PS.imp (rP (zd S N' fr nd C hi hx hit hg ht he hsw hf hc hN hS hs)) ?_
 rintro D σ H ⟨env,Fr,pe,rs,q,c⟩
 exact l5 σ H _ (uE (Q:=fun v H'=>D.nx (σ.set i (some v)) H') ⟨env,Fr,_,rs,q,fun t env' v H' q1 rs1=>c.nx _ _ _ q1 rs1.put (.set hκ)⟩)
end
theorem BO{K:M8}{Hz H:Hp}(vs:List V):RepTs K Hz H (vs.map T.hole) vs []:=by
 induction vs with
 | nil=>exact .nil
 | cons v vs ih=>exact .cons (L:=[]) (M:=[]) rfl .hole ih
theorem qc{K:M8}{Hz H:Hp}{vs:List V}:∀ {us:List V} {L:List M9},RepTs K Hz H (vs.map T.hole) us L->us=vs:=by
 induction vs with
 | nil=>intro us L h;cases h;rfl
 | cons v vs ih=>
  intro us L h
  cases h with
  | cons e h c=>cases h;rw[ih c]
theorem qP{K:M8}{H:Hp}{ts:List T}{x:Option V}{Γ:Fm}(h:Rp K H ((.lst true ts,x)::Γ)):∃ a vs,x=some (.ref a)/\ts.length=vs.length/\Rp K H ((.lst true (vs.map T.hole),some (.ref a))::(zz ts vs++Γ)):=by
 obtain⟨Hz,N,h,nd,g,d⟩:=h
 cases h with
 | cons e h c=>
  rcases h with⟨h,_⟩ | ⟨v,rfl,h⟩
  ·cases h
  cases h with
  | lstO h1 c1=>exact⟨_,_,rfl,c1.len,Hz,N,.cons (L:=[_]) (M:=_++_) (by rw[e];rfl) (.inr ⟨_,rfl,.lstO h1 (BO _)⟩) (c1.toL.app c),nd,g,d⟩
theorem lX{K:M8}{H:Hp}{vs us:List V}{Γ:Fm}(h:Rp K H (zz (vs.map T.hole) us++Γ))(l:vs.length=us.length):us=vs:=by
 obtain⟨Hz,N,h,nd,g,d⟩:=h
 obtain⟨L,M,_,h1,_⟩:=h.split
 exact qc (h1.nN (by rw[b_];exact l))
def κx(κ:Nat->Bool)(j:Nat):Nat->Bool:=fun x=>κ x || decide (x=j)
theorem Kept.of {κ:Nat->Bool}{j:Nat}{σ σ':L2.St}(h:Kept (κx κ j) σ σ'):Kept κ σ σ':=⟨h.1,fun i e=>h.2 i (by unfold κx;rw[e];rfl)⟩
noncomputable def CB(j:Nat)(g:PG')(fb:PSt):PSt:=fun pe env=>∃ us,env[j]?=some (.lst true us)/\∃ W:Nat->Ev->Prop,W 0 (env.set j .any)/\(∀ i t e,W i e->us[i]?=some t->g t e fun e2=>fb { nx:=W (i + 1),rt:=fun _ _=>False,bk:=fun _=>False,ct:=W (i + 1) } e2)/\∀ e hs,W us.length e->hs.length=us.length->pe.nx (e.set j (.lst true hs))
theorem BI{X:Cx}{κ:Nat->Bool}{pos p':Pos}{tg:Nn}{x:Str}(j:Nat){body:List NN}{g:PG'}{fb:PSt}(hp:Q6 (Ni X.prog X.w) X.A X.env X.xe)(hc:X.calm=true)(hg:GG (κx κ j) X tg g)(hb:GSs (κx κ j) X body fb)
  (hN:X.N[j]?=some x:=by rfl) (hv:Vis X.env.scope x:=by first | exact f' rfl | exact i_ (f' rfl) | exact i_ (i_ rfl)) (hd:(x ==("__debug__":Str))=false:=by decide) (hcd:(x ==("__classdict__":Str))=false:=by decide) (hs:∀ y,NJ (.Name x p') X.env y=pure y:=by intro _;rfl) :
  GS κ X (.For tg (.Name x p') body [] pos) (CB j g fb):=by
 refine PS.imp (zp hp hc (yI (cU hN hv hd hcd)) hg hb hs) ?_
 rintro D σ H ⟨env,Fr,pe,rs,⟨us,et,W,w0,wt,we⟩,c⟩
 obtain⟨y,ey,rs2⟩:=rs.slot et
 obtain⟨a,vs,rfl,l,rp⟩:=qP rs2.head
 have hj:j < σ.length:=(c_.mp ey).1
 have rs3:Rs X.K H (env.set j .any) σ ((.lst true (vs.map T.hole),some (.ref a))::(zz us vs++Fr)):=.of rs2.1 (rp.perm (.cons _ (s_ _ _ _)))
 have look:∀ {H':Hp} {e':Ev} {σ':L2.St} {F:Fm},Rs X.K H' e' σ' ((.lst true (vs.map T.hole),some (.ref a))::F)->SqG false X.K H' a vs:=fun r=>by
  obtain⟨a',vs',ea,hq,l',rp'⟩:=aD rfl r.head
  cases ea
  rw[b_]at l'
  rw[lX rp' l']at hq
  exact hq
 refine⟨_,ey,false,a,vs,rfl,look rs3,fun i m σ' H'=>∃ e',W i e'/\Rs X.K H' e' σ' ((.lst true (vs.map T.hole),some (.ref a))::(zz (us.drop i) (vs.drop i)++Fr))/\Kept (κx κ j) σ σ'/\m + i=us.length,⟨us.length,_,w0,rs3,.refl,rfl⟩,?_⟩
 rintro i m σ1 H2 ⟨e2,w2,rs4,k2,hm⟩
 have hq:=look rs4
 by_cases hlt:i < us.length
 ·have hv2:i < vs.length:=by lia
  have d1:us.drop i=us[i]::us.drop (i + 1):=Jv hlt
  have d2:vs.drop i=vs[i]::vs.drop (i + 1):=Jv hv2
  refine .inr ⟨wX hq rfl i H2 .bq hv2,fun σ' H'=>∃ e',W (i + 1) e'/\Rs X.K H' e' σ' ((.lst true (vs.map T.hole),some (.ref a))::(zz (us.drop (i + 1)) (vs.drop (i + 1))++Fr))/\Kept (κx κ j) σ σ',fun σ' H' ⟨e',w',r',k'⟩=>⟨m - 1,by lia,e',w',r',k',by lia⟩,fun x H' hx=>?_⟩
  obtain⟨rfl,ex⟩:=ui hq .bq hx
  rw[a_ hv2]at ex
  cases ex
  rw[d1,d2]at rs4
  have rs5:Rs X.K H' e2 σ1 ((us[i],some vs[i])::((.lst true (vs.map T.hole),some (.ref a))::(zz (us.drop (i + 1)) (vs.drop (i + 1))++Fr))):=⟨rs4.1,rs4.2.perm (.append_left _ (.swap _ _ _))⟩
  refine⟨us[i],e2,_,_,rs5,wt i us[i] e2 w2 (a_ hlt),fun env3 σ3 H3 q3 rs6 k4=>?_⟩
  exact⟨env3,_,_,rs6,q3,⟨fun env' σ' H' w' r' k'=>⟨env',w',r',k2.trans (k4.trans k')⟩,fun t env' v σ' H' p r' k'=>p.elim,fun env' σ' H' p r' k'=>p.elim,fun env' σ' H' w' r' k'=>⟨env',w',r',k2.trans (k4.trans k')⟩⟩⟩
 have:i=us.length:=by lia
 subst this
 have e1:us.drop us.length=[]:=List.drop_length
 rw[e1]at rs4
 have ej:σ1[j]?=some (some (.ref a)):=(k2.2 j (by unfold κx;rw[decide_eq_true rfl,MX])).trans ey
 have rs7:Rs X.K H2 e2 σ1 ((.lst true (vs.map T.hole),some (.ref a))::Fr):=rs4
 exact .inl ⟨pU hq l.symm H2 .bq,c.nx _ _ _ (we e2 _ w2 (by rw[b_];exact l.symm)) (Rs.dS rs7 (by rw[rs7.1];exact(c_.mp ej).1) ej) k2.of⟩
theorem BJ{j:Nat}{g:PG'}{fb:PSt}{pe:PEn}{env:Ev}{us:List T}(W:Nat->Ev->Prop)(h:env[j]?=some (.lst true us))(w0:W 0 (env.set j .any))(wt:∀ i t e,W i e->us[i]?=some t->g t e fun e2=>fb { nx:=W (i + 1),rt:=fun _ _=>False,bk:=fun _=>False,ct:=W (i + 1) } e2)(we:∀ e hs,W us.length e->hs.length=us.length->pe.nx (e.set j (.lst true hs))):CB j g fb pe env:=⟨us,h,W,w0,wt,we⟩
theorem wx{K:M8}{Hz H:Hp}{vs:List V}:∀ {us:List V} {L:List M9},RepTs K Hz H (vs.map T.hole) us L->L=[]:=by
 induction vs with
 | nil=>intro us L h;cases h;rfl
 | cons v vs ih=>
  intro us L h
  cases h with
  | cons e h c=>cases h;rw[e,ih c];rfl
theorem vU{K:M8}{H:Hp}{a:M9}{us:List T}{vs:List V}{Γ:Fm}(l:us.length=vs.length)(h:Rp K H ((.lst true (vs.map T.hole),some (.ref a))::(zz us vs++Γ))):Rp K H ((.lst true us,some (.ref a))::Γ):=by
 obtain⟨Hz,N,h,nd,g,d⟩:=h
 cases h with
 | cons e h c=>
  rcases h with⟨h,_⟩ | ⟨v,ev,h⟩
  ·cases h
  cases ev
  cases h with
  | lstO h1 c1=>
   have e1:=qc c1
   have e2:=wx c1
   subst e1
   subst e2
   obtain⟨L,M,rfl,k1,k2⟩:=c.split
   exact⟨Hz,N,.cons (L:=a::L) (M:=M) (by rw[e];rfl) (.inr ⟨_,rfl,.lstO h1 (k1.nN l)⟩) k2,nd,g,d⟩
theorem CJ:∀ {ts:List T} {vs:List V} {i:Nat} {t:T} {w:V},ts[i]?=some t->vs[i]?=some w->∃ r,(zz ts vs).Perm ((t,some w)::r)/\∀ t',(zz (ts.set i t') vs).Perm ((t',some w)::r)
 | [],vs,i,t,w,e,f=>by simp at e
 | t::ts,[],i,_,w,e,f=>by simp at f
 | t::ts,v::vs,0,u,w,e,f=>by
  cases e;cases f
  exact⟨zz ts vs,.refl _,fun t'=>.refl _⟩
 | t::ts,v::vs,i + 1,u,w,e,f=>by
  obtain⟨r,p1,p2⟩:=CJ (ts:=ts) (vs:=vs) (i:=i) e f
  exact⟨(t,some v)::r,(p1.cons _).trans (.swap _ _ _),fun t'=>((p2 t').cons _).trans (.swap _ _ _)⟩
end PL
namespace ZT
open PySem
abbrev Up(l:List Nat):Prop:=l.Pairwise (· < ·)
theorem uj{l:List Nat}(h:Up l){i j:Nat}{x y:Nat}(hi:l[i]?=some x)(hj:l[j]?=some y)(hij:i < j):x < y:=by
 obtain⟨a,rfl⟩:=c_.mp hi
 obtain⟨b,rfl⟩:=c_.mp hj
 exact Kx.mp h i j a b hij
theorem pz{xs:Array Nat}{j:Nat}(hu:Up xs.toList):∀(f lo hi:Nat),lo<=hi->hi<=xs.size->hi - lo<=f->(∀ k x,k < lo->xs[k]?=some x->x < j)->(∀ k x,hi<=k->xs[k]?=some x->j<=x)->
  P5 xs j f lo hi<=xs.size/\(∀ k x,k < P5 xs j f lo hi->xs[k]?=some x->x < j)/\∀ k x,P5 xs j f lo hi<=k->xs[k]?=some x->j<=x
 | 0,lo,hi,h1,h2,h3,a,b=>by
  have e:lo=hi:=by omega
  subst e
  exact⟨h2,a,b⟩
 | f + 1,lo,hi,h1,h2,h3,a,b=>by
  unfold P5
  by_cases hl:lo < hi
  ·rw[if_pos hl]
   have hm:(lo + hi) / 2 < xs.size:=by omega
   have e:xs.getD ((lo + hi) / 2) j=xs[(lo + hi) / 2]:=by rw[JH,g_ hm];rfl
   have em:xs.toList[(lo + hi) / 2]?=some xs[(lo + hi) / 2]:=by rw[fk];exact g_ hm
   dsimp only
   rw[e]
   by_cases hx:xs[(lo + hi) / 2] < j
   ·rw[if_pos hx]
    refine pz hu f _ _ (by omega) h2 (by omega) (fun k x hk ek=>?_) b
    by_cases hk2:k=(lo + hi) / 2
    ·subst hk2
     rw[g_ hm]at ek
     cases ek
     exact hx
    exact K9 (uj hu (by rw[fk];exact ek) em (by omega)) hx
   rw[if_neg hx]
   refine pz hu f _ _ (by omega) (by omega) (by omega) a fun k x hk ek=>?_
   by_cases hk2:k=(lo + hi) / 2
   ·subst hk2
    rw[g_ hm]at ek
    cases ek
    exact IU hx
   have:=uj hu em (by rw[fk];exact ek) (by omega)
   omega
  rw[if_neg hl]
  have e:lo=hi:=by omega
  subst e
  exact⟨h2,a,b⟩
theorem gh{xs:Array Nat}(j:Nat)(hu:Up xs.toList):NH xs j<=xs.size/\(∀ k x,k < NH xs j->xs[k]?=some x->x < j)/\∀ k x,NH xs j<=k->xs[k]?=some x->j<=x:=
 pz hu _ _ _ (F_ _) (d_ _) (by omega) (fun k x hk=>by omega) fun k x hk ek=>by rw[JD hk]at ek;cases ek
theorem below_at{xs:Array Nat}(hu:Up xs.toList){i:Nat}{x:Nat}(hi:xs[i]?=some x):NH xs (x + 1)=i + 1:=by
 obtain⟨h1,h2,h3⟩:=gh (x + 1) hu
 have hlt:i < xs.size:=(Km.mp hi).1
 have a:i < NH xs (x + 1):=LL fun z=>by have:=h3 i x z hi;omega
 by_cases c:i + 1 < NH xs (x + 1)
 ·have hn:i + 1 < xs.size:=by omega
  have:=h2 (i + 1) _ c (g_ hn)
  have g:=uj hu (by rw[fk];exact hi) (by rw[fk];exact g_ hn) (Kk i)
  omega
 omega
theorem AW{xs:Array Nat}(hu:Up xs.toList):NH xs 0=0:=by
 obtain⟨h1,h2,h3⟩:=gh 0 hu
 refine Nat.eq_zero_of_not_pos fun z=>?_
 have hn:0 < xs.size:=by omega
 have:=h2 0 _ z (g_ hn)
 omega
theorem vP{xs:Array Nat}{j:Nat}(hu:Up xs.toList)(hj:xs[NH xs j]?≠some j):Up (Vx xs (NH xs j) j).toList:=by
 obtain⟨h1,h2,h3⟩:=gh j hu
 rw[UO]
 have sp:xs.toList=xs.toList.take (NH xs j)++xs.toList.drop (NH xs j):=(IF _ _).symm
 have hu':=hu
 rw[sp]at hu'
 obtain⟨p,q,r⟩:=G'.mp hu'
 have lt:∀ x∈xs.toList.take (NH xs j),x < j:=fun x hx=>by
  obtain⟨k,hk,e⟩:=Jk.mp hx
  rw[D']at hk
  rw[List.getElem_take]at e
  exact h2 k x (by omega) (by rw[<-fk,c_];exact⟨by omega,e⟩)
 have gt:∀ x∈xs.toList.drop (NH xs j),j < x:=fun x hx=>by
  obtain⟨k,hk,e⟩:=Jk.mp hx
  rw[IS]at hk
  rw[List.getElem_drop]at e
  have e2:xs[NH xs j + k]?=some x:=by rw[<-fk,c_];exact⟨by omega,e⟩
  refine Ju (h3 _ x (by omega) e2) fun z=>?_
  subst z
  by_cases k0:k=0
  ·subst k0
   exact hj e2
  have hb:NH xs j < xs.size:=by rw[gV]at hk;omega
  have g:=uj hu (i:=NH xs j) (j:=NH xs j + k) (by rw[fk];exact g_ hb) (by rw[fk];exact e2) (by omega)
  have:=h3 _ _ (d_ _) (g_ hb)
  omega
 exact G'.mpr ⟨p,Lo.mpr ⟨gt,q⟩,fun a ha b hb=>by
  rcases u_.mp hb with e | hb
  ·rw[e]
   exact lt a ha
  exact r a ha b hb⟩
structure Gd (bt:Bool) (t:N3):Prop where
 up:Up t.place.toList
 no:t.dummies=#[]
 led:bt=false->t.led=true
theorem xv(bt:Bool)(f m:Nat):Gd bt (.fresh f m (!bt)):=⟨.nil,rfl,fun e=>by rw[e];rfl⟩
theorem gU{bt:Bool}{t:N3}(h:Gd bt t)(n:Nat):Gd bt (t.standIn n):=⟨by
 show Up (Array.range n).toList
 rw[Array.toList_range]
 exact KZ,rfl,h.led⟩
theorem GF{bt:Bool}{t:N3}(h:Gd bt t)(n:Nat):Gd bt (t.orStandIn n):=by
 unfold Vu
 split
 ·exact h
 exact gU h n
theorem Bi(j:Nat):UP #[] j=false:=rfl
theorem t5{bt:Bool}{t:N3}(h:Gd bt t){j:Nat}(e:t.slot j=.empty):t.place[NH t.place j]?≠some j:=fun z=>by
 unfold T1 at e
 dsimp only at e
 rw[z,if_pos (beq_self_eq_true _)]at e
 cases e
theorem js{t:N3}(hd:t.dummies=#[]){H:Nat->Int}{h:Int}:∀(f:Nat) (p:VO) (j:Nat) (d:Option Nat),p.dummy=none->Se t H h f p=some (.empty j d)->t.slot j=.empty/\d=none
 | 0,p,j,d,_,e=>by cases e
 | f + 1,p,j,d,hp,e=>by
  unfold Se at e
  split at e
  ·rename_i z
   cases e
   exact⟨z,hp⟩
  ·rename_i z
   unfold T1 at z
   dsimp only at z
   rw[hd,Bi]at z
   split at z <;> first | cases z | (rename_i q;split at z <;> cases z)
  have ad:(t.advance p).dummy=none:=by unfold VF;split <;> exact hp
  split at e
  ·cases e
  exact js hd f _ j d ad e
theorem Ez{bt:Bool}{t:N3}(h:Gd bt t){j:Nat}(e:t.slot j=.empty):Gd bt (t.put j).1:=by
 refine⟨vP h.up (t5 h e),?_,h.led⟩
 show(if UP t.dummies j then _ else t.dummies)=#[]
 rw[h.no]
 rfl
theorem DF{bt:Bool}{t:N3}(h:Gd bt t)(es:Array (Int × M7))(k:Int)(x:M7):Gd bt (layNew t es k x).2.1:=by
 unfold layNew
 split
 ·rename_i slot wd e
  have hs:t.slot slot=.empty:=by
   unfold Vy at e
   split at e
   ·rename_i j d q
    cases e
    obtain⟨a,b⟩:=js h.no _ _ _ _ rfl q
    rw[b]
    exact a
   cases e
  exact GF (Ez h hs) _
 exact gU h _
theorem yW{bt:Bool}{t:N3}(h:Gd bt t)(es:Array (Int × M7))(n:Nat):Gd bt (QX t es n).2.1:=by
 unfold QX
 split
 ·rename_i t' order e
  dsimp only
  split
  ·unfold VL VP at e
   cases q:Vz (R1 n - 1) (es.map fun x=>x.1)with
   | none=>rw[q]at e;cases e
   | some ow=>
    rw[q]at e
    cases e
    refine⟨?_,rfl,h.led⟩
    show List.Pairwise (fun x y=>x < y) (Kj (fun x=>x.1) (List.filterMap (fun j=>(ow.getD j none).map fun y=>(j,y)) (m_ (R1 n - 1 + 1))))
    rw[KS,List.pairwise_filterMap]
    refine List.Pairwise.imp (fun{a b} hab c hc d hd=>?_) KZ
    obtain⟨_,_,ec⟩:=KW.mp hc
    obtain⟨_,_,ed⟩:=KW.mp hd
    rw[<-ec,<-ed]
    exact hab
  exact gU h _
 exact gU h _
open PySem PyProof.Rows
section
variable{prog:Nl}{w:Nq}{A:Nw}{E:M7->M_->Prop}{s:M_}
abbrev bt(w:Nq):Bool:=w.params.followText "set-order"
structure SI (prog:Nl) (w:Nq) (o:Obj) (ks:List Int) (es:Array (Int × M7)) (ep:Nat) (t:N3):Prop where
 ex:o.ExactSet
 dat:o.data=.set es ep t
 el:ElemsOf (O' prog w) es.toList
 rd:IntsAre (es.toList.map (·.2)) ks
 nd:ks.Nodup
 sm:es.size < scanBound
 ft:t.fits es.size=true
 gd:Gd (bt w) t
noncomputable def SG(prog:Nl)(w:Nq)(h:Nr)(a:M9)(S:Int->Prop)(n:Nat):Prop:=∃ o ks es ep t,h.get? a=some o/\SI prog w o ks es ep t/\(∀ z,z∈ks↔S z)/\ks.length<=n
theorem hC:∀ {vs:List M7} {ns:List Int},IntsAre vs ns->vs.length=ns.length
 | _,_,.nil=>rfl
 | _,_,.cons n t h=>by rw[o_,o_,hC h]
theorem DT{k i:Int}{t:Tok}:(O' prog w).is k (.int i t)=decide (k=i):=KeyKind.is_eq_decide (RH prog w i t) k
theorem kW:∀ {es:List (Int × M7)} {ks:List Int},IntsAre (es.map (·.2)) ks->∀ k,k∈ks↔∃ e∈es,(O' prog w).is k e.2=true
 | [],_,.nil,k=>⟨fun h=>(nomatch h),fun⟨e,h,_⟩=>(nomatch h)⟩
 | (h0,_)::es,_,.cons n t h,k=>by
  rw[u_,kW h k]
  constructor
  ·rintro(rfl | ⟨e,m,q⟩)
   ·exact⟨_,.head _,RH _ _ _ _⟩
   exact⟨e,.tail _ m,q⟩
  rintro⟨e,m,q⟩
  rcases u_.mp m with rfl | m
  ·exact .inl (of_decide_eq_true (by rw[<-DT (prog:=prog) (w:=w) (t:=t)];exact q))
  exact .inr ⟨e,m,q⟩
theorem eU:∀ {us vs:List M7},us.Perm vs->∀ {ns:List Int},IntsAre us ns->∃ ms,IntsAre vs ms/\ns.Perm ms:=by
 intro us vs p
 induction p with
 | nil=>exact fun h=>⟨_,h,.refl _⟩
 | cons x p ih=>
  intro ns h
  cases h with
  | cons n t h=>
   obtain⟨ms,a,b⟩:=ih h
   exact⟨n::ms,.cons n t a,.cons n b⟩
 | swap x y l=>
  intro ns h
  cases h with
  | cons n t h=>
   cases h with
   | cons m u h=>exact⟨_,.cons m u (.cons n t h),.swap _ _ _⟩
 | trans p q ih jh=>
  intro ns h
  obtain⟨ms,a,b⟩:=ih h
  obtain⟨ls,c,d⟩:=jh a
  exact⟨ls,c,b.trans d⟩
theorem vK{vs:List M7}{ns:List Int}{n:Int}{t:Tok}(h:IntsAre vs ns):IntsAre (vs++[.int n t]) (ns++[n]):=by
 induction h with
 | nil=>exact .cons n t .nil
 | cons m u h ih=>exact .cons m u ih
theorem stored{h:Nr}{a:M9}{o:Obj}{es:Array (Int × M7)}{ep:Nat}{t:N3}{es':Array (Int × M7)}{t':N3}(ho:h.get? a=some o)(hd:o.data=.set es ep t) :
  (h.update a (S4 es' t')).get? a=some { o with data:=.set es' (ep + 1) t' }:=by
 have e:=NK (S4 es' t') ho (by rw[putSet_of es' t' hd];rfl)
 rw[putSet_of es' t' hd]at e
 exact e
theorem qK{g:Bool->Sem Unit}(hg:∀(b:Bool) (s₁:M_) (Q':Unit->M_->Prop),Q' () s₁->Nb (Ni prog w) A (g b) Q' E s₁)
  {a:M9} {o:Obj} {es es1:Array (Int × M7)} {ep:Nat} {t t2:N3} {ks:List Int} (ho:s.heap.get? a=some o) (hd:o.data=.set es ep t)
  (hI:SI prog w { o with data:=.set es1 (ep + 1) t2 } ks es1 (ep + 1) t2) {wd:Bool} {R:Option Bool->M_->Prop}
  (h:∀ h' o' es' ep' t' ks',NX a s.heap h'->h'.get? a=some o'->SI prog w o' ks' es' ep' t'->ks'.Perm ks->R (some true) { s with heap:=h' }) :
  Nb (Ni prog w) A (storeSet a es1 t2 >>= fun _=>if(!wd && t2.tooFull)=true then g (QX t2 es1 (OZ es1.size)).2.2 >>= fun _=>storeSet a (QX t2 es1 (OZ es1.size)).1 (QX t2 es1 (OZ es1.size)).2.1 >>= fun _=>pure (some true)else pure (some true)) R E s:=by
 refine M6 (Sf ho hd ?_ (Pg hI.sm))
 have e1:=stored (es':=es1) (t':=t2) ho hd
 have b1:=N0 s.heap a (S4 es1 t2)
 split
 ·have hp:=relayAll_perm t2 es1 (OZ es1.size)
  have hf:=relayAll_fits t2 es1 (OZ es1.size)
  have hG:=yW hI.gd es1 (OZ es1.size)
  generalize QX t2 es1 (OZ es1.size)=Rl at hp hf hG ⊢
  obtain⟨es2,t3,gave⟩:=Rl
  dsimp only at hp hf hG ⊢
  have sz:es2.size=es1.size:=by rw[<-gV,hp.length_eq,gV]
  have sm2:es2.size < scanBound:=by rw[sz];exact hI.sm
  obtain⟨ks2,rd2,kp⟩:=eU (hp.symm.map (·.2)) hI.rd
  refine M6 (hg _ _ _ (M6 (Sf e1 rfl ?_ (Pg sm2))))
  have e2:=stored (es':=es2) (t':=t3) e1 rfl
  exact M' (h _ _ es2 _ t3 ks2 (b1.trans (N0 _ a _)) e2 ⟨hI.ex,rfl,hI.el.perm hp,rd2,kp.nodup_iff.mp hI.nd,sm2,hf,hG⟩ kp.symm)
 exact M' (h _ _ es1 _ t2 ks b1 e1 hI (.refl _))
theorem add_int{a:M9}{S:Int->Prop}{m:Nat}{n:Int}{tk:Tok}{Q:Bool->M_->Prop}(hS:SG prog w s.heap a S m)(hm:m + 1 < scanBound)
  (h:∀ b h',NX a s.heap h'->SG prog w h' a (fun z=>S z\/z=n) (m + 1)->Q b { s with heap:=h' }) :
  Nb (Ni prog w) A (UQ a (.int n tk) ((O' prog w).hash n)) Q E s:=by
 obtain⟨o,ks,es,ep,t,ho,I,mem,kl⟩:=hS
 have kn:es.size=ks.length:=by rw[<-hC I.rd,b_,gV]
 have hk:=RH prog w n tk
 unfold UQ setAddHashedIn
 refine Ny (M6 (OU ho I.dat I.ft ?_))
 dsimp only
 rw[byScan_of rfl I.sm I.el,if_pos rfl]
 unfold setAddByScan
 refine M6 (M6 (OD (M6 (wpAny_setScan_of hk ho I.dat I.ft I.el ?_))))
 cases hr:List.findIdx? (fun e=>(O' prog w).is n e.2) es.toList with
 | some j=>
  dsimp only
  obtain⟨hj,pj,_⟩:=List.findIdx?_eq_some_iff_getElem.mp hr
  have hn:n∈ks:=(kW (prog:=prog) (w:=w) I.rd n).mpr ⟨_,I_ hj,pj⟩
  refine M' (M' ?_)
  exact h _ s.heap (VA a s.heap) ⟨o,ks,es,ep,t,ho,I,fun z=>by rw[mem z];exact⟨.inl,fun q=>q.elim id fun e=>by rw[e];exact(mem n).mp hn⟩,by omega⟩
 | none=>
  dsimp only
  have hn:n ∉ ks:=fun z=>by
   obtain⟨e,me,q⟩:=(kW (prog:=prog) (w:=w) I.rd n).mp z
   have:=List.findIdx?_eq_none_iff.mp hr e me
   rw[q]at this
   cases this
  have pm:=layNew_perm t es ((O' prog w).hash n) (.int n tk)
  have ft:=layNew_fits t es ((O' prog w).hash n) (.int n tk)
  have gd:=DF I.gd es ((O' prog w).hash n) (.int n tk)
  generalize layNew t es ((O' prog w).hash n) (.int n tk)=L at pm ft gd ⊢
  obtain⟨es1,t1,wd,gave⟩:=L
  dsimp only at pm ft gd ⊢
  rw[Jz]at pm
  have s1:es1.size=es.size + 1:=by rw[<-gV,pm.length_eq,j_,gV];rfl
  have el1:ElemsOf (O' prog w) es1.toList:=(I.el.push hk rfl).perm pm
  have rdp:IntsAre (Kj (·.2) (es.toList++[((O' prog w).hash n,PD n tk)])) (ks++[n]):=by rw[A'];exact vK I.rd
  obtain⟨ks1,rd1,kp⟩:=eU (pm.symm.map (·.2)) rdp
  have nd1:ks1.Nodup:=kp.nodup_iff.mp (JA.mpr ⟨I.nd,E_.mpr ⟨(nomatch ·),J_⟩,fun x hx y hy e=>by rw[C'.mp hy]at e;exact hn (e ▸ hx)⟩)
  have fin:∀ h' o' es' ep' t' ks',NX a s.heap h'->h'.get? a=some o'->SI prog w o' ks' es' ep' t'->ks'.Perm ks1->Q true { s with heap:=h' }:=fun h' o' es' ep' t' ks' b g I' p=>by
   refine h _ h' b ⟨o',ks',es',ep',t',g,I',fun z=>?_,?_⟩
   ·rw[p.mem_iff,<-kp.mem_iff,D_,mem z,C']
   rw[p.length_eq,<-kp.length_eq,j_]
   exact K4 kl
  have gw:∀(b:Bool) (s₁:M_) (Q':Unit->M_->Prop),Q' () s₁->Nb (Ni prog w) A (match b with | true=>rule "set.scan.the-table-gave-way" | false=>pure ()) Q' E s₁:=fun b s₁ Q' q=>by cases b <;> first | exact M' q | exact OD q
  refine M6 (?_:Nb _ _ (match gave with | true=>_ | false=>_) _ _ _)
  have sm1:es1.size < scanBound:=by omega
  refine gw gave s _ ?_
  split
  ·refine M6 ?_
   rw[hashByValue_scannable 8 (x:=.int n tk) rfl]
   refine M' ?_
   refine qK (ks:=ks1) gw ho I.dat ⟨I.ex,rfl,el1,rd1,nd1,sm1,?_,?_⟩ fun h' o' es' ep' t' ks' b g I' p=>M' (fin h' o' es' ep' t' ks' b g I' p)
   ·exact ft
   exact gd
  refine M6 (M' ?_)
  rw[if_pos rfl]
  exact qK (ks:=ks1) gw ho I.dat ⟨I.ex,rfl,el1,rd1,nd1,sm1,ft,gd⟩ fun h' o' es' ep' t' ks' b g I' p=>M' (fin h' o' es' ep' t' ks' b g I' p)
end
open PySem PyProof.Rows
theorem Bp:Sz Ve "set.__iter__"=some Oy.«frozenset.__iter__»:=To (id':="frozenset.__iter__") (by kernel_rfl) rfl (by decide +kernel) (by kernel_rfl)
theorem cN:Tf "set_iterator" "__next__" "set_iterator.__next__":=
 .of (owner:="set_iterator") (n:="__next__") (by rw[S5,Ru];kernel_rfl) (by decide +kernel) (by decide +kernel) (by decide +kernel) (by first | exact .inl (by decide +kernel) | exact .inr (by decide +kernel)) (by rw[Qo];kernel_rfl)
theorem uR:Tf "set_iterator" "__iter__" "set_iterator.__iter__":=
 .of (owner:="set_iterator") (n:="__iter__") (by rw[S5,Ru];kernel_rfl) (by decide +kernel) (by decide +kernel) (by decide +kernel) (by first | exact .inl (by decide +kernel) | exact .inr (by decide +kernel)) (by rw[Qo];kernel_rfl)
theorem AS:Sz Ve "set_iterator.__iter__"=some Oy.«dict_keyiterator.__iter__»:=To (id':="dict_keyiterator.__iter__") (by kernel_rfl) rfl (by decide +kernel) (by kernel_rfl)
theorem uK:Sz Ve "set_iterator.__next__"=some Oy.«set_iterator.__next__»:=entryFor_of_tree (by kernel_rfl)
theorem CL:VM.lookup (String.ofList ['r','o','t','a','r','e','t','i','_','t','e','s'].reverse)=some Uj:=by kernel_rfl
theorem uS(a:M7):QY "set_iterator.__next__" ⟨[a],[]⟩:=by
 unfold QY;rw[T3 (id:="set_iterator.__next__") (n:=['_','_','t','x','e','n','_','_']) (o:=['r','o','t','a','r','e','t','i','_','t','e','s']) (by kernel_rfl) CL];kernel_rfl
theorem C4(a:M7):QY "set_iterator.__iter__" ⟨[a],[]⟩:=by
 unfold QY;rw[T3 (id:="set_iterator.__iter__") (n:=['_','_','r','e','t','i','_','_']) (o:=['r','o','t','a','r','e','t','i','_','t','e','s']) (by kernel_rfl) CL];kernel_rfl
theorem nZ{α:Type}:∀ {l:List α} {i:Nat} (h:i < l.length),(l[i]::l.eraseIdx i).Perm l
 | x::l,0,_=>.refl _
 | x::l,i + 1,h=>by
  have g:i < l.length:=Nat.lt_of_succ_lt_succ h
  show(l[i]::x::l.eraseIdx i).Perm (x::l)
  exact(Lk ..).trans (.cons x (nZ g))
theorem mZ{α:Type}{next:Nat->Nat}:∀(f k:Nat) (l:List α) (out:Array α),l.length=f->(UR next f k l out).toList.Perm (out.toList++l)
 | 0,k,l,out,h=>by
  rw[IW h,IP]
  exact .refl _
 | f + 1,k,l,out,h=>by
  unfold UR
  have lt:next k % l.length < l.length:=M5 _ (by omega)
  rw[a_ lt]
  refine(mZ f _ _ _ (by rw[Lz lt];omega)).trans ?_
  rw[Jz,h_]
  refine IL _ ?_
  exact nZ lt
section
variable{prog:Nl}{w:Nq}{A:Nw}{E:M7->M_->Prop}{s:M_}
theorem wp_choose{src:Source}{n:Nat}{Q:Nat->M_->Prop}(hn:n≠0)(h:∀ i d,i < n->Q i { s with drawn:=d }):Nb (Ni prog w) A (choose src n) Q E s:=
 fun _ _ _=>⟨hn,h _ _ (M5 _ (J0 hn))⟩
theorem uP{α:Type}:∀(n:Nat) (xs:List α) {s:M_} {Q:List α->M_->Prop},xs.length=n->(∀ ys d,ys.Perm xs->Q ys { s with drawn:=d })->Nb (Ni prog w) A (drawOrder n xs) Q E s
 | 0,xs,s,Q,hl,h=>by
  rw[IW hl]at h ⊢
  exact M' (h [] s.drawn (.refl _))
 | n + 1,[],s,Q,hl,h=>by cases hl
 | n + 1,x::xs,s,Q,hl,h=>by
  unfold drawOrder
  refine M6 (wp_choose (by simp) fun i d hi=>?_)
  rw[a_ hi]
  dsimp only
  refine M6 (uP n _ (by rw[Lz hi,hl];rfl) fun ys d' p=>M' (h _ d' ?_))
  exact(Ll _ p).trans (nZ hi)
noncomputable def Itr(h:Nr)(it:M9)(first:M7)(i:Nat)(a:M9)(n ep:Nat):Prop:=∃ o,h.get? it=some o/\o.cls=.type "set_iterator"/\o.data=.fields #[first,.int i 0,.ref a,.int n 0,.int ep 0]
theorem Itr.ty {it a:M9}{f:M7}{i n ep:Nat}(x:Itr s.heap it f i a n ep):s.TypeIs (.ref it) "set_iterator":=let ⟨o,ho,hc,_⟩:=x;⟨o,ho,hc⟩
theorem Itr.at {h h':Nr}{it a:M9}{f:M7}{i n ep:Nat}(x:Itr h it f i a n ep)(e:∀ o,h.get? it=some o->h'.get? it=some o):Itr h' it f i a n ep:=let ⟨o,ho,r⟩:=x;⟨o,e _ ho,r⟩
theorem ve{it a:M9}{f:M7}{i n ep:Nat}{Q:M7->M_->Prop}(x:Itr s.heap it f i a n ep)(h:Q (.ref it) s):Nb (Ni prog w) A (P6 (.ref it)) Q E s:=by
 refine Sg x.ty uR (Oc uR x.ty AS ?_ (C4 _))
 show Nb _ _ (ret (.ref it)) _ _ s
 exact M' ⟨_,rfl,"set_iterator",_,x.ty,cN.lookup,h⟩
noncomputable def Nx(prog:Nl)(w:Nq)(a:M9)(o:Obj)(ep:Nat)(vs:List M7)(sl:Nat->Nat):Prop:=∀(A:Nw) (E:M7->M_->Prop) (s:M_) (i:Nat) (Q:Option (M7 × Nat)->M_->Prop),s.heap.get? a=some o->i<=vs.length->Q (vs[i]?.map fun v=>(v,sl (i + 1))) s->Nb (Ni prog w) A (Tp a (sl i) i ep) Q E s
theorem uq{it a:M9}{o:Obj}{es:Array (Int × M7)}{ep:Nat}{t:N3}{i:Nat}{sl:Nat->Nat}{Q:Option M7->M_->Prop}(x:Itr s.heap it (.int (sl i) 0) i a es.size ep)(ho:s.heap.get? a=some o)(hd:o.data=.set es ep t)(hf:t.fits es.size=true){vs:List M7}(N:Nx prog w a o ep vs sl)(hi:i<=vs.length)(hh:A.handled=none)
  (h1:∀ v h',vs[i]?=some v->Itr h' it (.int (sl (i + 1)) 0) (i + 1) a es.size ep->NX it s.heap h'->Q (some v) { s with heap:=h' }) (h2:∀ h',vs[i]?=none->P8 it s.heap h'->Q none { s with heap:=h' }):Nb (Ni prog w) A (OR (.ref it)) Q E s:=by
 obtain⟨oi,hoi,hc,hdi⟩:=id x
 unfold OR
 refine M6 (OP (N2 (name:=N8 "__next__") x.ty cN (Oc cN x.ty uK ?_ (uS _))))
 unfold Oy.«set_iterator.__next__»
 refine M6 (M' (M6 (Tq hoi hdi ?_)))
 show Nb _ _ (setEntries a >>= _) _ _ s
 refine M6 (Qk ho hd hf ?_)
 rw[if_neg (show ¬ _ by simp)]
 show Nb _ _ (Tp a _ _ _ >>= _) _ _ s
 refine M6 ?_
 rw[F',F',F']
 refine N _ _ _ i _ ho hi ?_
 cases e:vs[i]? with
 | some v=>
  dsimp only[J2]
  refine M6 (OB hoi hdi (by simp) ?_)
  have e1:=NK (QA (·.setIfInBounds 0 (Oq (sl (i + 1))))) hoi (OM (NQ hdi _))
  refine M6 (OB e1 (NQ hdi _) (by simp) ?_)
  have e2:=NK (QA (·.setIfInBounds 1 (Oq ((i:Int) + 1)))) e1 (OM (NQ (NQ hdi _) _))
  refine M' ⟨_,rfl,M' (h1 v _ e ⟨_,e2,((P4 ..).trans (P4 ..)).trans hc,?_⟩ ((N0 ..).trans (N0 ..)))⟩
  rw[NQ (NQ hdi _)]
  simp[Oq]
 | none=>
  dsimp only[J2]
  refine M6 (OB hoi hdi (by simp) (show Nb _ _ (R0 (.type "StopIteration") [] >>= _) _ _ _ from M6 ?_))
  simp only[R0,UH]
  refine M6 (ND (M6 (m:=Ph _ _) (Pc (a:=NR) (by first | rfl | (simp only[Ph];rfl)) (ND ?_ (by size_fits)))) (by size_fits))
  simp only[UI]
  refine M6 (RL ?_)
  rw[show A.in1.handled=none from hh]
  refine M6 (M' (Sn ?_))
  refine M6 (Pl (T:="StopIteration") (b:=true) (by exact⟨_,Nf _ rfl,rfl⟩) Rq (M' ?_))
  exact h2 _ e (((N0 ..).extBut.push _).push _)
theorem xo{it a:M9}(hne:a≠it){o:Obj}{es:Array (Int × M7)}{ep:Nat}{t:N3}{sl:Nat->Nat}(hd:o.data=.set es ep t)(hf:t.fits es.size=true){vs:List M7}(N:Nx prog w a o ep vs sl)(hh:A.handled=none) :
  S6 prog w A it [it,a] [it] vs.length (fun i v=>vs[i]?=some v) (fun i h=>i<=vs.length/\Itr h it (.int (sl i) 0) i a es.size ep/\h.get? a=some o) where
 sub:=fun b hb=>by simp at hb;simp[hb]
 frame:=fun _ _ _ st hk=>⟨st.1,st.2.1.at fun o e=>hk it (by simp) o e,hk a (by simp) o st.2.2⟩
 item:=fun i s Q E hi st hQ=>uq st.2.1 st.2.2 hd hf N st.1 hh (fun v h' e x sb=>hQ v h' s.toks e ⟨hi,x,sb.extBut a o hne st.2.2⟩ fun b o hb e=>sb.extBut b o (fun z=>hb (by simp[z])) e) fun h' e=>by rw[a_ hi]at e;cases e
 done:=fun s Q E st hQ=>uq st.2.1 st.2.2 hd hf N st.1 hh (fun v h' e=>by rw[Kc (d_ _)]at e;cases e) fun h' _ eb=>hQ h' s.toks fun b o hb e=>eb b o (fun z=>hb (by simp[z])) e
 self:=fun _ _ _ _ st hQ=>ve st.2.1 hQ
end
open PySem PyProof.Rows
section
variable{prog:Nl}{w:Nq}{A:Nw}{E:M7->M_->Prop}{s:M_}
theorem wp_text{Q:Bool->M_->Prop}(h:Q (bt w) s):Nb (Ni prog w) A setsByText Q E s:=M6 (QZ (M' h))
theorem zU{es:Array (Int × M7)}{i:Nat}:(es.toList.map (·.2))[i]?=es[i]?.map (·.2):=by rw[B',fk]
theorem Bt{a:M9}{o:Obj}{ks:List Int}{es:Array (Int × M7)}{ep:Nat}{t:N3}(I:SI prog w o ks es ep t)(hb:bt w=true) :
  Nx prog w a o ep ((pickOrder (w.params.setOrder a ep) es).toList.map (·.2)) (fun _=>0):=by
 intro A E s i Q ho hi h
 unfold Tp
 refine M6 (OU ho I.dat I.ft (M6 (wp_text ?_)))
 rw[hb,if_pos rfl]
 dsimp only
 rw[if_neg (by simp)]
 refine M6 ?_
 unfold setWalk
 refine M6 (OU ho I.dat I.ft (M6 (wp_text ?_)))
 rw[hb,if_pos rfl]
 refine M6 (QZ (M' (M' ?_)))
 rw[zU,Option.map_map]at h
 exact h
def slP(t:N3):Nat->Nat
 | 0=>0
 | i + 1=>t.place.getD i 0 + 1
theorem yB{a:M9}{o:Obj}{ks:List Int}{es:Array (Int × M7)}{ep:Nat}{t:N3}(I:SI prog w o ks es ep t)(hb:bt w=false)(hdr:(!t.plain && decide (es.size > 1))=false) :
  Nx prog w a o ep (es.toList.map (·.2)) (slP t):=by
 intro A E s i Q ho hi h
 have hz:t.place.size=es.size:=by have:=I.ft;unfold VQ at this;simp at this;exact this.1
 unfold Tp
 refine M6 (OU ho I.dat I.ft (M6 (wp_text ?_)))
 rw[hb,if_neg (by simp)]
 dsimp only
 refine NW (fun z=>absurd (show(!t.plain && decide (es.size > 1))=true from z) (by rw[hdr];simp)) fun _=>M6 ?_
 show Nb _ _ (if(!t.led && !es.isEmpty)=true then _ else _) _ _ _
 rw[I.gd.led hb,if_neg (by simp)]
 refine M' ?_
 have eb:NH t.place (slP t i)=i:=by
  match i,hi with
  | 0,_=>exact AW I.gd.up
  | i + 1,hi=>
   have hi:i < t.place.size:=by rw[b_,gV]at hi;omega
   have e:t.place[i]?=some (t.place.getD i 0):=by rw[g_ hi,JH,g_ hi];rfl
   exact below_at I.gd.up e
 rw[eb]
 refine M' ?_
 rw[zU]at h
 by_cases c:i < es.size
 ·rw[g_ c,g_ (show i < t.place.size by omega)]
  rw[g_ c]at h
  have e:slP t (i + 1)=t.place[i] + 1:=by show t.place.getD i 0 + 1=_;rw[JH,g_ (by omega)];rfl
  dsimp only[J2]at h
  rw[e]at h
  exact h
 rw[JD (by omega)]
 rw[JD (by omega)]at h
 exact h
theorem uf{it a tp:M9}{o ot:Obj}{es:Array (Int × M7)}{ep:Nat}{t:N3}{i:Nat}{ps:List Nat}{c:Nat}{Q:Option M7->M_->Prop}(x:Itr s.heap it (.ref tp) i a es.size ep)(ho:s.heap.get? a=some o)(hd:o.data=.set es ep t)(hf:t.fits es.size=true)(hot:s.heap.get? tp=some ot)(hdt:ot.data=.seq (ps.map fun(j:Nat)=>Oq j).toArray c)(hps:∀ p∈ps,p < es.size)(hh:A.handled=none)
  (h1:∀ p v h',ps[i]?=some p->(es[p]?.map (·.2))=some v->Itr h' it (.ref tp) (i + 1) a es.size ep->NX it s.heap h'->Q (some v) { s with heap:=h' }) (h2:∀ h',ps[i]?=none->P8 it s.heap h'->Q none { s with heap:=h' }):Nb (Ni prog w) A (OR (.ref it)) Q E s:=by
 obtain⟨oi,hoi,hc,hdi⟩:=id x
 unfold OR
 refine M6 (OP (N2 (name:=N8 "__next__") x.ty cN (Oc cN x.ty uK ?_ (uS _))))
 unfold Oy.«set_iterator.__next__»
 refine M6 (M' (M6 (Tq hoi hdi ?_)))
 show Nb _ _ (setEntries a >>= _) _ _ s
 refine M6 (Qk ho hd hf ?_)
 rw[if_neg (show ¬ _ by simp)]
 show Nb _ _ (PK (.ref tp) >>= _) _ _ s
 unfold PK
 refine M6 (M6 (SJ hot ?_))
 rw[hdt]
 refine M' ?_
 dsimp only
 rw[F',F']
 have ea:((ps.map fun(j:Nat)=>Oq j).toArray)[i]?=ps[i]?.map fun(j:Nat)=>Oq j:=by rw[K7,B']
 rw[ea]
 cases e:ps[i]? with
 | some p=>
  have hp:=hps p (t_ e)
  dsimp only[J2,Oq]
  unfold setNextDrawn
  refine M6 (M6 (OU ho hd hf ?_))
  dsimp only
  rw[if_neg (by simp),F',g_ hp]
  refine M' (M6 (OB hoi hdi (by simp) ?_))
  have e1:=NK (QA (·.setIfInBounds 1 (Oq ((i:Int) + 1)))) hoi (OM (NQ hdi _))
  refine M' ⟨_,rfl,M' (h1 p _ _ e (by rw[g_ hp];rfl) ⟨_,e1,(P4 ..).trans hc,?_⟩ (N0 ..))⟩
  rw[NQ hdi _]
  simp[Oq]
 | none=>
  dsimp only[J2]
  refine M6 (OB hoi hdi (by simp) ?_)
  have e1:=NK (QA (·.setIfInBounds 0 (Oq 0))) hoi (OM (NQ hdi _))
  refine M6 (OB e1 (NQ hdi _) (by simp) (show Nb _ _ (R0 (.type "StopIteration") [] >>= _) _ _ _ from M6 ?_))
  simp only[R0,UH]
  refine M6 (ND (M6 (m:=Ph _ _) (Pc (a:=NR) (by first | rfl | (simp only[Ph];rfl)) (ND ?_ (by size_fits)))) (by size_fits))
  simp only[UI]
  refine M6 (RL ?_)
  rw[show A.in1.handled=none from hh]
  refine M6 (M' (Sn ?_))
  refine M6 (Pl (T:="StopIteration") (b:=true) (by exact⟨_,Nf _ rfl,rfl⟩) Rq (M' ?_))
  exact h2 _ e ((((N0 ..).trans (N0 ..)).extBut.push _).push _)
theorem xJ{it a tp:M9}(hne:a≠it)(hnt:tp≠it){o ot:Obj}{es:Array (Int × M7)}{ep:Nat}{t:N3}{ps:List Nat}{c:Nat}(hd:o.data=.set es ep t)(hf:t.fits es.size=true)(hdt:ot.data=.seq (ps.map fun(j:Nat)=>Oq j).toArray c)(hps:∀ p∈ps,p < es.size)(hh:A.handled=none) :
  S6 prog w A it [it,a,tp] [it] ps.length (fun i v=>∃ p,ps[i]?=some p/\es[p]?.map (·.2)=some v) (fun i h=>Itr h it (.ref tp) i a es.size ep/\h.get? a=some o/\h.get? tp=some ot) where
 sub:=fun b hb=>by simp at hb;simp[hb]
 frame:=fun _ _ _ st hk=>⟨st.1.at fun o e=>hk it (by simp) o e,hk a (by simp) o st.2.1,hk tp (by simp) ot st.2.2⟩
 item:=fun i s Q E hi st hQ=>uf st.1 st.2.1 hd hf st.2.2 hdt hps hh (fun p v h' e1 e2 x sb=>hQ v h' s.toks ⟨p,e1,e2⟩ ⟨x,sb.extBut a o hne st.2.1,sb.extBut tp ot hnt st.2.2⟩ fun b o hb e=>sb.extBut b o (fun z=>hb (by simp[z])) e) fun h' e=>by rw[a_ hi]at e;cases e
 done:=fun s Q E st hQ=>uf st.1 st.2.1 hd hf st.2.2 hdt hps hh (fun p v h' e=>by rw[Kc (d_ _)]at e;cases e) fun h' _ eb=>hQ h' s.toks fun b o hb e=>eb b o (fun z=>hb (by simp[z])) e
 self:=fun _ _ _ _ st hQ=>ve st.1 hQ
end
open PySem PyProof.Rows
section
variable{prog:Nl}{w:Nq}{A:Nw}{E:M7->M_->Prop}{s:M_}
theorem zu{vs:List M7}{acc:Array M7}(h:R6 (fun i v=>vs[i]?=some v) acc vs.length):acc.toList=vs:=by
 refine Ms fun j=>?_
 rw[fk]
 by_cases hj:j < vs.length
 ·have hja:j < acc.size:=by rw[h.1];exact hj
  have e:=g_ hja
  rw[e]
  exact(h.2 j _ e).symm
 rw[JD (by rw[h.1];omega),Kc (by omega)]
theorem yY{es:Array (Int × M7)}{ps:List Nat}(hp:ps.Perm (m_ es.size)){acc:Array M7}(h:R6 (fun i v=>∃ p,ps[i]?=some p/\es[p]?.map (·.2)=some v) acc ps.length):acc.toList.Perm (es.toList.map (·.2)):=by
 have e:acc.toList=ps.filterMap fun p=>es[p]?.map fun(x:Int × M7)=>x.2:=by
  have g:∀(qs:List Nat) (vs:List M7),vs.length=qs.length->(∀(j:Nat) v,vs[j]?=some v->∃ p:Nat,qs[j]?=some p/\es[p]?.map (fun(x:Int × M7)=>x.2)=some v)->vs=qs.filterMap fun p=>es[p]?.map fun(x:Int × M7)=>x.2:=by
   intro qs
   induction qs with
   | nil=>exact fun vs l _=>IW l
   | cons q qs ih=>
    intro vs l k
    match vs,l,k with
    | v::vs,l,k=>
     obtain⟨p,e1,e2⟩:=k 0 v rfl
     cases e1
     rw[Jm (f:=fun p=>J2 (fun(x:Int × M7)=>x.2) es[p]?) e2,<-ih vs (JT l) fun j v e=>k (j + 1) v e]
  exact g ps acc.toList (by rw[gV];exact h.1) fun j v e=>h.2 j v (by rw[<-fk];exact e)
 rw[e]
 refine(hp.filterMap _).trans ?_
 have e2:(m_ es.size).filterMap (fun p=>es[p]?.map (·.2))=((m_ es.size).filterMap fun p=>es[p]?).map (·.2):=by rw[List.map_filterMap]
 rw[e2,filterMap_getElem?_range]
theorem yg{a:M9}{o:Obj}{ks:List Int}{es:Array (Int × M7)}{ep:Nat}{t:N3}{Q:M7->M_->Prop}(ho:s.heap.get? a=some o)(I:SI prog w o ks es ep t)(hh:A.handled=none)
  (h:∀(h1:Nr) d (it:M9) (fp:List M9) (P:Nat->M7->Prop) (St:Nat->Nr->Prop),s.heap.objs.size<=it->it < h1.objs.size->(∀ b u,s.heap.get? b=some u->h1.get? b=some u)->(∀ b∈fp,b=a\/s.heap.objs.size<=b)->S6 prog w A it fp [it] es.size P St->St 0 h1->(∀ acc,R6 P acc es.size->acc.toList.Perm (es.toList.map (·.2)))->Q (.ref it) { s with heap:=h1,drawn:=d }) :
  Nb (Ni prog w) A (P6 (.ref a)) Q E s:=by
 have hT:s.TypeIs (.ref a) "set":=⟨o,ho,I.ex.1⟩
 have lt:=Ng ho
 have hz:es.size<=sizeLine:=Pg I.sm
 refine Sg hT S7 (Oc S7 hT Bp ?_ (F.args_set_iter_1 _))
 unfold Oy.«frozenset.__iter__»
 refine M6 ?_
 unfold UW
 refine M6 (M' (M' (M6 ?_)))
 unfold US
 refine M6 (Qk ho I.dat I.ft (M' (M6 ?_)))
 unfold setDrawn
 refine M6 (OU ho I.dat I.ft (M6 (wp_text (M' ?_))))
 have plain:∀(vs:List M7) (sl:Nat->Nat),sl 0=0->vs.Perm (es.toList.map (·.2))->Nx prog w a o ep vs sl->Q (.ref s.heap.objs.size) { s with heap:=s.heap.push { cls:=.type "set_iterator",data:=.fields #[.int 0 0,.int 0 0,.ref a,.int es.size 0,.int ep 0] } }:=fun vs sl h0 pm N=>by
  have ln:vs.length=es.size:=by rw[pm.length_eq,b_,gV]
  have W:=xo (A:=A) (it:=s.heap.objs.size) (q_ lt) I.dat I.ft N hh
  rw[ln]at W
  refine h _ s.drawn _ _ _ _ (d_ _) (by rw[NG];exact Kk _) (fun b u e=>Na _ e) (fun b hb=>?_) W ⟨F_ _,⟨_,Nf _ rfl,rfl,?_⟩,Na _ ho⟩ fun acc it=>?_
  ·rcases u_.mp hb with e | hb
   ·exact .inr (Kz e.symm)
   exact .inl (C'.mp hb)
  ·rw[h0]
   rfl
  rw[<-ln]at it
  rw[zu it]
  exact pm
 cases hb:bt w with
 | true=>
  refine M6 ?_
  refine M' ?_
  refine M6 (QD ho I.dat I.ft ?_)
  refine M6 (ND ?_)
  refine M' ⟨_,rfl,"set_iterator",_,⟨_,Nf _ rfl,rfl⟩,cN.lookup,?_⟩
  exact plain _ _ rfl ((mZ _ _ _ _ (by rw[gV])).map _) (Bt I hb)
 | false=>
  cases hdr:(!t.plain && decide (es.size > 1))with
  | false=>
   refine NW (fun z=>absurd (show(!false && (!t.plain && decide (es.size > 1)))=true from z) (by rw[hdr];simp)) fun _=>M6 (M' ?_)
   refine M6 (QD ho I.dat I.ft ?_)
   refine M6 (ND ?_)
   refine M' ⟨_,rfl,"set_iterator",_,⟨_,Nf _ rfl,rfl⟩,cN.lookup,?_⟩
   exact plain _ _ rfl (.refl _) (yB I hb hdr)
  | true=>
   refine NW (fun _=>?_) fun z=>absurd (show(!false && (!t.plain && decide (es.size > 1)))=true by rw[hdr];rfl) z
   refine M6 (uP _ _ (by rw[y_]) fun ys d pm=>?_)
   refine M6 (ND ?_ ?_)
   refine M6 (QD (Na _ ho) I.dat I.ft ?_)
   refine M6 (ND ?_)
   refine M' ⟨_,rfl,"set_iterator",_,⟨_,Nf _ rfl,rfl⟩,cN.lookup,?_⟩
   ·have yl:ys.length=es.size:=by rw[pm.length_eq,y_]
    have hz2:∀ x:Obj,(s.heap.push x).objs.size=s.heap.objs.size + 1:=fun x=>NG ..
    have W:=xJ (prog:=prog) (w:=w) (A:=A) (it:=s.heap.objs.size + 1) (a:=a) (tp:=s.heap.objs.size) (q_ (LC lt)) (q_ (Kk _)) (ot:={ cls:=.type "tuple",data:=.seq (ys.map fun(j:Nat)=>Oq j).toArray }) I.dat I.ft rfl (fun p hp=>IQ.mp (pm.mem_iff.mp hp)) hh
    rw[yl]at W
    have e2:∀ x y:Obj,y.isFreed=false->((s.heap.push x).push y).get? (s.heap.objs.size + 1)=some y:=fun x y q=>by rw[<-hz2 x];exact Nf _ q
    have r:=h ((s.heap.push { cls:=.type "tuple",data:=.seq (ys.map fun(j:Nat)=>Oq j).toArray }).push { cls:=.type "set_iterator",data:=.fields #[.ref s.heap.objs.size,.int 0 0,.ref a,.int es.size 0,.int ep 0] }) d (s.heap.objs.size + 1) _ _ _ (JS _) (by rw[NG,NG];exact Kk _) (fun b u e=>Na _ (Na _ e)) (fun b hb=>?_) W ⟨⟨_,e2 _ _ rfl,rfl,rfl⟩,Na _ (Na _ ho),Na _ (Nf _ rfl)⟩ fun acc it=>yY pm (by rw[yl];exact it)
    ·rw[<-hz2]at r
     exact r
    simp only[u_,LR,or_false]at hb
    rcases hb with e | e | e
    ·exact .inr (by rw[e];exact JS _)
    ·exact .inl e
    exact .inr (Kz e.symm)
   show _<=_
   rw[p_,b_,pm.length_eq,y_]
   exact hz
end
open PySem PyProof.Rows
section
variable{prog:Nl}{w:Nq}{A:Nw}{E:M7->M_->Prop}{s:M_}
theorem xN{a:M9}{Q:Bool->M_->Prop}(hT:s.TypeIs (.ref a) "set")(h:Q false s):Nb (Ni prog w) A (OI (.ref a)) Q E s:=by
 unfold OI
 refine M6 (Pz hT F.slot_set_len.lookup ?_)
 generalize hid:("set.__len__":String)=id0
 wp_delta
 rw[show splitId id0=some ("set","__len__")from by subst hid;decide +kernel]
 subst hid
 refine M6 (Pl (T:="set") (b:=true) hT (by rw[Qo];kernel_rfl) ?_)
 refine NW (fun z=>absurd z (by decide)) fun _=>NW (fun _=>M6 (QS hT (M' h))) fun z=>absurd (by decide +kernel) z
theorem BG{R:RX->M_->Prop}{a:M9}{o:Obj}{ks:List Int}{es:Array (Int × M7)}{ep:Nat}{t:N3}(ho:s.heap.get? a=some o)(I:SI prog w o ks es ep t)(hh:A.handled=none)(S:M9)(hSa:S≠a)(res:M7)(c₀:Nat)(hS:s.heap.get? S=some { cls:=.type "list",data:=.seq #[] c₀ })
  (hR:∀ h' tk d acc c,(∀ b u,b≠S->s.heap.get? b=some u->h'.get? b=some u)->h'.get? S=some { cls:=.type "list",dict:=none,data:=.seq acc c,slots:=#[] }->acc.toList.Perm (es.toList.map (·.2))->R (.ok (.ret res)) { s with heap:=h',drawn:=d,toks:=tk }) :
  Nb (Ni prog w) A.in1 (OJ (.ref S) (.ref a) res) (fun fin s'=>match fin with | .done f=>R (.ok f) s' | .again c'=>c'.quiet=true/\Om (Ni prog w) A c' R s') (fun e s'=>R (.error e) s') s:=by
 have hz:es.size<=sizeLine:=Pg I.sm
 have lS:=Ng hS
 unfold OJ
 refine M6 (QS (T:="set") ⟨o,ho,I.ex.1⟩ ?_)
 have h1:O4 (.ref S) (.ref a)=false:=by simp[O4,hSa]
 have h2:(Ob "set" == Ob "list")=false:=by decide
 have h3:(Ob "set" == Ob "tuple")=false:=by decide
 simp only[h1,h2,h3,MQ,Jf,if_false]
 refine M6 (yg ho I hh fun h1 d it fp P St hit hlt kp hfp W st pm=>?_)
 have hSf:S ∉ fp:=fun z=>(hfp S z).elim hSa fun z=>LU z lS
 have hSi:S≠it:=fun z=>by rw[z]at lS;exact LU hit lS
 have key:∀(h:Nr) (c₁:Nat) (tk:Nat),St 0 h->(∀ b u,b≠S->h1.get? b=some u->h.get? b=some u)->h.get? S=some { cls:=.type "list",data:=.seq #[] c₁ }->Om (Ni prog w) A (.builtin "list.extend.loop" ⟨[.ref S,.ref it,res],[]⟩) R { s with heap:=h,drawn:=d,toks:=tk }:=by
  intro h c₁ tk hst hk hS₁
  refine RE W.toS hz S hSf res es.size 0 _ #[] c₁ rfl (F_ _) hst hS₁ (ItemsOf.nil _) fun s' acc' c' hm hS' hacc=>?_
  rw[Moved.eq_with hm]
  refine hR s'.heap s'.toks d acc' c' (fun b u hb e=>hm.heap b u (fun z=>?_) (hk b u hb (kp b u e))) hS' (pm _ hacc)
  rcases u_.mp z with z | z
  ·exact hb z
  have:=Ng e
  rw[C'.mp z]at this
  exact LU hit this
 have hS₁:=kp _ _ hS
 refine M6 (Ny (xN ⟨o,kp _ _ ho,I.ex.1⟩ ?_))
 refine NW (fun _=>?_) (fun _=>M' ⟨Ow QL _,key _ c₀ _ st (fun b u _ e=>e) hS₁⟩)
 refine M6 (OD ?_)
 refine M6 ?_
 show Nb _ _ (R3 S (·.push .none) >>= fun _=>R3 S (·.pop)) _ _ _
 refine M6 (Pb hS₁ rfl ?_)
 have hS₂:=NK (NZ (·.push NR)) hS₁ rfl
 refine Pb (hz:=by seq_fits) hS₂ rfl ?_
 have hS₃:=NK (NZ (·.pop)) hS₂ rfl
 refine M' ⟨Ow QL _,key _ _ _ ?_ (fun b u hb e=>?_) hS₃⟩
 ·refine W.frame 0 _ _ st fun b hb u e=>?_
  have hbS:b≠S:=fun z=>hSf (z ▸ hb)
  exact(NF _ _ (Oi hbS)).trans ((NF _ _ (Oi hbS)).trans e)
 exact(NF _ _ (Oi hb)).trans ((NF _ _ (Oi hb)).trans e)
theorem rN{a:M9}{o:Obj}{ks:List Int}{es:Array (Int × M7)}{ep:Nat}{t:N3}{Q:List M7->M_->Prop}(ho:s.heap.get? a=some o)(I:SI prog w o ks es ep t)(hh:A.handled=none)
  (h:∀ h' tk d (vs:List M7),s.heap.objs.size<=h'.objs.size->(∀ b u,s.heap.get? b=some u->h'.get? b=some u)->vs.Perm (es.toList.map (·.2))->Q vs { s with heap:=h',drawn:=d,toks:=tk }):Nb (Ni prog w) A (collect (.ref a)) Q E s:=by
 unfold collect
 refine M6 (Tr (Og F.entry_proto_collect ?_))
 rw[N6 F.plain_proto_collect _]
 show Nb _ A.in1 (Va [] >>= fun l=>again (.builtin "list.__iadd__" ⟨[l,.ref a],[]⟩)) _ _ s
 refine M6 (ND ?_)
 refine M' ⟨Ow Sh _,Og F.entry_list_iadd ?_⟩
 rw[N6 Sh _]
 have hS:(s.heap.push { cls:=.type "list",data:=.seq ([]:List M7).toArray }).get? s.heap.objs.size=some { cls:=.type "list",data:=.seq ([]:List M7).toArray }:=Nf _ rfl
 have hne:s.heap.objs.size≠a:=JE (Ng ho)
 have fin:∀(s':M_) (h':Nr) (tk:Nat) (d:T7) (acc:Array M7) (c:Nat),s'={ s with heap:=h',drawn:=d,toks:=tk }->(∀ b u,s.heap.get? b=some u->h'.get? b=some u)->h'.get? s.heap.objs.size=some { cls:=.type "list",dict:=none,data:=.seq acc c,slots:=#[] }->acc.toList.Perm (es.toList.map (·.2))->
   Nb (Ni prog w) A (load s.heap.objs.size >>= fun o=>match o.data with
    | .seq xs _=>pure xs.toList
    | _=>unsupported "internal:collect") Q E s':=fun s' h' tk d acc c es' kp e it=>by
  subst es'
  refine M6 (SJ e ?_)
  exact M' (h h' tk d _ (IJ (Ng e)) kp it)
 refine Nz (BG (s:={ s with heap:=s.heap.push { cls:=.type "list",data:=.seq ([]:List M7).toArray } }) (R:=fun r s'=>∃(h':Nr) (tk:Nat) (d:T7) (acc:Array M7) (c:Nat),r=.ok (.ret (.ref s.heap.objs.size))/\s'={ s with heap:=h',drawn:=d,toks:=tk }/\(∀ b u,s.heap.get? b=some u->h'.get? b=some u)/\h'.get? s.heap.objs.size=some { cls:=.type "list",dict:=none,data:=.seq acc c,slots:=#[] }/\acc.toList.Perm (es.toList.map (·.2)))
  (Na _ ho) I hh s.heap.objs.size hne (.ref s.heap.objs.size) 0 hS (fun h' tk d acc c kp e it=>⟨h',tk,d,acc,c,rfl,rfl,fun b u eb=>kp b u (q_ (Ng eb)) (Na _ eb),e,it⟩)) (fun fn s' hf=>?_) (fun e s' hf=>?_)
 ·cases fn with
  | done f=>
   obtain⟨h',tk,d,acc,c,ef,es',kp,e,it⟩:=hf
   cases ef
   exact fin s' h' tk d acc c es' kp e it
  | again c'=>
   refine⟨hf.1,OF hf.2 fun r s'' hr=>?_⟩
   obtain⟨h',tk,d,acc,c,er,es',kp,e,it⟩:=hr
   subst er
   exact fin s'' h' tk d acc c es' kp e it
 obtain⟨_,_,_,_,_,ef,_⟩:=hf
 cases ef
end
open PySem PyProof.Rows
section
variable{prog:Nl}{w:Nq}{A:Nw}{R:RX->M_->Prop}{I:M9}{fp wr:List M9}{G:Array Sr->Array Sr->Prop}{n:Nat}{P:Nat->M7->Prop}{St:Nat->M_->Prop}
theorem SG.at {h h':Nr}{a:M9}{S:Int->Prop}{m:Nat}(x:SG prog w h a S m)(k:∀ o,h.get? a=some o->h'.get? a=some o):SG prog w h' a S m:=let ⟨o,ks,es,ep,t,e,r⟩:=x;⟨o,ks,es,ep,t,k _ e,r⟩
theorem SG.congr {h:Nr}{a:M9}{S S':Int->Prop}{m:Nat}(x:SG prog w h a S m)(k:∀ z,S z↔S' z):SG prog w h a S' m:=let ⟨o,ks,es,ep,t,e,r,q⟩:=x;⟨o,ks,es,ep,t,e,r,fun z=>(q.1 z).trans (k z),q.2⟩
theorem yZ(W:WalksS prog w A.in1 I fp wr G n P St)(S:M9)(hSf:S ∉ fp)(val:Nat->Int)(hval:∀ i v,P i v->∃ t,v=.int (val i) t)(hb:n + 1 < scanBound) :
  ∀(k i:Nat) (s:M_),n - i=k->i<=n->St i s->SG prog w s.heap S (fun z=>∃ j,j < i/\val j=z) i->(∀ s',Moved (S::wr) G s s'->SG prog w s'.heap S (fun z=>∃ j,j < n/\val j=z) n->R (.ok (.ret .none)) s')->Om (Ni prog w) A (.builtin "set.update.loop" ⟨[.ref S,.ref I],[]⟩) R s:=by
 have hSw:S ∉ wr:=fun h=>hSf (W.sub _ h)
 have hsub:∀ b∈wr,b∈S::wr:=fun b hb=>l_ _ hb
 intro k
 induction k with
 | zero=>
  intro i s hk hi hst hS hR
  obtain rfl:i=n:=by omega
  refine Og Q1 ?_
  rw[N6 P0 _]
  show Nb _ A.in1 (OR (.ref I) >>= _) _ _ s
  refine M6 (W.done s _ _ hst fun s' hm=>?_)
  show Nb _ A.in1 (ret NR) _ _ s'
  exact M' (hR s' (hm.mono hsub) (hS.at fun o e=>hm.heap S _ hSw e))
 | succ k ih=>
  intro i s hk hi hst hS hR
  have hlt:i < n:=by omega
  refine Og Q1 ?_
  rw[N6 P0 _]
  show Nb _ A.in1 (OR (.ref I) >>= _) _ _ s
  refine M6 (W.item i s _ _ hlt hst fun v s' hP hst' hm=>?_)
  obtain⟨t,rfl⟩:=hval i v hP
  have hS':=hS.at (h':=s'.heap) fun o e=>hm.heap S _ hSw e
  show Nb _ A.in1 (Pt [PD (val i) t] (setAdd S (.int (val i) t)) >>= _) _ _ s'
  refine M6 (Ny ?_)
  unfold setAdd
  refine Ny (M6 ((O' prog w).pyHash (k:=val i) (RH _ _ _ _) ?_))
  refine add_int (s:={ s' with toks:=s'.toks + 1 }) hS' (by omega) fun _ h' sb hS2=>?_
  have hSi:SG prog w h' S (fun z=>∃ j,j < i + 1/\val j=z) (i + 1):=hS2.congr fun z=>⟨fun q=>q.elim (fun⟨j,a,b⟩=>⟨j,by omega,b⟩) fun e=>⟨i,by omega,e.symm⟩,fun⟨j,a,b⟩=>by
   by_cases c:j=i
   ·exact .inr (by rw[<-b,c])
   exact .inl ⟨j,by omega,b⟩⟩
  refine M' ⟨Ow P0 _,ih (i + 1) _ (by omega) hlt (W.frame _ s' _ _ hst' (JS _) fun b hb o e=>?_) hSi fun s'' hm'' hS''=>?_⟩
  ·rw[sb.2 b (fun h:b=S=>hSf (by rw[<-h];exact hb))]
   exact e
  refine hR s'' (Moved.trans W.gtrans ((hm.mono hsub).then_heap (JS _) fun b o hb e=>?_) hm'') hS''
  rw[sb.2 b (fun h:b=S=>hb (by rw[h];exact r_))]
  exact e
end
section
variable{prog:Nl}{w:Nq}{A:Nw}{E:M7->M_->Prop}{s:M_}
abbrev nob(w:Nq):Obj:={ cls:=.type "set",dict:=none,data:=.set #[] 0 (.fresh 0 0 (!bt w)) }
theorem Ah(a:M7){Q:M7->M_->Prop}(h:Q (.ref s.heap.objs.size) { s with heap:=s.heap.push (nob w) }):Om (Ni prog w) A (.call (.builtin "set.__new__") ⟨[.type "set",a],[]⟩) (wants Q E) s:=by
 refine S8 ?_
 show Nb _ A.in1 (SD "set.__new__" ⟨[.type "set",a],[]⟩ >>= fun _=>again (.builtin "set.__new__" ⟨[.type "set",a],[]⟩)) _ _ s
 refine M6 (Pc (F.newCall_set_1 a) (M' ⟨Ow S9 _,Og F.entry_set_new ?_⟩))
 rw[N6 S9 _]
 unfold Oy.«set.__new__» T4
 have hsub:=sub_set_self
 obtain⟨hp,g,d,tk,os⟩:=s
 dsimp only
 wp_walk
 refine QZ (M' ?_)
 dsimp only
 simp only[newObj]
 refine M6 (U7 (M' ?_))
 exact M' h
theorem De{h:Nr}:SG prog w (h.push (nob w)) h.objs.size (fun _=>False) 0:=
 ⟨_,[],#[],0,_,Nf _ rfl,⟨⟨rfl,rfl,rfl⟩,rfl,fun e he=>(nomatch he),.nil,J_,by decide,rfl,xv _ _ _⟩,fun z=>⟨(nomatch ·),Nu⟩,d_ _⟩
set_option maxHeartbeats 3200000 in
theorem y3{l:M9}{items:Array M7}{ns:List Int}{Q:M7->M_->Prop}(hh:A.handled=none)(hl:s.heap.IsList l items)(hi:IntsAre items.toList ns)(hb:items.size + 1 < scanBound)
  (h:∀(h':Nr) (tk:Nat),SG prog w h' s.heap.objs.size (fun z=>z∈ns) items.size->(∀ b o,b < s.heap.objs.size->s.heap.get? b=some o->h'.get? b=some o)->Q (.ref s.heap.objs.size) { s with heap:=h',toks:=tk }) :
  Nb (Ni prog w) A (call (.type "set") [.ref l]) Q E s:=by
 obtain⟨c,tl,hmro⟩:=O6.mro
 have hmade:=O6.made
 have hsub:=O6.sub
 refine SM (S8 ?_)
 show Nb _ _ (callAny (.type "set") _) _ _ _
 refine M' ⟨Code.quiet_builtin _ (by decide +kernel),Og F.entry_type_call ?_⟩
 rw[Around.under_plain (weight_type_call_type "set" [.ref l] []) rfl]
 have h1:=O6.notType
 have h2:=O6.canCreate
 have hct:=F.typeCall_set_1 (.ref l)
 repeat (any_goals (first | assumption | wp_step))
 refine OF (Ah (.ref l) (E:=E) (Q:=fun obj s₁=>obj=.ref s.heap.objs.size/\s₁={ s with heap:=s.heap.push (nob w) }) ⟨rfl,rfl⟩) fun r s₁ hr=>?_
 cases r with
 | error e=>exact hr
 | ok fl=>
  cases fl with
  | ret obj=>
   obtain⟨rfl,rfl⟩:=hr
   have hS:(s.heap.push (nob w)).get? s.heap.objs.size=some (nob w):=Nf _ rfl
   have hT:Shared.TypeIs { s with heap:=s.heap.push (nob w) } (.ref s.heap.objs.size) "set":=⟨_,hS,rfl⟩
   have hli:=O6.init.lookup
   have hbi:=O6.init.bind (.ref s.heap.objs.size)
   repeat (any_goals (first | assumption | wp_step))
   refine OF (RI (R:=wants (fun r s₂=>r=.none/\∃ h' tk,s₂={ s with heap:=h',toks:=tk }/\SG prog w h' s.heap.objs.size (fun z=>z∈ns) items.size/\(∀ b o,b < s.heap.objs.size->s.heap.get? b=some o->h'.get? b=some o)) E) O6.init.plain F.entry_set_init (check_set_init_1 hT ?_)) fun r₂ s₂ hr₂=>?_
   ·obtain⟨ol,hol,hcl,nl,hdl⟩:=hl
    obtain⟨ocls,odict,odata,oslots⟩:=ol
    simp only at hcl hdl
    subst hcl;subst hdl
    have hol':(s.heap.push (nob w)).get? l=some { cls:=.type "list",dict:=odict,data:=.seq items nl,slots:=oslots }:=Na _ hol
    have hsls:=F.sub_list_set
    have hslf:=F.sub_list_frozenset
    have hne:(Ob "list" == Ob "dict")=false:=by decide
    have hl1:(s.heap.push (nob w)).IsList l items:=⟨_,hol',rfl,nl,rfl⟩
    unfold Oy.«set.__init__» noKeywords Ts
    generalize hPI:P6=PI
    wp_walk
    subst hPI
    refine Of hl1 ?_
    refine M6 (Tr ?_)
    have hlS:l < s.heap.objs.size:=Ng hol
    have hh3:A.in1.in1.in1.handled=none:=by simp[hh]
    have hneI:l≠(s.heap.push (nob w)).objs.size:=by rw[NG];exact q_ (LC hlS)
    have hSf:s.heap.objs.size ∉ [(s.heap.push (nob w)).objs.size,l]:=by
     rw[NG]
     simp only[u_,C',LR,or_false,not_or]
     exact⟨q_ (Kk _),JE hlS⟩
    have hval:∀(i:Nat) (v:M7),items[i]?=some v->∃ t,v=.int ((fun i=>ns.getD i 0) i) t:=fun i v hv=>IntsAre.int_at hi i v (by rw[fk];exact hv)
    refine yZ ((QJ hh3 _ l hneI items).toS) s.heap.objs.size hSf (fun i=>ns.getD i 0) hval hb (items.size - 0) 0 _ (by omega) (F_ _) ⟨⟨_,Nf _ rfl,rfl,rfl⟩,(hl1.push _)⟩ ?hS0 ?hR
    case hS0=>exact(De.at fun o e=>Na _ e).congr fun z=>⟨Nu,fun⟨j,a,_⟩=>absurd a (by omega)⟩
    case hR=>
     intro s' hm hS'
     obtain⟨h',g',d',tk',os'⟩:=s'
     have eg:g'=s.gens:=hm.gens
     have ed:d'=s.drawn:=hm.drawn
     have eo:os'=s.os:=hm.os
     subst eg;subst ed;subst eo
     refine M' ?_
     show Nb _ _ (ret NR) _ _ _
     have nl:items.size=ns.length:=by rw[<-hC hi,gV]
     refine M' ⟨rfl,h',tk',rfl,hS'.congr fun z=>⟨fun⟨j,a,b⟩=>?_,fun q=>?_⟩,fun b o hb e=>?_⟩
     ·rw[<-b,C_,a_ (by omega)]
      exact I_ _
     ·obtain⟨j,a,b⟩:=Jk.mp q
      exact⟨j,by omega,by rw[C_,a_ a];exact b⟩
     refine hm.heap b o ?_ (Na _ (Na _ e))
     rw[NG]
     simp only[u_,C',LR,or_false,not_or]
     exact⟨q_ hb,q_ (LC hb)⟩
   ·cases r₂ with
    | error e=>exact hr₂
    | ok fl₂=>
     cases fl₂ with
     | ret r=>
      obtain⟨rfl,h',tk,rfl,hS',hk'⟩:=hr₂
      repeat (any_goals (first | assumption | wp_step))
      exact h _ _ hS' hk'
     | _=>exact hr₂.elim
  | _=>exact hr.elim
end
open PySem PyProof.Rows
section
variable{prog:Nl}{w:Nq}{A:Nw}{E:M7->M_->Prop}{s:M_}
theorem j5:∀ {vs:List M7} {ns:List Int},IntsAre vs ns->vs.map ZS.rD=ns/\∀ v∈vs,∃ i t,v=.int i t/\i∈ns
 | _,_,.nil=>⟨rfl,fun v h=>(nomatch h)⟩
 | _,_,.cons n t h=>by
  obtain⟨a,b⟩:=j5 h
  refine⟨by rw[k_,a];rfl,fun v hv=>?_⟩
  rcases u_.mp hv with e | hv
  ·exact⟨n,t,e,.head _⟩
  obtain⟨i,u,e,m⟩:=b v hv
  exact⟨i,u,e,.tail _ m⟩
theorem sk{a:M9}{o:Obj}{ks:List Int}{es:Array (Int × M7)}{ep:Nat}{t:N3}{Q:M7->M_->Prop}(ho:s.heap.get? a=some o)(I:SI prog w o ks es ep t)(hh:A.handled=none)
  (h:∀(out:List M7) (ms:List Int) p c h' tk d,IntsAre out ms->ms.Perm ks->ms.Pairwise (·<=·)->s.heap.objs.size<=p->(∀ b u,s.heap.get? b=some u->h'.get? b=some u)->h'.get? p=some (OK "list" out.toArray c)->Q (.ref p) { s with heap:=h',drawn:=d,toks:=tk }) :
  Nb (Ni prog w) A (call (.builtin "sorted") [.ref a]) Q E s:=by
 refine QK kind_sorted plain_sorted entry_sorted (args_sorted1 _) ?_
 unfold Oy.«sorted»
 refine M6 (m:=checkCount "sorted" 1 1 _) (M' ?_)
 refine M6 (rN ho I hh fun h0 tk d vs le k0 pm=>?_)
 obtain⟨ns,hI,kp⟩:=eU pm.symm I.rd
 obtain⟨keys,each⟩:=j5 hI
 have hz:vs.length<=sizeLine:=by rw[pm.length_eq,b_,gV];exact Pg I.sm
 refine M6 (Qb ?_ hz)
 have hoL:(h0.push (OK "list" vs.toArray 0)).get? h0.objs.size=some (OK "list" vs.toArray 0):=Nf _ rfl
 have keep:∀ b o,s.heap.get? b=some o->(h0.push (OK "list" vs.toArray 0)).get? b=some o:=fun b o q=>Na _ (k0 b o q)
 show Nb _ _ _ _ _ { s with heap:=h0.push (OK "list" vs.toArray 0),drawn:=d,toks:=tk }
 have ne:∀ b o,s.heap.get? b=some o->b≠h0.objs.size:=fun b o e=>q_ (Ng (k0 b o e))
 generalize h0.push (OK "list" vs.toArray 0)=h1 at hoL keep ⊢
 refine M6 (Ny (Oc slot_list_sort ⟨_,hoL,rfl⟩ entry_list_sort ?body (args_list_sort _)))
 case body=>
  refine ZS.wc (s:={ s with heap:=h1,drawn:=d,toks:=tk }) (kd:=Sy) (rk:=fun x=>ZS.rnk ZS.ltI ns (ZS.rD x.1)) (S:=fun x=>x.1∈vs) hoL hz (fun v hv=>hv) (fun h' k {Q} hne q=>?_) (fun h' k=>ZS.zG fun x hx=>each _ hx) fun out c h' g1 g2 g3 g4=>?_
  ·obtain⟨v1,vs',ev⟩:=List.exists_cons_of_ne_nil hne
   rw[ev]at hI ⊢
   exact ZS.xh hI q
  obtain⟨ms,om,mp⟩:=eU g1.symm hI
  have eo:=(j5 om).1
  refine⟨_,rfl,M' ⟨_,rfl,h out ms _ c h' tk d om (mp.symm.trans kp.symm) ?_ le (fun b u e=>g3 b u (ne b u e) (keep b u e)) g4⟩⟩
  rw[<-eo,KS]
  refine LP (fun{x y} hx hy hxy=>?_) g2
  by_cases z:ZS.rD x<=ZS.rD y
  ·exact z
  have:=ZS.zb ZS.GV (ks:=ns) (a:=ZS.rD y) (b:=ZS.rD x) (by rw[<-keys];exact Mi (g1.mem_iff.mp hy)) (decide_eq_true (by omega))
  exact absurd this (M4.mpr hxy)
end
end ZT
namespace L2
open PySem PySem.Spec PyProof.Rows
section
variable{X:Cx}
theorem Inv.drw {pins:List (M9 × Obj)}{s:M_}{σ:St}{H:Hp}{d:T7}(I:Inv X pins σ H s):Inv X pins σ H { s with drawn:=d }:=⟨I.ok,I.os,I.bare,I.base,I.loc,I.cell,I.free,I.freeC,I.pin,I.hok,I.len⟩
theorem xW:∀ {vs:List M7} {ns:List Int},IntsAre vs ns->Vals (ns.map V.int) vs
 | _,_,.nil=>.nil
 | _,_,.cons n t h=>.cons ⟨t,rfl⟩ (xW h)
theorem wy{e:Nn}{te:TE}{p1 p2 pos1 pos2:Pos}(hc:X.calm=true)(hg1:Gl X "sorted")(hm1:X.mg "sorted"=none)(hg2:Gl X "set")(hm2:X.mg "set"=none)(he:PE X e te)
  (hs1:Np [e] X.env=[(false,NA e X.env)]:=by rfl) (hs2:Np [.Call (.Name "set" p2) [e] [] pos2] X.env=[(false,NA (.Call (.Name "set" p2) [e] [] pos2) X.env)]:=by rfl) :
  PE X (.Call (.Name "sorted" p1) [.Call (.Name "set" p2) [e] [] pos2] [] pos1) (fun σ H Q=>te σ H fun x H1=>∃ l,∃ ns:List Int,x=.ref l/\SqL X.K H1 l (ns.map V.int)/\ns.length < 4095/\∀ ms:List Int,ms.Pairwise (· < ·)->(∀ z,z∈ms↔z∈ns)->New (.lst (ms.map V.int)) H1 Q):=by
 intro pins s σ H Q I h
 refine N5 (bT I hg1 hm1 boot_sorted (callWith_builtin1 ?_ (by rw[hs2];rfl) rfl))
 rw[hs2]
 refine Ox ?_
 refine N5 (bT I hg2 hm2 boot_set (callWith_type1 ?_ (by rw[hs1];rfl) rfl))
 rw[hs1]
 refine Ox (thn (he pins s σ H _ I h) ?_)
 rintro u s1 ⟨x,H1,I1,r1,l,ns,ex,hl,hz,q⟩
 subst ex
 cases r1
 obtain⟨its,rv,pl,_⟩:=I1.list hl
 have hI:=intsAre_of rv
 have ln:=ZT.hC hI
 refine M' (ZT.y3 (items:=its.toArray) (ns:=ns) (I1.ok.hd hc) pl.isList hI (by unfold scanBound;rw[p_];omega) fun h' tk SG kp=>?_)
 have k1:∀ b o,s1.heap.get? b=some o->h'.get? b=some o:=fun b o e=>kp b o (Ng e) e
 have I2:Inv X pins σ H1 { s1 with heap:=h',toks:=tk }:=I1.kept (t':=tk) k1
 obtain⟨o,ks,es,ep,t,ho,SI,mem,_⟩:=SG
 refine M' (ZT.sk ho SI (I2.ok.hd hc) fun out ms p c h2 tk2 d om pm so le k2 e2=>?_)
 have hz2:ms.length<=16777216:=by
  have a:=SI.sm
  have b:=ZT.hC SI.rd
  rw[b_,gV]at b
  rw[pm.length_eq]
  unfold scanBound at a
  omega
 have I3:=(I2.drw (d:=d)).laid (a:=p) (o:=.lst (ms.map V.int)) (t':=tk2) k2 le (show bj X.prog X.w _ h2 _ (.lst (ms.map V.int))from⟨by rw[b_];exact hz2,out,c,xW om,e2⟩)
 refine⟨.ref p,_,I3,rfl,(q ms ?_ fun z=>?_).at (I2.hok.fresh le)⟩
 ·have nd:=pm.nodup_iff.mpr SI.nd
  exact(List.Pairwise.and so nd).imp fun⟨a,b⟩=>by omega
 rw[pm.mem_iff]
 exact mem z
end
end L2
namespace PL
open PySem PySem.Spec PyProof.Rows L2
section
variable{X:Cx}
noncomputable def GZ:T->(T->Prop)->Prop
 | .lst _ ts,k=>got (intsOf ts) fun ns=>ns.length < 4095/\∀ ms:List Int,ms.Pairwise (· < ·)->(∀ z,z∈ms↔z∈ns)->k (.lst true (ms.map T.int))
 | _,_=>False
theorem oB{e:Nn}{fe:PF}{p1 p2 pos1 pos2:Pos}(hc:X.calm=true)(hg1:Gl X "sorted")(hm1:X.mg "sorted"=none)(hg2:Gl X "set")(hm2:X.mg "set"=none)(he:GE X e fe)
  (hs1:Np [e] X.env=[(false,NA e X.env)]:=by rfl) (hs2:Np [.Call (.Name "set" p2) [e] [] pos2] X.env=[(false,NA (.Call (.Name "set" p2) [e] [] pos2) X.env)]:=by rfl) :
  GE X (.Call (.Name "sorted" p1) [.Call (.Name "set" p2) [e] [] pos2] [] pos1) (fUn GZ fe):=by
 refine PE.imp (wy hc hg1 hm1 hg2 hm2 he hs1 hs2) ?_
 rintro σ H Q ⟨env,Fr,k,rs,q,c⟩
 refine⟨env,Fr,_,rs,q,fun t env1 v H1 q1 rs1=>?_⟩
 cases t <;> first | exact Nu q1 | skip
 obtain⟨ns,en,z,g⟩:=aH q1
 have et:=iP en
 subst et
 obtain⟨a,vs,rfl,hq,l,rp⟩:=aD rfl rs1.head
 have ev:=gP l rp
 subst ev
 exact⟨a,ns,rfl,hq,z,fun ms h1 h2 p H' hp g' e=>c _ _ _ _ (g ms h1 h2) (.of rs1.1 (dG (nY ms rs1.drop.2) (by rw[b_,b_]) hp g' e))⟩
theorem kh{o:Bool}{ts:List T}{k:T->Prop}:GZ (.lst o ts) k=cv (intsOf ts) (k:=⟨fun ns=>ns.length < 4095/\∀ ms:List Int,ms.Pairwise (· < ·)->(∀ z,z∈ms↔z∈ns)->k (.lst true (ms.map T.int))⟩):=rfl
end
end PL
namespace ZN
open PySem
def Ka(h0 h:Nr):Prop:=∀ b o,h0.get? b=some o->h.get? b=some o
section
variable{prog:Nl}{w:Nq}{A:Nw}{R:RX->M_->Prop}{I:M9}{fp wr:List M9}{n:Nat}{vs:Array M7}{St:Nat->Nr->Prop}{h0:Nr}{bt:Nat->Nat->Bool}{kw:List (Str × M7)}
noncomputable def Cm(prog:Nl)(w:Nq)(A:Nw)(h0:Nr)(vs:Array M7)(bt:Nat->Nat->Bool):Prop:=∀(i j:Nat) (x y:M7) (z:M_) (Q:M7->M_->Prop) (E:M7->M_->Prop),vs[i]?=some x->vs[j]?=some y->Ka h0 z.heap->Q (.bool (bt i j)) z->Nb (Ni prog w) A (U8 .Lt x y) Q E z
theorem lpN(W:S6 prog w A.in1 I fp wr n (fun i v=>vs[i]?=some v) St)(cm:Cm prog w A.in1 h0 vs bt)(S:M9)(off:S ∉ fp)(tk:∀ b o,h0.get? b=some o->b ∉ wr/\b≠S) :
  ∀(k j:Nat) (z:M_) (x:M7) (c:Nat),n - (j + 1)=k->j + 1<=n->St (j + 1) z.heap->vs[Oo bt j]?=some x->Ka h0 z.heap->z.heap.get? S=some { cls:=.type "list",dict:=none,data:=.seq #[x,x] c,slots:=#[] }->
  (∀ y h' t,vs[Oo bt (n - 1)]?=some y->(∀ b o,b ∉ wr->b≠S->z.heap.get? b=some o->h'.get? b=some o)->R (.ok (.ret y)) { z with heap:=h',toks:=t })->
  Om (Ni prog w) A (.builtin "min.loop" ⟨[.ref I,.none,.ref S],kw⟩) R z:=by
 have so:S ∉ wr:=fun h=>off (W.sub _ h)
 have nm:(toString "min"++toString ".loop":String)="min.loop":=by decide
 intro k
 induction k with
 | zero=>
  intro j z x c hk hj st hx kt hS r
  have e:j + 1=n:=by omega
  refine Og Pe ?_
  rw[N6 N7 _]
  show Nb _ A.in1 (PK (.ref S) >>= _) _ _ z
  refine M6 (N4 hS rfl ?_)
  show Nb _ A.in1 (tryCatch (OR (.ref I)) _ >>= _) _ _ z
  refine M6 (PV (W.done z _ _ (e ▸ st) fun h' t kp=>?_))
  have hS':=kp S _ so hS
  show Nb _ A.in1 (R3 S (fun _=>#[]) >>= _) _ _ _
  refine M6 (Pb hS' rfl (M6 (OY (M' ?_))))
  exact r x _ t (by rw[<-e];exact hx) fun b o h1 h2 q=>(NF _ _ (Oi h2)).trans (kp b o h1 q)
 | succ k ih=>
  intro j z x c hk hj st hx kt hS r
  have lt:j + 1 < n:=by omega
  refine Og Pe ?_
  rw[N6 N7 _]
  show Nb _ A.in1 (PK (.ref S) >>= _) _ _ z
  refine M6 (N4 hS rfl ?_)
  show Nb _ A.in1 (tryCatch (OR (.ref I)) _ >>= _) _ _ z
  refine M6 (PV (W.item (j + 1) z _ _ lt st fun y h' t hy st' kp=>?_))
  have hS':=kp S _ so hS
  have kt':Ka h0 h':=fun b o q=>kp b o (tk b o q).1 (kt b o q)
  show Nb _ A.in1 (tryCatch (Pt [y,y] (U8 .Lt y x >>= _)) _ >>= _) _ _ _
  refine M6 (PV (Ny (M6 (cm (j + 1) (Oo bt j) y x _ _ _ hy hx kt' ?_))))
  refine M6 (Ny (Oe ?_))
  refine M6 (OY (M' ?_))
  cases hb:bt (j + 1) (Oo bt j)with
  | true=>
   have ea:Oo bt (j + 1)=j + 1:=by rw[Oo,hb];rfl
   simp only[if_true]
   refine M6 (Pb hS' rfl (M6 (OY ?_)))
   rw[nm]
   refine M' ⟨Ow N7 _,ih (j + 1) _ y _ (by omega) lt (W.frame _ _ _ st' fun b bf o q=>?_) (by rw[ea];exact hy) (fun b o q=>?_) (NK _ hS' rfl) fun y2 h2 t2 g1 g2=>?_⟩
   ·exact(NF _ _ (fun e:S=b=>off (by rw[e];exact bf))).trans q
   ·exact(NF _ _ (Oi (tk b o q).2)).trans (kt' b o q)
   ·exact r y2 h2 t2 g1 fun b o m1 m2 q=>g2 b o m1 m2 ((NF _ _ (Oi m2)).trans (kp b o m1 q))
  | false=>
   have ea:Oo bt (j + 1)=Oo bt j:=by rw[Oo,hb];rfl
   simp only[Jf,if_false]
   refine M6 (OY ?_)
   rw[nm]
   refine M' ⟨Ow N7 _,ih (j + 1) _ x c (by omega) lt st' (by rw[ea];exact hx) kt' hS' fun y2 h2 t2 g1 g2=>?_⟩
   exact r y2 h2 t2 g1 fun b o m1 m2 q=>g2 b o m1 m2 (kp b o m1 q)
theorem ID(W:S6 prog w A.in1 I fp wr n (fun i v=>vs[i]?=some v) St)(cm:Cm prog w A.in1 h0 vs bt)(S:M9)(off:S ∉ fp)(tk:∀ b o,h0.get? b=some o->b ∉ wr/\b≠S)(hn:0 < n){z:M_}{c:Nat}(st:St 0 z.heap)(kt:Ka h0 z.heap)
  (hS:z.heap.get? S=some { cls:=.type "list",dict:=none,data:=.seq #[] c,slots:=#[] })
  (r:∀ y h' t,vs[Oo bt (n - 1)]?=some y->(∀ b o,b ∉ wr->b≠S->z.heap.get? b=some o->h'.get? b=some o)->R (.ok (.ret y)) { z with heap:=h',toks:=t }) :
  Om (Ni prog w) A (.builtin "min.loop" ⟨[.ref I,.none,.ref S],kw⟩) R z:=by
 have so:S ∉ wr:=fun h=>off (W.sub _ h)
 have nm:(toString "min"++toString ".loop":String)="min.loop":=by decide
 refine Og Pe ?_
 rw[N6 N7 _]
 show Nb _ A.in1 (PK (.ref S) >>= _) _ _ z
 refine M6 (N4 hS rfl ?_)
 show Nb _ A.in1 (tryCatch (OR (.ref I)) _ >>= _) _ _ z
 refine M6 (PV (W.item 0 z _ _ hn st fun y h' t hy st' kp=>?_))
 have hS':=kp S _ so hS
 have kt':Ka h0 h':=fun b o q=>kp b o (tk b o q).1 (kt b o q)
 show Nb _ A.in1 (R3 S (fun _=>#[y,y]) >>= _) _ _ _
 refine M6 (Pb hS' rfl ?_)
 rw[nm]
 refine M' ⟨Ow N7 _,lpN W cm S off tk _ 0 _ y _ rfl hn (W.frame _ _ _ st' fun b bf o q=>?_) hy (fun b o q=>?_) (NK _ hS' rfl) fun y2 h2 t2 g1 g2=>?_⟩
 ·exact(NF _ _ (fun e:S=b=>off (by rw[e];exact bf))).trans q
 ·exact(NF _ _ (Oi (tk b o q).2)).trans (kt' b o q)
 exact r y2 h2 t2 g1 fun b o m1 m2 q=>g2 b o m1 m2 ((NF _ _ (Oi m2)).trans (kp b o m1 q))
theorem Hv{d:M7}{nm':Str}(W:S6 prog w A.in1 I fp wr 0 (fun i v=>vs[i]?=some v) St)(S:M9)(off:S ∉ fp){z:M_}{c:Nat}(st:St 0 z.heap)
  (hS:z.heap.get? S=some { cls:=.type "list",dict:=none,data:=.seq #[] c,slots:=#[] })
  (r:∀ h' t,(∀ b o,b ∉ wr->z.heap.get? b=some o->h'.get? b=some o)->R (.ok (.ret d)) { z with heap:=h',toks:=t }) :
  Om (Ni prog w) A (.builtin "min.loop" ⟨[.ref I,.none,.ref S],[(nm',d)]⟩) R z:=by
 refine Og Pe ?_
 rw[N6 N7 _]
 show Nb _ A.in1 (PK (.ref S) >>= _) _ _ z
 refine M6 (N4 hS rfl ?_)
 show Nb _ A.in1 (tryCatch (OR (.ref I)) _ >>= _) _ _ z
 refine M6 (PV (W.done z _ _ st fun h' t kp=>?_))
 exact M6 (OD (M' (r h' t kp)))
end
end ZN
namespace L2
open PySem PySem.Spec PyProof.Rows
section
variable{X:Cx}
def gbI(ns:List Int)(i j:Nat):Bool:=decide (ns.getD i 0 < ns.getD j 0)
theorem BW{prog:Nl}{w:Nq}{A:Nw}{E:M7->M_->Prop}{s:M_}{id:String}{b:Oy}{args:List M7}{kw:List (Str × M7)}{Q:M7->M_->Prop}(hk:builtinKind id=none)(hp:plainId id=true)(hb:Sz Ve id=some b)(ha:QY id ⟨args,kw⟩)
  (hc:Nb (Ni prog w) A.in1 (b ⟨args,kw⟩) (fun fin z=>match fin with
   | .done f=>(match(Except.ok f:RX)with | .ok (.ret v)=>Q v z | .ok _=>False | .error e=>E e z)
   | .again c=>c.quiet=true/\Om (Ni prog w) A c (fun r y=>match r with | .ok (.ret v)=>Q v y | .ok _=>False | .error e=>E e y) z) E s):Nb (Ni prog w) A (call (.builtin id) args kw) Q E s:=by
 refine SM (RI hp hb ?_)
 simp only[SD,hk]
 cases hsig:Vl id with
 | none=>exact M' hc
 | some sig=>
  have e:Bind.checkArgs id sig ⟨args,kw⟩=pure ():=by simpa only[QY,hsig]using ha
  simp only[e]
  exact M' hc
theorem wk(x y:M7):QY "min" ⟨[x],[(N8 "default",y)]⟩:=by unfold QY;kernel_rfl
theorem yd{pins:List (M9 × Obj)}{σ:St}{H:Hp}{s:M_}{a:M9}{ns:List Int}{n0:Int}{t0:Tok}{Q:V->Hp->Prop}(hc:X.calm=true)(I:Inv X pins σ H s)(hq:SqL X.K H a (ns.map V.int))(q:∀ m,(ns=[]/\m=n0\/m∈ns/\∀ n∈ns,m<=n)->Q (.int m) H) :
  Nb (Ni X.prog X.w) X.A (call (.builtin "min") [.ref a] [(N8 "default",.int n0 t0)]) (EP X pins σ Q) X.xe s:=by
 obtain⟨its,rv,p,z⟩:=I.sq (b:=false) hq
 have ia:=pg rv
 have hll:=ZM.DN ia
 have hlt:a < s.heap.objs.size:=by
  obtain⟨o,e,_⟩:=(show s.heap.IsList a _ from p)
  exact Ng e
 have hh:X.A.in1.handled=none:=I.ok.hd hc
 have at_:∀ {l:List M7} {n:List Int},ZM.IntsAre l n->∀(i:Nat) (x:M7),l[i]?=some x->∃ m t,x=.int m t/\n[i]?=some m:=by
  intro l
  induction l with
  | nil=>intro n h i x e;simp at e
  | cons v l ih=>
   intro n h i x e
   cases n with
   | nil=>exact h.elim
   | cons m n=>
    cases i with
    | zero=>obtain⟨⟨t,rfl⟩,_⟩:=h;cases e;exact⟨m,t,rfl,rfl⟩
    | succ i=>exact ih h.2 i x e
 have cm:∀ A:Nw,ZN.Cm X.prog X.w A s.heap its.toArray (gbI ns):=fun A i j x y z Q E hx hy kt qq=>by
  rw[K7]at hx hy
  obtain⟨m,t,rfl,e1⟩:=at_ ia i x hx
  obtain⟨m',t',rfl,e2⟩:=at_ ia j y hy
  refine richCompare_gives (op:=.Lt) (QF z m t) (QF z m' t') PySem.F.slot_int_lt PySem.F.entry_int_lt (PySem.F.args_int_lt_2 _ _) (gives_int_lt m m' t t') (fun z=>nomatch z) ?_
  unfold gbI at qq
  rw[C_,C_,e1,e2]at qq
  exact qq
 have nm:(toString "min"++toString ".loop":String)="min.loop":=by decide
 refine BW PySem.F.kind_min PySem.F.plain_min PySem.F.entry_min (wk _ _) ?_
 show Nb _ X.A.in1 (Qu "min" ["key","default"] 0 ⟨[],[(N8 "default",.int n0 t0)]⟩ >>= _) _ _ s
 refine M6 (Pc (show Qu "min" ["key","default"] 0 ⟨[],[(N8 "default",.int n0 t0)]⟩=pure [none,some (.int n0 t0)]from rfl) (M6 (M' (M6 ?_))))
 refine ZG.E7 (b:=false) p fun g d gs gk=>?_
 refine M6 (ND ?_)
 rw[nm]
 have tk:∀ c o,s.heap.get? c=some o->c ∉ [s.heap.objs.size]/\c≠g.objs.size:=fun c o e=>by
  have h1:@LT.lt Nat instLTNat c s.heap.objs.size:=Ng e
  refine⟨fun z=>q_ h1 (C'.mp z),?_⟩
  rw[gs]
  show ¬(_:Nat)=_
  omega
 have off:g.objs.size ∉ [s.heap.objs.size,a]:=fun z=>by
  rw[gs]at z
  have h1:@LT.lt Nat instLTNat a s.heap.objs.size:=hlt
  rcases u_.mp z with z | z
  ·exact absurd z (by show ¬(_:Nat)=_;omega)
  exact absurd (C'.mp z) (by show ¬(_:Nat)=_;omega)
 refine M' ⟨Ow N7 _,?_⟩
 have st1:(g.push { cls:=.type "list",data:=.seq ([]:List M7).toArray }).IsListIter s.heap.objs.size a 0:=by
  obtain⟨o,e,r⟩:=(show g.IsListIter s.heap.objs.size a 0 from d)
  exact⟨o,Na _ e,r⟩
 have st2:(g.push { cls:=.type "list",data:=.seq ([]:List M7).toArray }).IsList a its.toArray:=by
  obtain⟨o,e,r⟩:=(show s.heap.IsList a _ from p)
  exact⟨o,Na _ (gk _ o e),r⟩
 by_cases hn:ns=[]
 ·subst hn
  have ei:its=[]:=IW hll
  subst ei
  exact ZN.Hv (QJ hh s.heap.objs.size a (q_ hlt) ([]:List M7).toArray) g.objs.size off ⟨st1,st2⟩ (Nf _ rfl) fun h' t kk=>⟨.int n0,H,I.kept (t':=t) fun c o e=>kk c o (tk c o e).1 (Na _ (gk c o e)),⟨_,rfl⟩,q n0 (.inl ⟨rfl,rfl⟩)⟩
 have hpos:0 < its.toArray.size:=by
  rw[p_,hll]
  exact J0 fun z=>hn (IW z)
 refine ZN.ID (QJ hh s.heap.objs.size a (q_ hlt) its.toArray) (cm _) g.objs.size off tk hpos ⟨st1,st2⟩ (fun c o e=>Na _ (gk c o e)) (Nf _ rfl) fun y h' t hy kk=>?_
 have kk':∀ c o,s.heap.get? c=some o->h'.get? c=some o:=fun c o e=>kk c o (tk c o e).1 (tk c o e).2 (Na _ (gk c o e))
 obtain⟨b1,b2⟩:=ZM.AY (bt:=gbI ns) (fun i j k h1 h2=>by
  unfold gbI at h1 h2 ⊢
  have h1:=of_decide_eq_true h1
  have h2:=of_decide_eq_true h2
  exact decide_eq_true (by omega)) (fun i=>by unfold gbI;exact decide_eq_false (by omega)) (its.toArray.size - 1)
 rw[K7]at hy
 obtain⟨m,t',rfl,em⟩:=at_ ia _ _ hy
 refine⟨.int m,H,I.kept (t':=t) kk',⟨_,rfl⟩,q m (.inr ⟨t_ em,fun n hm=>?_⟩)⟩
 obtain⟨j,hj,rfl⟩:=Jk.mp hm
 have this:decide (ns.getD j 0 < ns.getD (Oo (gbI ns) (its.toArray.size - 1)) 0)=false:=b2 j (by rw[p_,hll];omega)
 rw[C_,C_,em,a_ hj]at this
 have:=of_decide_eq_false this
 exact Int.not_lt.mp this
theorem AO{e:Nn}{te:TE}{p1 pos1 kp vp:Pos}{kn:Nat}{n0:Int}(hc:X.calm=true)(hg1:Gl X "min")(hm1:X.mg "min"=none)(he:PE X e te)(hs1:Np [e] X.env=[(false,NA e X.env)]:=by rfl) :
  PE X (.Call (.Name "min" p1) [e] [⟨some "default",(.Constant (.int n0) kn vp),kp⟩] pos1) (fun σ H Q=>te σ H fun x H1=>∃ a ns,x=.ref a/\SqL X.K H1 a (ns.map V.int)/\∀ m,(ns=[]/\m=n0\/m∈ns/\∀ n∈ns,m<=n)->Q (.int m) H1):=by
 intro pins s σ H Q I h
 refine N5 (bT I hg1 hm1 boot_min (callWith_kw ?_ (by rw[hs1];rfl) (by rw[hs1];rfl) rfl rfl))
 rw[hs1]
 refine Ox (thn (he pins s σ H _ I h) ?_)
 rintro u s1 ⟨x,H1,I1,r1,l,ns,ex,hl,q⟩
 subst ex
 cases r1
 refine M' ?_
 refine kws_cons (RU (kws_nil ?_))
 show Nb _ _ (call (.builtin "min") [.ref l] [(N8 "default",.int n0 _)]) _ _ _
 exact yd hc (I1.tok _) hl q
end
end L2
namespace PL
open PySem PySem.Spec PyProof.Rows L2
def FO:P2
 | .int i,.int j,k=>k (.int (OA i j))
 | _,_,_=>False
noncomputable def sU:PM
 | .lst true ts,[.int i],k=>(0<=i/\i < 2 ^ 60)/\got (ts[i.toNat]?) fun t=>k (.lst true (ts.eraseIdx i.toNat)) t
 | _,_,_=>False
def y1:P2
 | .lst true [t],.int n,k=>(0<=n/\n<=100000)/\k (.lst true (w_ n.toNat (er t)))
 | _,_,_=>False
noncomputable def mnD(n0:Int):T->(T->Prop)->Prop
 | .lst _ ts,k=>got (intsOf ts) fun ns=>∀ m,(ns=[]/\m=n0\/m∈ns/\∀ n∈ns,m<=n)->k (.int m)
 | _,_=>False
def HL:T->Option (Int × List Int)
 | .tup [.int n,.lst _ ts]=>(intsOf ts).map fun ns=>(n,ns)
 | _=>none
noncomputable def yw:List T->Option (List (Int × List Int))
 | []=>some []
 | t::r=>match HL t,yw r with
  | some k,some ks=>some (k::ks)
  | _,_=>none
def Gb:PSt:=fun _ _=>False
section
variable{X:Cx}{pos:Pos}{e:Nn}{es:List Nn}{fe:PF}{fr:PFs}{m:PM}{name:Str}{id:String}{apos cpos spos xp yp kp vp p1 pos1:Pos}{x:Str}{κ:Nat->Bool}{kn:Nat}
theorem GB:PIp X .BitOr (ipI fun i j=>OA i j):=by
 intro pins s σ H x y v u Q I r1 r2 h
 obtain⟨i,j,e1,e2,q⟩:=h
 subst e1;subst e2
 obtain⟨t,rfl⟩:=r1
 obtain⟨t',rfl⟩:=r2
 exact ior_int ⟨.int _,H,I.tok _,⟨_,rfl⟩,q⟩
theorem tI:IpP X .BitOr FO:=by
 rintro pins s σ H x y v u Q I rx ry ⟨tx,ty,Γ,k,rp,g,c⟩
 cases tx <;> cases ty <;> first | exact Nu g | skip
 rename_i i j
 rw[aR rp]at ry
 rw[aR rp.tail]at rx
 exact GB pins s σ H _ _ v u Q I rx ry ⟨i,j,rfl,rfl,c _ _ _ g (bP rp.tail.tail fun _=>.int)⟩
theorem nh:∀ {ts:List T} {vs:List V} {i:Nat} {t:T} {w:V},ts[i]?=some t->vs[i]?=some w->(zz ts vs).Perm ((t,some w)::zz (ts.eraseIdx i) (vs.eraseIdx i))
 | [],vs,i,t,w,e,f=>by simp at e
 | t::ts,[],i,_,w,e,f=>by simp at f
 | t::ts,v::vs,0,u,w,e,f=>by cases e;cases f;exact .refl _
 | t::ts,v::vs,i + 1,u,w,e,f=>((nh (ts:=ts) (vs:=vs) (i:=i) e f).cons _).trans (.swap _ _ _)
theorem mX:MtP X "list.pop" sU:=by
 rintro pins s σ H x xs v us Q I rx r ⟨t,ts,Γ,k,l,rp,g,c⟩
 unfold sU at g
 split at g
 ·rename_i k ts i
  obtain⟨y,rfl⟩:=zz1 l rfl
  obtain⟨⟨h0,h1⟩,g⟩:=g
  obtain⟨t,et,kt⟩:=aH g
  obtain⟨a,vs,ea,ha,la,rp2⟩:=dy rp
  cases ea
  have hy:y=.int i:=aR (rp2.perm ((s_ _ _ _).cons _ |>.trans (.swap _ _ _)))
  subst hy
  have hi:i.toNat < ts.length:=(c_.mp et).1
  obtain⟨w,ew⟩:=oa la et
  refine zY pins s σ H _ _ v us Q I rx r ⟨a,vs,i,i.toNat,w,rfl,rfl,ha,by omega,by omega,S_ h0 (by rw[<-la];omega),ew,c _ _ _ _ kt ?_⟩
  have rp3:Rp X.K H ((.bare,some (.ref a))::(zz ts vs++Γ)):=by
   have:Rp X.K H ((.int i,some (.int i))::((.bare,some (.ref a))::(zz ts vs++Γ))):=rp2.perm (by
    refine A_ (.cons _ e_) ?_
    exact .swap _ _ _)
   exact this.tail
  have rp4:Rp X.K H ((.bare,some (.ref a))::(zz (ts.eraseIdx i.toNat) (vs.eraseIdx i.toNat)++((t,some w)::Γ))):=rp3.perm (.cons _ (((nh et ew).append_right Γ).trans e_.symm))
  exact(cZ rp4 (by rw[Kl,Kl,la]) Put.up).perm (.swap _ _ _)
 exact Nu g
theorem uh{H:Hp}{t:T}{v:V}{Γ:Fm}(n:aV t=true):∀(k:Nat),Rp X.K H ((t,some v)::Γ)->Rp X.K H (zz (w_ k t) (w_ k v)++((t,some v)::Γ))
 | 0,h=>h
 | k + 1,h=>by
  have:=uh n k h
  have h2:=iW (this.perm (e_ (l₁:=zz (w_ k t) (w_ k v)))) n
  exact h2.perm (.cons _ e_.symm)
theorem qr:OpP X (NY .Mult) y1:=by
 rintro pins s σ H x y v u Q I rx ry ⟨tx,ty,Γ,k,rp,g,c⟩
 unfold y1 at g
 split at g
 ·rename_i k t n
  rw[aR rp]at ry
  obtain⟨a,vs,ea,ha,la,rp2⟩:=dy rp.tail
  cases ea
  cases vs with
  | nil=>cases la
  | cons w vs=>
   cases vs with
   | cons _ _=>cases la
   | nil=>
    have rp3:Rp X.K H ((t,some w)::Γ):=rp2.tail
    have rp4:=uh (bz t) n.toNat (nV rp3)
    have rp5:Rp X.K H (zz (w_ n.toNat (er t)) (w_ n.toNat w)++Γ):=(rp4.perm e_).tail
    have sz:n.toNat<=sizeLine:=by rw[NI];omega
    refine Dl pins s σ H _ _ v u Q I rx ry ⟨a,n,[w],rfl,rfl,ha,by omega,by omega,by rw[JK,Nat.one_mul];exact sz,fun p hp=>c _ _ _ g.2 ?_⟩
    have ef:(w_ n.toNat [w]).flatten=w_ n.toNat w:=by
     generalize n.toNat=j
     induction j with
     | zero=>rfl
     | succ j ih=>rw[Jh,J6,ih,Jh];rfl
    rw[ef]
    exact dG rp5 (by rw[JJ,JJ]) hp (aT hp _) ay
 exact Nu g
theorem Bo{n0:Int}(hc:X.calm=true)(hg1:Gl X "min")(hm1:X.mg "min"=none)(he:GE X e fe)(hs1:Np [e] X.env=[(false,NA e X.env)]:=by rfl) :
  GE X (.Call (.Name "min" p1) [e] [⟨some "default",.Constant (.int n0) kn vp,kp⟩] pos1) (fUn (mnD n0) fe):=by
 refine PE.imp (AO hc hg1 hm1 he hs1) ?_
 rintro σ H Q ⟨env,Fr,k,rs,q,c⟩
 refine⟨env,Fr,_,rs,q,fun t env1 v H1 q1 rs1=>?_⟩
 cases t <;> first | exact Nu q1 | skip
 obtain⟨ns,en,g⟩:=aH q1
 have:=iP en
 subst this
 obtain⟨a,vs,rfl,hq,l,rp⟩:=aD rfl rs1.head
 have:=gP l rp
 subst this
 exact⟨a,ns,rfl,hq,fun m hm=>c _ _ _ _ (g m hm) (.of rs1.1 (bP rs1.drop.2 fun _=>.int))⟩
theorem AF{st:NN}:GS κ X st Gb:=by
 rintro pins s σ H D I ⟨env,Fr,pe,rs,q,c⟩
 exact q.elim
end
theorem kF{i j:Int}{k:T->Prop}:FO (.int i) (.int j) k=k (.int (OA i j)):=rfl
theorem fg{ts:List T}{i:Int}{k:T->T->Prop}:sU (.lst true ts) [.int i] k=((0<=i/\i < 2 ^ 60)/\cv (ts[i.toNat]?) (k:=⟨fun t=>k (.lst true (ts.eraseIdx i.toNat)) t⟩)):=rfl
theorem hX{t:T}{n:Int}{k:T->Prop}:y1 (.lst true [t]) (.int n) k=((0<=n/\n<=100000)/\k (.lst true (w_ n.toNat (er t)))):=rfl
theorem oh{n0:Int}{o:Bool}{ts:List T}{k:T->Prop}:mnD n0 (.lst o ts) k=cv (intsOf ts) (k:=⟨fun ns=>∀ m,(ns=[]/\m=n0\/m∈ns/\∀ n∈ns,m<=n)->k (.int m)⟩):=rfl
def tP:PM
 | .lst true _,[],k=>k (.lst true []) .non
 | _,_,_=>False
noncomputable def uw(i:Nat)(j:Int)(m:PM)(fr:PFs):PF:=fun env k=>∃ us p t,env[i]?=some (.lst true us)/\ixN us.length j=some p/\us[p]?=some t/\isL t=true/\fr (env.set i .any) fun ts env1=>m t ts fun t' r=>k r (env1.set i (.lst true (us.set p t')))
section
variable{X:Cx}{e:Nn}{es:List Nn}{fr:PFs}{m:PM}{name:Str}{id:String}{apos cpos spos xp yp:Pos}{x:Str}{kn:Nat}
theorem mH:MtP X "list.clear" tP:=by
 rintro pins s σ H x xs v us Q I rx r ⟨t,ts,Γ,k,l,rp,g,c⟩
 unfold tP at g
 split at g
 ·rename_i k ts
  have:xs=[]:=by cases xs with | nil=>rfl | cons _ _=>cases l
  subst this
  obtain⟨a,vs,ea,ha,la,rp2⟩:=dy rp
  cases ea
  have rp3:Rp X.K H ((.bare,some (.ref a))::(zz [] []++Γ)):=((rp2.perm e_.symm).part)
  exact ze pins s σ H _ _ v us Q I rx r ⟨a,vs,rfl,rfl,ha,c _ _ _ _ g (bP (cZ (ts:=[]) (vs:=[]) rp3 rfl Put.up) fun _=>.non)⟩
 exact Nu g
theorem FC{i:Nat}{j:Int}:∀ σ H Q,wE X.K (uw i j m fr) σ H Q->tBM X.K "list" (fun x xs H Q=>∃ t ts Γ k,ts.length=xs.length/\Rp X.K H ((t,some x)::(zz ts xs++Γ))/\m t ts k/\∀ t' r v H',k t' r->Rp X.K H' ((r,some v)::(t',some x)::Γ)->Q v H') (tOp (CT X.K) (AQ i) (tC (.int j))) (wA X.K fr) σ H Q:=by
 rintro σ H Q ⟨env,Fr,k,rs,⟨us,p,t,ei,ep,et,hl,q⟩,c⟩
 obtain⟨x0,ex,rs2⟩:=rs.slot ei
 obtain⟨a,vs,rfl,l,rp⟩:=qP rs2.head
 have rs3:Rs X.K H (env.set i .any) σ ((.lst true (vs.map T.hole),some (.ref a))::(zz us vs++Fr)):=.of rs2.1 (rp.perm (.cons _ (s_ _ _ _)))
 have hp:p < us.length:=(c_.mp et).1
 have ew:vs[p]?=some (vs[p]'(by omega)):=a_ _
 have hq:SqL X.K H a vs:=by
  obtain⟨a',vs',ea,hq,l',rp'⟩:=aD rfl rs3.head
  cases ea
  rw[b_]at l'
  rw[lX rp' l']at hq
  exact hq
 obtain⟨r,p1,p2⟩:=CJ et ew
 refine⟨_,ex,a,vs,j,vs[p],rfl,rfl,hq,?_,?_,env.set i .any,_,_,rs3,q,fun ts env1 ws H1 q1 l1 rs1=>?_⟩
 ·have ep2:ixN vs.length j=some p:=by rw[<-l];exact ep
  unfold atI
  rw[ep2]
  exact ew
 ·refine va hl (Γ:=r++((.lst true (vs.map T.hole),some (.ref a))::((env.set i .any).zip σ++Fr))) (rs3.2.perm ?_)
  refine A_ e_ ?_
  refine A_ ?_ (e_ (l₁:=(t,some vs[p])::r)).symm
  refine .cons _ ?_
  refine A_ (s_ _ _ _) ?_
  exact p1.append_right _
 refine⟨t,ts,env1.zip σ++((.lst true (vs.map T.hole),some (.ref a))::(r++Fr)),_,l1,?_,q1,fun t' r' w H' kt rp5=>c _ _ _ _ kt ?_⟩
 ·refine rs1.2.perm ?_
  refine A_ (s_ _ _ _) ?_
  refine A_ ?_ e_
  refine IL _ ?_
  refine A_ ?_ e_
  refine IL _ ?_
  refine A_ (.cons _ (p1.append_right Fr)) ?_
  exact .swap _ _ _
 have rp6:Rp X.K H' ((.lst true (vs.map T.hole),some (.ref a))::(zz (us.set p t') vs++((r',some w)::(env1.zip σ++Fr)))):=by
  refine rp5.perm ?_
  refine A_ (.swap _ _ _) ?_
  refine A_ ?_ (.cons _ ((p2 t').symm.append_right _))
  refine A_ ?_ (.swap _ _ _)
  refine .cons _ ?_
  refine A_ (.cons _ e_) ?_
  refine A_ (.swap _ _ _) (.cons _ ?_)
  refine A_ (.cons _ (s_ _ _ _)) ?_
  exact e_.symm
 have rp7:=vU (by rw[IE];exact l) rp6
 have rs8:Rs X.K H' env1 σ ((.lst true (us.set p t'),some (.ref a))::((r',some w)::Fr)):=.of rs1.1 (rp7.perm (.cons _ e_.symm))
 exact Rs.dS rs8 (by rw[rs8.1];exact(c_.mp ex).1) ex
theorem wV(i:Nat){j:Int}(slot:Tf "list" name id)(hty:SQ (.builtin id)=pure (.type "method_descriptor"))(hm:MtP X id m)(ha:GA X (e::es) fr)(hN:X.N[i]?=some x:=by rfl)(hv:Vis X.env.scope x:=by first | exact f' rfl | exact i_ (f' rfl) | exact i_ (i_ rfl))(hd:(x ==("__debug__":Str))=false:=by decide)(hcd:(x ==("__classdict__":Str))=false:=by decide)
  (hix:p8 (.Constant (.int j) kn yp):=by intro _ _;rfl)
  (hbase:Qa (.Subscript (.Name x xp) (.Constant (.int j) kn yp) spos) name X.env (NA (.Subscript (.Name x xp) (.Constant (.int j) kn yp) spos) X.env)=NA (.Subscript (.Name x xp) (.Constant (.int j) kn yp) spos) X.env:=by rfl)
  (hfew:((O1 cpos (Np (e::es) X.env)).all (fun x=>!x.1) && (UE cpos (Sl [] X.env)).all (fun x=>x.1.isSome) && decide ((e::es).length + ([]:List Rn).length + (if([]:List Rn).isEmpty then 0 else 1) < 30))=true:=by rfl)
  (hline:(apos.endLine == cpos.line)=true:=by rfl) (hs:Np (e::es) X.env=(false,NA e X.env)::Np es X.env:=by rfl) (hplain:(O1 cpos (Np es X.env)).any (·.1)=false:=by rfl) :
  GE X (.Call (.Attribute (.Subscript (.Name x xp) (.Constant (.int j) kn yp) spos) name apos) (e::es) [] cpos) (uw i j m fr):=PE.imp (Ct PZ slot hty hm (A3 oy (cU hN hv hd hcd) bp hix) ha hbase hfew hline hs hplain) FC
end
theorem eS{ts:List T}{k:T->T->Prop}:tP (.lst true ts) [] k=k (.lst true []) .non:=rfl
end PL
namespace Mp
open PySem L2
def top(i:Nat):NN:=PySem.Challenge.pw_millpath_k64_jobs_put_otherwise.main.body.getD i (.Pass ⟨0,0,0,0⟩)
abbrev iQ:NN:=top 4
abbrev lE:NN:=top 5
abbrev fS:NN:=top 6
abbrev iM:NN:=top 7
abbrev pC:NN:=top 8
abbrev fR:NN:=top 9
abbrev cR:NN:=top 11
abbrev cJ:NN:=top 12
abbrev cf:NN:=top 13
abbrev fX:NN:=top 14
abbrev jS:NN:=top 16
abbrev pF:NN:=top 17
abbrev s_same:NN:=top 18
abbrev sE:NN:=top 19
abbrev df:NN:=top 20
abbrev j8:NN:=top 21
abbrev fY:NN:=top 22
abbrev pE:NN:=top 23
abbrev cu:NN:=top 24
abbrev dY:NN:=top 25
theorem pX{kvs:List (Key × V)}{k:Key}{v:V}:cw ((k,v)::kvs) k=some v:=by
 unfold cw
 rw[IZ,show(decide ((k,v).1=k))=true from decide_eq_true rfl]
 rfl
theorem mV{kvs:List (Key × V)}{k k':Key}{v:V}(h:¬ k=k'):cw ((k,v)::kvs) k'=cw kvs k':=by
 unfold cw
 rw[IZ,show(decide ((k,v).1=k'))=false from decide_eq_false h]
theorem key_ne:¬((NC (some ("cells":Str)):Key)=NC (some ("turn":Str))):=by decide +kernel
def stK(c:M9)(t:Int):List (Key × V):=[(NC (some ("cells":Str)),V.ref c),(NC (some ("turn":Str)),V.int t)]
theorem qH(c:M9)(t:Int):cw (stK c t) (NC (some ("cells":Str)))=some (.ref c):=pX
theorem vd(c:M9)(t:Int):cw (stK c t) (NC (some ("turn":Str)))=some (.int t):=by
 unfold stK
 rw[mV key_ne]
 exact pX
theorem F8(c:M9)(t u:Int):putK (stK c t) (NC (some ("turn":Str))) (.int u)=stK c u:=by
 have e:((stK c t).any fun kv=>decide (kv.1=(NC (some ("turn":Str)):Key)))=true:=by
  rw[gW,vd];rfl
 unfold putK
 rw[if_pos e]
 show [(if(NC (some ("cells":Str)):Key)=NC (some ("turn":Str))then _ else _),(if(NC (some ("turn":Str)):Key)=NC (some ("turn":Str))then _ else _)]=stK c u
 rw[if_neg key_ne,if_pos rfl]
 rfl
structure StAt (H:Hp) (st c:M9) (cs:List Int) (t:Int):Prop where
 d:H st=some (.dK (stK c t))
 l:H c=some (.lst (cs.map V.int))
 pos:0 < cs.length
 len:cs.length<=63
theorem StAt.ne {H:Hp}{st c:M9}{cs:List Int}{t:Int}(S:StAt H st c cs t):st≠c:=Cs S.d S.l (by intro z;cases z)
theorem StAt.same {H H':Hp}{st c:M9}{cs:List Int}{t:Int}(S:StAt H st c cs t)(e:aN H H'):StAt H' st c cs t:=⟨e _ _ S.d,e _ _ S.l,S.pos,S.len⟩
structure Txt (mg:Str->Option M7):Prop where
 len:mg "len"=none
 list:mg "list"=none
 divmod:mg "divmod"=none
 isinstance:mg "isinstance"=none
 dict:mg "dict"=none
 tuple:mg "tuple"=none
 str:mg "str"=none
 int:mg "int"=none
 bool:mg "bool"=none
 all:mg "all"=none
 any:mg "any"=none
 zip:mg "zip"=none
 range:mg "range"=none
 max:mg "max"=none
 min:mg "min"=none
 abs:mg "abs"=none
 sum:mg "sum"=none
 sorted:mg "sorted"=none
 enumerate:mg "enumerate"=none
 set:mg "set"=none
 reversed:mg "reversed"=none
noncomputable def AV(K:M8):Sp:=fun vs H Q _=>∃(a:M9) (ns:List Int),vs=[.ref a]/\SqL K H a (ns.map V.int)/\ns.length<=63/\∀(st c:M9) (cs:List Int) (H':Hp),H st=none->H c=none->StAt H' st c cs 0->aN H H'->Q (.ref st) H'
noncomputable def EF:Sp:=fun vs H Q _=>∃(st c:M9) (cs:List Int) (t m:Int),vs=[.ref st,.int m]/\StAt H st c cs t/\0<=t/\t < 2 ^ 40/\0 < m/\m < 1073741824/\
 ∀(r:Int) (cs':List Int) (H':Hp),0<=r->r < m->StAt H' st c cs' (t + 1)->Kp st c H H'->Q (.int r) H'
section
variable{P:Nl}{w:Nq}{K:M8}{mg:Str->Option M7}{base:Nr}
theorem scB:FnScope ["_law_script","_law_cells"] ["_law_script"] (ak jS):=⟨rfl,rfl,rfl,by decide +kernel,rfl,by decide +kernel,by decide +kernel⟩
theorem A5{f:M9}{fd:NB}(F:Fun K "_law_begin" "_law_begin" jS f fd)(T:Txt mg):FnOk P w K mg base CX0 1 f fd ["_law_script"] (AV K):=by
 refine F.ok scB (fun vs H Q E h=>?_) (fun cdv A outer s H vs Q E hr h=>?_)
 ·obtain⟨a,ns,rfl,_⟩:=h
  rfl
 obtain⟨a,ns,rfl,hS,h63,q⟩:=h
 have sc:=@scB
 refine⟨_,(aO (e7 (i:=1) sc.nd rfl (f' rfl) (nz iE (by rfl) T.list (by decide +kernel) (aq (rq vj (pv 0) vz (um bp)) aZ)))
  (aO (ib (eQ wY (pv 1) (yu aZ) (b7 _)) (bX (e7 (i:=1) sc.nd rfl (f' rfl) (yu (aq bp aZ)))) cB)
  (bX (cQ (B2 (rM fP (pv 1) (rM fP bp BC)) rfl rfl (by intro z;cases z) (by decide)))))),?_⟩
 refine⟨_,rfl,_,rfl,a,_,rfl,hS,fun p hp=>⟨p,_,rfl,.inl (SqL.of ay),fun l hl=>?_⟩⟩
 obtain⟨zs,ez,lz⟩:∃ zs:List Int,eF (ns.map V.int) none (some 63)=zs.map V.int/\zs.length<=63:=by
  refine⟨_,by unfold eF;rw[<-List.map_drop,<-LA],?_⟩
  exact z_ (List.length_take_le' _ _) (z_ (by rw[IS];omega) h63)
 have hp0:H p=none:=hp
 have hl0:H l=none:=(aT hp _).none hl
 have g1:aN H (upd (upd H p (.lst (eF (ns.map V.int) none (some 63)))) l (.lst (eF (ns.map V.int) none (some 63)))):=(aT hp _).trans' (aT hl _)
 refine⟨_,rfl,(by show 0<=sizeLine;decide),fun e he=>?_⟩
 have hul:∀ o,upd (upd (upd H p (.lst (eF (ns.map V.int) none (some 63)))) l (.lst (eF (ns.map V.int) none (some 63)))) e o l=some (.lst (zs.map V.int)):=fun o=>by
  rw[av (b6 ay he),ay,ez]
 have he0:H e=none:=g1.none he
 have g2:=g1.trans' (aT he (.lst []))
 refine⟨.lst (di zs),.lst (di []),rj (SqL.of (hul _)),rj (SqL.of ay),?_,_,rfl,?_⟩
 ·have:=jx hr
  rw[dpt,mM]
  exact this
 have fin:∀(c:M9) (cs:List Int) (H2:Hp),H c=none->aN H H2->H2 c=some (.lst (cs.map V.int))->0 < cs.length->cs.length<=63->∀ p,H2 p=none->StAt (upd (upd H2 p (.dK [])) p (.dK (dQ [] [(NC (some ("cells":Str)),V.ref c),(NC (some ("turn":Str)),V.int 0)]))) p c cs 0/\aN H (upd (upd H2 p (.dK [])) p (.dK (dQ [] [(NC (some ("cells":Str)),V.ref c),(NC (some ("turn":Str)),V.int 0)]))):=fun c cs H2 hc g h1 h2 h3 p hp=>by
  have em:dQ [] [((NC (some ("cells":Str)):Key),V.ref c),(NC (some ("turn":Str)),V.int 0)]=stK c 0:=by
   show putK (putK ([]:List (Key × V)) (NC (some ("cells":Str))) (V.ref c)) (NC (some ("turn":Str))) (V.int 0)=stK c 0
   rw[iz _ (show cw ([]:List (Key × V)) (NC (some ("cells":Str)))=none from rfl),Ku,iz _ (show cw [((NC (some ("cells":Str)):Key),V.ref c)] (NC (some ("turn":Str)))=none by rw[mV key_ne];rfl)]
   rfl
  rw[em,A9]
  exact⟨⟨ay,by rw[av (b6 h1 hp)];exact h1,h2,h3⟩,g.trans' (aT hp _)⟩
 refine Ga (fun c=>?_) (fun c=>?_)
 ·
  refine⟨(by show 1<=sizeLine;decide),fun c7 h7=>?_⟩
  have g3:=g2.trans' (aT h7 (.lst [V.int 7]))
  intro p' hp'
  obtain⟨S,g4⟩:=fin c7 [7] _ (g2.none h7) g3 ay (by decide) (by decide) p' hp'
  refine⟨_,rfl,?_,[(NC (some ("cells":Str)),V.ref c7),(NC (some ("turn":Str)),V.int 0)],rfl,(by show 2<=15;decide),?_⟩
  ·exact ay
  exact q p' c7 [7] _ (g3.none hp') (g2.none h7) S g4
 have c0:0 < zs.length:=by
  cases zs with
  | nil=>rw[gY]at c;cases c
  | cons a r=>exact Nat.succ_pos _
 intro p' hp'
 obtain⟨S,g4⟩:=fin l zs _ hl0 g2 (hul _) c0 lz p' hp'
 refine⟨_,rfl,?_,[(NC (some ("cells":Str)),V.ref l),(NC (some ("turn":Str)),V.int 0)],rfl,(by show 2<=15;decide),?_⟩
 ·exact ay
 exact q p' l zs _ (g2.none hp') hl0 S g4
theorem scT:FnScope ["_law_state","_law_many","_law_turn","_law_place","_law_cell","_law_digit","_law_mixed"] ["_law_state","_law_many"] (ak pF):=⟨rfl,rfl,rfl,by decide +kernel,rfl,by decide +kernel,by decide +kernel⟩
theorem BB{f:M9}{fd:NB}(F:Fun K "_law_take" "_law_take" pF f fd)(T:Txt mg):FnOk P w K mg base CX0 1 f fd ["_law_state","_law_many"] EF:=by
 refine F.ok scT (fun vs H Q E h=>?_) (fun cdv A outer s H vs Q E hr h=>?_)
 ·obtain⟨st,c,cs,t,m,rfl,_⟩:=h
  rfl
 obtain⟨st,c,cs,t,m,rfl,S,ht0,ht,hm0,hm1,q⟩:=h
 have sc:=@scT
 have hu:=jx hr
 refine⟨_,(aO (e7 (i:=2) sc.nd rfl (f' rfl) (bV lK (k6 hu (pv 0) fP (fun _ _=>rfl)) bp))
  (aO (BZ hu (pv 0) fP (pv 2) rfl)
  (aO (e7 (i:=3) sc.nd rfl (f' rfl) (bV iH (pv 2) (aU cD (by rfl) T.len (by decide +kernel) (aq (k6 hu (pv 0) fP (fun _ _=>rfl)) aZ))))
  (aO (e7 (i:=4) sc.nd rfl (f' rfl) (A3 oy (k6 hu (pv 0) fP (fun _ _=>rfl)) (pv 3) (fun _ _=>rfl)))
  (aO (ib (eQ G8 (pv 4) (bV EC bp bp) (b7 _)) (aO (zt (aU qm (by rfl) T.divmod (by decide +kernel) (aq (pv 4) (aq (pv 1) aZ))) (tD rfl (dW (yP (k6 hu (pv 0) fP (fun _ _=>rfl)) (pv 3) set_list) (dW (k9 (i:=5) sc.nd rfl (f' rfl)) nU))))
  (bX (cQ (pv 5)))) cB)
  (aO (e7 (i:=6) sc.nd rfl (f' rfl) (bV iH (bV gn (bV lK (bV lK (bV iH (pv 4) bp) (bV gn (bV gn (pv 2) (pv 2)) bp)) bp) bp) bp))
  (aO (e7 (i:=6) sc.nd rfl (f' rfl) (bV iH (bV gn (pv 6) (pv 6)) bp))
  (bX (cQ (bV iH (bV A8 (bV iH (bV gn (bV lK (pv 6) (bV gn (pv 2) bp)) bp) bp) bp) (pv 1))))))))))),?_⟩
 have D0:jo H st (.str ("turn":Str)) (some (.int t)):=by rw[<-vd c t];exact jo.k (k:=NC (some ("turn":Str))) S.d
 refine⟨_,rfl,st,_,rfl,D0,_,_,rfl,rfl,?_⟩
 have hP:vS H st (.str ("turn":Str)) (.int (t + 1)) (upd H st (.dK (stK c (t + 1)))):=by
  rw[<-F8 c t (t + 1)]
  exact vS.k (k:=NC (some ("turn":Str))) S.d (by show 2 < sizeLine;decide)
 refine⟨_,rfl,_,rfl,st,_,rfl,hP,?_⟩
 have S1:StAt (upd H st (.dK (stK c (t + 1)))) st c cs (t + 1):=⟨ay,by rw[av S.ne.symm];exact S.l,S.pos,S.len⟩
 have K1:Kp st c H (upd H st (.dK (stK c (t + 1)))):=fun b o e n1 n2=>by rw[av n1];exact e
 generalize upd H st (.dK (stK c (t + 1)))=H1 at S1 K1 ⊢
 have D1:jo H1 st (.str ("cells":Str)) (some (.ref c)):=by rw[<-qH c (t + 1)];exact jo.k (k:=NC (some ("cells":Str))) S1.d
 have hl:(cs.map V.int).length=cs.length:=b_ _
 have hpos:(0:Int) < (((cs.map V.int).length:Nat):Int):=by rw[hl];have:=S.pos;omega
 refine⟨_,rfl,_,rfl,st,_,rfl,D1,c,_,rfl,.inl (SqL.of S1.l),_,_,rfl,rfl,hpos,?_⟩
 have j0:0<=(t + 1) % (((cs.map V.int).length:Nat):Int):=Lc _ (by omega)
 have j1:(t + 1) % (((cs.map V.int).length:Nat):Int) < (cs.length:Int):=by
  have:=KH (t + 1) hpos
  rw[hl]at this ⊢
  exact this
 obtain⟨v,hat⟩:∃ v:Int,atI (cs.map V.int) ((t + 1) % (((cs.map V.int).length:Nat):Int))=some (.int v):=⟨_,y4 j0 j1⟩
 refine⟨_,rfl,st,_,rfl,D1,_,rfl,c,_,_,_,rfl,rfl,SqL.of S1.l,hat,?_⟩
 refine⟨_,rfl,_,_,rfl,rfl,⟨by decide,by decide,by decide⟩,_,_,rfl,rfl,_,rfl,?_⟩
 refine Ga (fun hc=>?_) (fun hc=>?_)
 ·
  refine⟨_,rfl,_,rfl,_,_,rfl,⟨hm0,hm1⟩,fun p hp=>?_⟩
  have g:=aT hp (.tup [.int (v / m),.int (v % m)])
  have S2:=S1.same g
  have D2:jo (upd H1 p (.tup [.int (v / m),.int (v % m)])) st (.str ("cells":Str)) (some (.ref c)):=by rw[<-qH c (t + 1)];exact jo.k (k:=NC (some ("cells":Str))) S2.d
  refine⟨p,_,rfl,SqT.of ay,rfl,_,_,rfl,?_⟩
  refine⟨_,rfl,st,_,rfl,D2,_,rfl,c,_,_,((t + 1) % (((cs.map V.int).length:Nat):Int)).toNat,rfl,rfl,S2.l,uH j0 (by rw[hl];rw[hl]at j1;exact j1),?_⟩
  refine⟨_,_,rfl,rfl,?_⟩
  refine⟨_,rfl,?_⟩
  have es:∀ j:Nat,(cs.map V.int).set j (.int (v / m))=(cs.set j (v / m)).map V.int:=fun j=>by rw[KI]
  refine q (v % m) (cs.set ((t + 1) % (((cs.map V.int).length:Nat):Int)).toNat (v / m)) _ (Lc _ (by omega)) (KH _ hm0) ⟨?_,?_,?_,?_⟩ ?_
  ·rw[av S2.ne];exact S2.d
  ·rw[ay,es]
  ·rw[IE];exact S.pos
  ·rw[IE];exact S.len
  intro b o e n1 n2
  rw[av n2]
  exact g b o (K1 b o e n1 n2)
 
 have mulR:∀(x y:Int),-(2 ^ 64) < y->y < 2 ^ 64->vG x y:=fun x y h1 h2=>.inr ⟨h1,h2⟩
 refine⟨_,rfl,_,_,rfl,rfl,(by show(0:Int) < 2147483629;decide),_,rfl,_,rfl,_,_,rfl,rfl,mulR _ _ (by omega) (by omega),_,_,rfl,rfl,mulR _ _ (by decide) (by decide),_,_,rfl,rfl,_,_,rfl,rfl,_,_,rfl,rfl,mulR _ _ (by decide) (by decide),_,_,rfl,rfl,(by show(0:Int) < 2147483647;decide),?_⟩
 generalize hM:(v % 2147483629 + (t + 1) * (t + 1) * 7919 + 11) * 48271 % 2147483647=M
 have m0:0<=M:=by rw[<-hM];exact Lc _ (by decide)
 have m1:M < 2147483647:=by rw[<-hM];exact KH _ (by decide)
 refine⟨_,rfl,_,rfl,_,_,rfl,rfl,mulR _ _ (by omega) (by omega),_,_,rfl,rfl,(by show(0:Int) < 2147483587;decide),?_⟩
 refine⟨_,rfl,_,rfl,_,_,rfl,rfl,mulR _ _ (by decide) (by decide),_,_,rfl,rfl,_,_,rfl,rfl,mulR _ _ (by decide) (by decide),_,_,rfl,rfl,(by show(0:Int) < 2147483629;decide),_,_,rfl,rfl,⟨by decide,by decide⟩,_,rfl,_,_,rfl,rfl,hm0,?_⟩
 exact q _ cs H1 (Lc _ (by omega)) (KH _ hm0) S1 K1
end
mutual
def gd:Dt->Bool
 | .bl _=>false
 | .lst ds=>decide (ds.length<=100000) && gdL ds
 | .tup ds=>decide (ds.length<=100000) && gdL ds
 | _=>true
def gdL:List Dt->Bool
 | []=>true
 | d::r=>gd d && gdL r
end
theorem oE:∀ {ds:List Dt} {i:Nat} {d:Dt},gdL ds=true->ds[i]?=some d->gd d=true
 | [],i,d,_,e=>by simp at e
 | c::r,0,d,h,e=>by
  rw[gdL,H_]at h
  simp at e
  subst e
  exact h.1
 | c::r,i + 1,d,h,e=>by
  rw[gdL,H_]at h
  exact oE h.2 (i:=i) (by simpa using e)
noncomputable def j9(K:M8)(n:Nat):Sp:=fun vs H Q _=>∃(x y:V) (d:Dt),vs=[x,y]/\Has K H d x/\Has K H d y/\gd d=true/\dpt d < n/\∀ H',aN H H'->Q (.bl true) H'
theorem qy{α:Type}(n:Nat)(c:α):(m_ n).map (fun _=>c)=w_ n c:=by
 induction n with
 | zero=>rfl
 | succ n ih=>rw[Kv,A',ih,List.map_singleton,List.replicate_succ']
theorem jD(n:Nat):(m_ n).filter (fun _=>true)=m_ n:=by simp
section
variable{P:Nl}{w:Nq}{K:M8}{mg:Str->Option M7}{base:Nr}
theorem scS:FnScope ["_law_found","_law_due"] ["_law_found","_law_due"] (ak s_same):=⟨rfl,rfl,rfl,by decide +kernel,rfl,by decide +kernel,by decide +kernel⟩
set_option maxHeartbeats 1000000 in
theorem Bq{n:Nat}{f:M9}{fd:NB}(F:Fun K "_law_same" "_law_same" s_same f fd)(T:Txt mg)(G_same:Cal P w K mg base n "_law_same" ["_law_found","_law_due"] (j9 K n)) :
  FnOk P w K mg base CX0 (n + 1) f fd ["_law_found","_law_due"] (j9 K (n + 1)):=by
 refine F.ok scS (fun vs H Q E h=>?_) (fun cdv A outer s H vs Q E hr h=>?_)
 ·obtain⟨x,y,d,rfl,_⟩:=h
  rfl
 obtain⟨x,y,d,rfl,hx,hy,hg,hd,q⟩:=h
 have sc:=@scS
 have nd2:(["_law_one","_law_other"]:List Str).Nodup:=by decide +kernel
 refine⟨_,(aO (ib (DG (yD (pv 1))) (bX (cQ (EZ (yD (pv 0))))) cB)
  (aO (ib (oU (aU aS (by rfl) T.isinstance (by decide +kernel) (aq (pv 1) (aq (cc (v:=.ty (Ty.nm .dct)) (by rfl) T.dict (by decide +kernel) rfl) aZ)))) wQ cB)
  (aO (ib (PW.pt (xV (oU (aU aS (by rfl) T.isinstance (by decide +kernel) (aq (pv 1) (aq (cc (v:=.ty (Ty.nm .lst)) (by rfl) T.list (by decide +kernel) rfl) aZ)))) (sV (oU (aU aS (by rfl) T.isinstance (by decide +kernel) (aq (pv 1) (aq (cc (v:=.ty (Ty.nm .tup)) (by rfl) T.tuple (by decide +kernel) rfl) aZ)))))))
   (aO (ib (eQ zL (aU aS (by rfl) T.isinstance (by decide +kernel) (aq (pv 0) (aq (cc (v:=.ty (Ty.nm .lst)) (by rfl) T.list (by decide +kernel) rfl) aZ))) (aU aS (by rfl) T.isinstance (by decide +kernel) (aq (pv 1) (aq (cc (v:=.ty (Ty.nm .lst)) (by rfl) T.list (by decide +kernel) rfl) aZ))) (b7 _)) (bX (cQ x8)) cB)
   (aO (ib (PW.pt (xV (eQ zL (aU aS (by rfl) T.isinstance (by decide +kernel) (aq (pv 0) (aq (cc (v:=.ty (Ty.nm .tup)) (by rfl) T.tuple (by decide +kernel) rfl) aZ))) (aU aS (by rfl) T.isinstance (by decide +kernel) (aq (pv 1) (aq (cc (v:=.ty (Ty.nm .tup)) (by rfl) T.tuple (by decide +kernel) rfl) aZ))) (b7 _)) (sV (eQ zL (aU cD (by rfl) T.len (by decide +kernel) (aq (pv 0) aZ)) (aU cD (by rfl) T.len (by decide +kernel) (aq (pv 1) aZ)) (b7 _))))) (bX (cQ x8)) cB)
   (bX (cQ (aU (A4 rfl) (by rfl) T.all (by decide +kernel) (aq (qb sc ["_law_one","_law_other"] [none,none] nd2 (by decide +kernel) (D8 (by rfl) T.zip (aq (pv 0) (aq (pv 1) aZ))) (fun _ _ _=>(tD rfl (dW (k9 (i:=0) nd2 rfl (f' rfl) (i_ rfl)) (dW (k9 (i:=1) nd2 rfl (f' rfl) (i_ rfl)) nU)))) (fun _ _ _=>uQ) (fun _ _ _=>(xG G_same hr (by rfl) (aq (pv 0) (aq (pv 1) aZ))))) aZ)))))) cB)
  (aO (ib (oU (aU aS (by rfl) T.isinstance (by decide +kernel) (aq (pv 1) (aq (cc (v:=.ty (Ty.nm .str)) (by rfl) T.str (by decide +kernel) rfl) aZ)))) (bX (cQ (pI (aU aS (by rfl) T.isinstance (by decide +kernel) (aq (pv 0) (aq (cc (v:=.ty (Ty.nm .str)) (by rfl) T.str (by decide +kernel) rfl) aZ))) (sR (pP Cg (pv 0) (pv 1) (b7 _)))))) cB)
  (bX (cQ (pI (aU aS (by rfl) T.isinstance (by decide +kernel) (aq (pv 0) (aq (cc (v:=.ty (Ty.nm .int)) (by rfl) T.int (by decide +kernel) rfl) aZ))) (pI (Dq (aU aS (by rfl) T.isinstance (by decide +kernel) (aq (pv 0) (aq (cc (v:=.ty (Ty.nm .bl)) (by rfl) T.bool (by decide +kernel) rfl) aZ)))) (sR (pP Cg (pv 0) (pv 1) (b7 _))))))))))),?_⟩
 cases d with
 | bl b=>simp[gd]at hg
 | non=>
  rw[Has]at hx hy
  subst hx hy
  refine⟨_,rfl,_,rfl,m9 (by decide) ⟨_,rfl,?_⟩⟩
  exact rg (by decide) (q H .bq)
 | int i=>
  rw[Has]at hx hy
  subst hx hy
  refine⟨_,rfl,_,rfl,bR (by simp) ?_⟩
  refine⟨_,rfl,_,_,.int,[.dct],rfl,.int i,.inl ⟨_,rfl,rfl⟩,_,rfl,bR (by decide) ?_⟩
  refine⟨_,rfl,_,_,.int,[.lst],rfl,.int i,.inl ⟨_,rfl,rfl⟩,_,rfl,bR (by decide) ?_⟩
  refine⟨_,rfl,_,_,.int,[.tup],rfl,.int i,.inl ⟨_,rfl,rfl⟩,_,rfl,bR (by decide) ?_⟩
  refine⟨_,rfl,_,_,.int,[.str],rfl,.int i,.inl ⟨_,rfl,rfl⟩,_,rfl,bR (by decide) ?_⟩
  refine⟨_,rfl,_,_,.int,[.int],rfl,.int i,.inl ⟨_,rfl,rfl⟩,_,rfl,m9 (by decide) ?_⟩
  refine⟨_,rfl,_,_,.int,[.bl],rfl,.int i,.inl ⟨_,rfl,rfl⟩,_,rfl,_,rfl,m9 (by decide) ?_⟩
  refine⟨_,rfl,_,rfl,rfl,?_⟩
  exact rg (by simp) (q H .bq)
 | str i=>
  rw[Has]at hx hy
  subst hx hy
  refine⟨_,rfl,_,rfl,bR (by simp) ?_⟩
  refine⟨_,rfl,_,_,.str,[.dct],rfl,.str i,.inl ⟨_,rfl,rfl⟩,_,rfl,bR (by decide) ?_⟩
  refine⟨_,rfl,_,_,.str,[.lst],rfl,.str i,.inl ⟨_,rfl,rfl⟩,_,rfl,bR (by decide) ?_⟩
  refine⟨_,rfl,_,_,.str,[.tup],rfl,.str i,.inl ⟨_,rfl,rfl⟩,_,rfl,bR (by decide) ?_⟩
  refine⟨_,rfl,_,_,.str,[.str],rfl,.str i,.inl ⟨_,rfl,rfl⟩,_,rfl,m9 (by decide) ?_⟩
  refine⟨_,rfl,_,_,.str,[.str],rfl,.str i,.inl ⟨_,rfl,rfl⟩,_,rfl,m9 (by decide) ?_⟩
  refine⟨_,rfl,_,rfl,rfl,?_⟩
  exact rg (by simp) (q H .bq)
 | lst ds=>
  rw[Has]at hx hy
  obtain⟨a,xs,rfl,s1,l1⟩:=hx
  obtain⟨b,ys,rfl,s2,l2⟩:=hy
  have m1:=l1.len
  have m2:=l2.len
  have hg2:ds.length<=100000/\gdL ds=true:=by simpa[gd]using hg
  have hd2:bH ds < n:=by rw[dpt]at hd;omega
  refine⟨_,rfl,_,rfl,bR (by simp) ?_⟩
  refine⟨_,rfl,_,_,.lst,[.dct],rfl,.lst s2,.inl ⟨_,rfl,rfl⟩,_,rfl,bR (by decide) ?_⟩
  refine⟨_,rfl,_,_,.lst,[.lst],rfl,.lst s2,.inl ⟨_,rfl,rfl⟩,_,rfl,m9 (by decide) ?_⟩
  refine⟨_,rfl,_,_,.lst,[.lst],rfl,.lst s1,.inl ⟨_,rfl,rfl⟩,_,rfl,_,_,.lst,[.lst],rfl,.lst s2,.inl ⟨_,rfl,rfl⟩,rfl,_,rfl,bR (by simp) ?_⟩
  refine⟨_,rfl,_,_,.lst,[.tup],rfl,.lst s1,.inl ⟨_,rfl,rfl⟩,_,rfl,_,_,.lst,[.tup],rfl,.lst s2,.inl ⟨_,rfl,rfl⟩,rfl,_,rfl,bR (by simp) ?_⟩
  refine⟨_,rfl,a,_,rfl,.inl s1,_,rfl,b,_,rfl,.inl s2,rfl,_,rfl,bR (by rw[<-m1,<-m2];simp) ?_⟩
  refine⟨_,rfl,_,rfl,false,a,false,b,rfl,⟨xs,s1⟩,⟨ys,s2⟩,qT (K:=K) (fun σ'=>σ'.length=2) ds.length (by have:=hg2.1;show ds.length < 2 ^ 24;omega) (fun _=>.bl true) (fun _=>true) (fun _=>by simp[qM]) rfl
   (xk (b1:=false) (b2:=false) s1 s2 m1.symm m2.symm) (qR (b1:=false) (b2:=false) s1 s2 m1.symm m2.symm) ?_ ?_⟩
  ·intro s3 H3' fp i σ' H' hi ok sm x H2 hy Nx Ap _ hA
   obtain⟨p',u,v,rfl,sm2,hp',hu,hv⟩:=ue (b1:=false) (b2:=false) s1 s2 sm hy
   obtain⟨z0,z1,rfl⟩:∃ z0 z1,σ'=[z0,z1]:=by
    match σ',ok with
    | [z0,z1],_=>exact⟨z0,z1,rfl⟩
   have sm3:=sm.trans' sm2
   refine⟨p',_,rfl,SqT.of hp',rfl,u,[v],rfl,v,[],rfl,rfl,?_⟩
   refine qC ?_
   refine⟨_,rfl,_,rfl,u,v,ds[i],rfl,Has.same sm3 (l1.get (a_ hi) hu),Has.same sm3 (l2.get (a_ hi) hv),oE hg2.2 (a_ hi),Je (i5 (a_ hi)) hd2,fun H5 s5=>?_⟩
   exact hA rfl _ _ H5 rfl (sm2.trans' s5) (by rw[Has])
  ·intro p acc H' hp sm hacc hl
   have e:((m_ ds.length).filter fun _=>true).map (fun _=>Dt.bl true)=(w_ ds.length true).map Dt.bl:=by rw[jD,qy,KJ]
   rw[e]at hl
   have hb:=gy hl
   rw[hb]at hacc
   refine⟨p,_,rfl,SqL.of hacc,?_⟩
   exact rg (by simp) (q H' sm)
 | tup ds=>
  rw[Has]at hx hy
  obtain⟨a,xs,rfl,s1,l1⟩:=hx
  obtain⟨b,ys,rfl,s2,l2⟩:=hy
  have m1:=l1.len
  have m2:=l2.len
  have hg2:ds.length<=100000/\gdL ds=true:=by simpa[gd]using hg
  have hd2:bH ds < n:=by rw[dpt]at hd;omega
  refine⟨_,rfl,_,rfl,bR (by simp) ?_⟩
  refine⟨_,rfl,_,_,.tup,[.dct],rfl,.tup s2,.inl ⟨_,rfl,rfl⟩,_,rfl,bR (by decide) ?_⟩
  refine⟨_,rfl,_,_,.tup,[.lst],rfl,.tup s2,.inl ⟨_,rfl,rfl⟩,_,rfl,bR (by decide) ?_⟩
  refine⟨_,rfl,_,_,.tup,[.tup],rfl,.tup s2,.inl ⟨_,rfl,rfl⟩,_,rfl,m9 (by decide) ?_⟩
  refine⟨_,rfl,_,_,.tup,[.lst],rfl,.tup s1,.inl ⟨_,rfl,rfl⟩,_,rfl,_,_,.tup,[.lst],rfl,.tup s2,.inl ⟨_,rfl,rfl⟩,rfl,_,rfl,bR (by simp) ?_⟩
  refine⟨_,rfl,_,_,.tup,[.tup],rfl,.tup s1,.inl ⟨_,rfl,rfl⟩,_,rfl,_,_,.tup,[.tup],rfl,.tup s2,.inl ⟨_,rfl,rfl⟩,rfl,_,rfl,bR (by simp) ?_⟩
  refine⟨_,rfl,a,_,rfl,.inr s1,_,rfl,b,_,rfl,.inr s2,rfl,_,rfl,bR (by rw[<-m1,<-m2];simp) ?_⟩
  refine⟨_,rfl,_,rfl,true,a,true,b,rfl,⟨xs,s1⟩,⟨ys,s2⟩,qT (K:=K) (fun σ'=>σ'.length=2) ds.length (by have:=hg2.1;show ds.length < 2 ^ 24;omega) (fun _=>.bl true) (fun _=>true) (fun _=>by simp[qM]) rfl
   (xk (b1:=true) (b2:=true) s1 s2 m1.symm m2.symm) (qR (b1:=true) (b2:=true) s1 s2 m1.symm m2.symm) ?_ ?_⟩
  ·intro s3 H3' fp i σ' H' hi ok sm x H2 hy Nx Ap _ hA
   obtain⟨p',u,v,rfl,sm2,hp',hu,hv⟩:=ue (b1:=true) (b2:=true) s1 s2 sm hy
   obtain⟨z0,z1,rfl⟩:∃ z0 z1,σ'=[z0,z1]:=by
    match σ',ok with
    | [z0,z1],_=>exact⟨z0,z1,rfl⟩
   have sm3:=sm.trans' sm2
   refine⟨p',_,rfl,SqT.of hp',rfl,u,[v],rfl,v,[],rfl,rfl,?_⟩
   refine qC ?_
   refine⟨_,rfl,_,rfl,u,v,ds[i],rfl,Has.same sm3 (l1.get (a_ hi) hu),Has.same sm3 (l2.get (a_ hi) hv),oE hg2.2 (a_ hi),Je (i5 (a_ hi)) hd2,fun H5 s5=>?_⟩
   exact hA rfl _ _ H5 rfl (sm2.trans' s5) (by rw[Has])
  intro p acc H' hp sm hacc hl
  have e:((m_ ds.length).filter fun _=>true).map (fun _=>Dt.bl true)=(w_ ds.length true).map Dt.bl:=by rw[jD,qy,KJ]
  rw[e]at hl
  have hb:=gy hl
  rw[hb]at hacc
  refine⟨p,_,rfl,SqL.of hacc,?_⟩
  exact rg (by simp) (q H' sm)
theorem same_none{f:M9}{fd:NB}:FnOk P w K mg base CX0 0 f fd ["_law_found","_law_due"] (j9 K 0):=by
 have no:∀ vs H Q E,¬ j9 K 0 vs H Q E:=fun vs H Q E h=>by
  obtain⟨x,y,d,_,_,_,_,h,_⟩:=h
  omega
 exact⟨fun vs H Q E h=>absurd h (no vs H Q E),fun A outer s H args us vs Q E _ _ _ _ h=>absurd h (no vs H Q E)⟩
theorem pW(D:Dfn K mg "_law_same" s_same ["_law_found","_law_due"])(T:Txt mg):∀ n,Cal P w K mg base n "_law_same" ["_law_found","_law_due"] (j9 K n)
 | 0=>D.cal fun _ _ _=>same_none
 | n + 1=>D.cal fun _ _ F=>Bq F T (pW D T n)
end
open PySem L2 PL
structure Cells where
 cs:List Int
 pos:0 < cs.length
 len:cs.length<=63
noncomputable def stT(c:Cells)(n:Nat):T:=.dK true [(NC (some ("cells":Str)),.lst true (c.cs.map T.int)),(NC (some ("turn":Str)),.int (n:Int))]
theorem jW{c:Cells}{n:Nat}:isAny (stT c n)=false:=rfl
def Scr(K:M8)(t:T)(ns:List Int):Prop:=t=.lst false (ns.map T.int)\/∃ a,t=.hole (.ref a)/\∀ H,SqL K H a (ns.map V.int)
def ox(K:M8):FP:=fun ts k=>∃ t,∃ ns:List Int,ts=[t]/\Scr K t ns/\ns.length<=63/\∀ c,k (stT c 0) ts
noncomputable def jd:FP:=fun ts k=>∃ c n m,ts=[stT c n,.int m]/\n < 2 ^ 40/\0 < m/\m < 1073741824/\∀ r c',0<=r->r < m->k (.int r) [stT c' (n + 1),.int m]
noncomputable def ji(n:Nat):FP:=fun ts k=>∃ f d,ts=[f,d]/\isD f=true/\isD d=true/\dt f=dt d/\gd (dt d)=true/\dpt (dt d) < n/\k (.bl true) ts
section
variable{P:Nl}{w:Nq}{K:M8}{mg:Str->Option M7}{base:Nr}
theorem nO{α β:Type}{l:List (α × β)}{a b:α}(h:[a,b]=l.map (·.1)):∃ v w,l=[(a,v),(b,w)]:=by
 cases l with
 | nil=>cases h
 | cons x l=>
  cases l with
  | nil=>cases h
  | cons y l=>
   cases l with
   | nil=>
    have h1:=(JC h).1
    have h2:=(JC (JC h).2).1
    exact⟨x.2,y.2,by rw[h1,h2]⟩
   | cons z l=>cases (JC (JC h).2).2
theorem qL{H:Hp}{a:M9}{o:HO}(h:H a=some o):Put H a o H:=⟨h,fun _ _=>rfl⟩
theorem GP{H:Hp}{Γ:Fm}{c:Cells}{n:Nat}{v:V}(h:Rp K H ((stT c n,some v)::Γ)):∃ st l,v=.ref st/\StAt H st l c.cs n/\Rp K H ((.bare,some (.ref st))::(.bare,some (.ref l))::Γ):=by
 obtain⟨st,kvs,ev,hs,ek,h2⟩:=qQ h
 cases ev
 obtain⟨v1,v2,rfl⟩:=nO ek
 have h2:Rp K H ((.bare,some (.ref st))::(.lst true (c.cs.map T.int),some v1)::(.int (n:Int),some v2)::Γ):=h2
 have e2:v2=.int n:=aR h2.tail.tail
 subst e2
 have h3:=h2.perm (.swap _ _ _)
 obtain⟨l,vs,el,hl,ll,h4⟩:=dy h3
 cases el
 have ev:vs=c.cs.map V.int:=gP ll h4.tail
 subst ev
 refine⟨st,l,rfl,⟨hs,hl,c.pos,c.len⟩,?_⟩
 have h5:Rp K H ((.bare,some (.ref l))::(.bare,some (.ref st))::(.int (n:Int),some (.int n))::Γ):=by
  have:Rp K H (zz (c.cs.map T.int) (c.cs.map V.int)++((.bare,some (.ref l))::(.bare,some (.ref st))::(.int (n:Int),some (.int n))::Γ)):=h4.perm e_.symm
  exact this.part
 exact(h5.perm (by
  refine A_ (.cons _ (.swap _ _ _)) ?_
  refine A_ (.swap _ _ _) ?_
  exact .cons _ (.swap _ _ _))).tail
theorem rH{H:Hp}{Γ:Fm}:∀(ns:List Int),Rp K H Γ->Rp K H (zz (ns.map T.int) (ns.map V.int)++Γ)
 | [],h=>h
 | n::r,h=>bP (rH r h) fun _=>.int
theorem xI{H:Hp}{Γ:Fm}{cs:List Int}{n:Nat}{st l:M9}(S:StAt H st l cs n)(h:Rp K H ((.bare,some (.ref st))::(.bare,some (.ref l))::Γ)):∃ c,Rp K H ((stT c n,some (.ref st))::Γ):=by
 refine⟨⟨cs,S.pos,S.len⟩,?_⟩
 have h1:Rp K H ((.bare,some (.ref l))::(zz (cs.map T.int) (cs.map V.int)++((.bare,some (.ref st))::Γ))):=(rH cs (h.perm (.swap _ _ _))).perm e_
 have h2:=cZ h1 (by rw[b_,b_]) (qL S.l)
 have h3:Rp K H ((.bare,some (.ref st))::((.lst true (cs.map T.int),some (.ref l))::(.int (n:Int),some (.int n))::Γ)):=by
  refine(bP (t:=.int (n:Int)) h2 fun _=>.int).perm ?_
  refine A_ (.swap _ _ _) ?_
  refine A_ (.cons _ (.swap _ _ _)) ?_
  exact .swap _ _ _
 exact n8 (ts:=[(NC (some ("cells":Str)),.lst true (cs.map T.int)),(NC (some ("turn":Str)),.int (n:Int))]) (vs:=stK l n) h3 rfl (qL S.d)
theorem Gg{H H':Hp}{a c:M9}{Γ:Fm}(h:Rp K H ((.bare,some (.ref a))::(.bare,some (.ref c))::Γ))(k:Kp a c H H')(ha:∃ u,H' a=some u/\∀ xs,u≠.tup xs)(hc:∃ u,H' c=some u/\∀ xs,u≠.tup xs):Rp K H' ((.bare,some (.ref a))::(.bare,some (.ref c))::Γ):=by
 obtain⟨ua,ea,na⟩:=ha
 obtain⟨uc,ec,nc⟩:=hc
 obtain⟨Hz,N,h,nd,g,d⟩:=h
 cases h with
 | cons e1 h1 c1=>
  cases c1 with
  | cons e2 h2 c2=>
   rcases h1 with⟨z,_⟩ | ⟨v1,ev1,h1⟩
   ·cases z
   rcases h2 with⟨z,_⟩ | ⟨v2,ev2,h2⟩
   ·cases z
   cases ev1;cases ev2
   cases h1;cases h2
   rename_i M u1 hu1 nt1 u2 hu2 nt2
   subst e2;subst e1
   have nd':(a::c::M).Nodup:=nd
   rw[E_,E_]at nd'
   have keep:∀ b o,H b=some o->b≠a->b≠c->H' b=some o:=k
   have tk:TK H H':=fun b xs r=>keep b _ r (fun z=>nt1 xs (z ▸ r)) (fun z=>nt2 xs (z ▸ r))
   have za:Hz a=none:=d a r_
   have zc:Hz c=none:=d c (l_ _ r_)
   have g':Gr Hz H':=fun b u r=>by
    obtain⟨w',q⟩:=Rd.some r
    have b1:b≠a:=fun z=>by rw[z,za]at q;cases q
    have b2:b≠c:=fun z=>by rw[z,zc]at q;cases q
    rcases g b u r with r | ⟨o,r⟩
    ·exact .inl (keep b _ r b1 b2)
    exact .inr ⟨o,keep b _ r b1 b2⟩
   refine⟨Hz,[a]++([c]++M),.cons rfl (.inr ⟨_,rfl,.bare ea fun xs z=>?_⟩) (.cons rfl (.inr ⟨_,rfl,.bare ec fun xs z=>?_⟩) (c2.move tk .bq fun b m u e=>?_)),nd,g',d⟩
   ·rw[ea]at z;exact na xs (v_ z)
   ·rw[ec]at z;exact nc xs (v_ z)
   have b1:b≠a:=fun z=>nd'.1 (by rw[<-z];exact l_ _ m)
   have b2:b≠c:=fun z=>nd'.2.1 (by rw[<-z];exact m)
   exact⟨keep b u e b1 b2,fun nt xs r=>nt xs (by rw[keep b u e b1 b2]at r;exact e.trans r)⟩
theorem Bn{H H':Hp}{a c:M9}{Γ:Fm}(h:Rp K H Γ)(ha:H a=none)(hc:H c=none)(ne:a≠c)(s:aN H H')(ea:∃ u,H' a=some u/\∀ xs,u≠.tup xs)(ec:∃ u,H' c=some u/\∀ xs,u≠.tup xs):Rp K H' ((.bare,some (.ref a))::(.bare,some (.ref c))::Γ):=by
 obtain⟨ua,ea,na⟩:=ea
 obtain⟨uc,ec,nc⟩:=ec
 obtain⟨Hz,N,h,nd,g,d⟩:=h
 have n1:a ∉ N:=fun m=>by
  obtain⟨⟨u,e⟩,_⟩:=h.there a m
  rw[ha]at e;cases e
 have n2:c ∉ N:=fun m=>by
  obtain⟨⟨u,e⟩,_⟩:=h.there c m
  rw[hc]at e;cases e
 refine⟨Hz,[a]++([c]++N),.cons rfl (.inr ⟨_,rfl,.bare ea fun xs z=>?_⟩) (.cons rfl (.inr ⟨_,rfl,.bare ec fun xs z=>?_⟩) (h.move (aN.tk s) .bq fun b m u e=>eO s b u e)),?_,g.trans (.of s),?_⟩
 ·rw[ea]at z;exact na xs (v_ z)
 ·rw[ec]at z;exact nc xs (v_ z)
 ·show(a::c::N).Nodup
  rw[E_,E_]
  exact⟨fun m=>(u_.mp m).elim (fun z=>ne z) n1,n2,nd⟩
 intro b m
 have m:b∈a::c::N:=m
 rcases u_.mp m with rfl | m
 ·exact g.none ha
 rcases u_.mp m with rfl | m
 ·exact g.none hc
 exact d b m
theorem yT(D:Dfn K mg "_law_take" pF ["_law_state","_law_many"])(TX:Txt mg):Cal P w K mg base 1 "_law_take" ["_law_state","_law_many"] (aK K 2 jd):=by
 refine(D.cal fun _ _ F=>BB F TX).imp ?_
 rintro vs H Q E ⟨ts,Fr,k,l,hn,rp,⟨c,n,m,rfl,h1,h2,h3,pk⟩,q⟩
 obtain⟨x,y,rfl⟩:=zz2 l rfl
 have rp:Rp K H ((stT c n,some x)::(.int m,some y)::Fr):=rp
 have ey:=aR rp.tail
 subst ey
 obtain⟨st,lc,rfl,S,rp2⟩:=GP rp
 refine⟨st,lc,c.cs,n,m,rfl,S,by omega,by omega,h2,h3,fun r cs' H' hr0 hr1 S' kp=>?_⟩
 have rp3:=Gg rp2 kp ⟨_,S'.d,fun _ z=>by cases z⟩ ⟨_,S'.l,fun _ z=>by cases z⟩
 have S'':StAt H' st lc cs' ((n + 1:Nat):Int):=by push_cast;exact S'
 obtain⟨c',rp4⟩:=xI S'' rp3
 exact q _ _ _ _ (pk r c' hr0 hr1) (bP rp4 fun _=>.int)
theorem tE{H:Hp}{Γ:Fm}{w y:V}(h:Rp K H ((.hole w,some y)::Γ)):y=w:=by
 obtain⟨_,_,r,_⟩:=fT h rfl
 cases r
 rfl
theorem vR(D:Dfn K mg "_law_begin" jS ["_law_script"])(TX:Txt mg):Cal P w K mg base 1 "_law_begin" ["_law_script"] (aK K 1 (ox K)):=by
 refine(D.cal fun _ _ F=>A5 F TX).imp ?_
 rintro vs H Q E ⟨ts,Fr,k,l,hn,rp,⟨t,ns,rfl,hs,h1,pk⟩,q⟩
 obtain⟨x,rfl⟩:=zz1 l rfl
 have rp:Rp K H ((t,some x)::Fr):=rp
 obtain⟨a,rfl,hq⟩:∃ a,x=.ref a/\SqL K H a (ns.map V.int):=by
  rcases hs with rfl | ⟨a,rfl,hs⟩
  ·obtain⟨a,us,rfl,hq,l2,rp2⟩:=aD rfl rp
   have eu:=gP l2 rp2
   subst eu
   exact⟨a,rfl,hq⟩
  exact⟨a,tE rp,hs H⟩
 refine⟨a,ns,rfl,hq,h1,fun st lc cs H' hs hl S g=>?_⟩
 have rp3:=Bn rp hs hl S.ne g ⟨_,S.d,fun _ z=>by cases z⟩ ⟨_,S.l,fun _ z=>by cases z⟩
 obtain⟨c,rp4⟩:=xI (n:=0) S rp3
 exact q _ _ _ _ (pk c) rp4
def yK(K:M8):FP:=fun ts k=>∃ t,∃ ns:List Int,ts=[t]/\Scr K t ns/\ns.length<=63/\∀ z,k (.bl true) [z]
noncomputable def tZ(K:M8):Sp:=fun vs H Q _=>∃(a:M9) (ns:List Int),vs=[.ref a]/\SqL K H a (ns.map V.int)/\ns.length<=63/\∀ H',Q (.bl true) H'
theorem qB{Hz H:Hp}:∀(ns:List Int),RepTs K Hz H (ns.map T.int) (ns.map V.int) []
 | []=>.nil
 | _::r=>.cons rfl .int (qB r)
theorem Dj{k:Nat}{f:M9}{fd:NB}(F:FnOk P w K mg base CX0 k f fd ["_law_script"] (aK K 1 (yK K))):FnOk P w K mg base CX0 k f fd ["_law_script"] (tZ K):=by
 refine F.imp ?_
 rintro vs H Q E ⟨a,ns,rfl,hq,h1,q⟩
 have key:∀ t,Scr K t ns->(∀ Hz,RepT K H Hz t (.ref a) [])->aK K 1 (yK K) [.ref a] H Q E:=fun t sc ht=>
  ⟨[t],[],fun t _=>t=.bl true,rfl,rfl,⟨H,[],.cons rfl (.inr ⟨_,rfl,ht H⟩) .nil,J_,.bq,fun _ m=>by cases m⟩,⟨t,ns,rfl,sc,h1,fun _=>rfl⟩,fun t ts' v H' e rp=>by
   subst e
   rw[mF rp]
   exact q H'⟩
 rcases hq with hq | hq
 ·exact key _ (.inl rfl) fun Hz=>.lstZ hq (qB ns)
 exact key _ (.inr ⟨a,rfl,fun H=>.inr hq⟩) fun Hz=>.hole
theorem zW{x y:Str}(D:Dfn K mg "_law_same" s_same [x,y])(n:Nat)(C:Cal P w K mg base n "_law_same" [x,y] (j9 K n)):Cal P w K mg base n "_law_same" [x,y] (aK K 2 (ji n)):=by
 refine C.imp ?_
 rintro vs H Q E ⟨ts,Fr,k,l,hn,rp,⟨f,d,rfl,h1,h2,h3,h4,h5,pk⟩,q⟩
 obtain⟨u,v,rfl⟩:=zz2 l rfl
 have rp:Rp K H ((f,some u)::(d,some v)::Fr):=rp
 have r1:=eG rp h1
 rw[h3]at r1
 exact⟨u,v,dt d,rfl,r1,eG rp.tail h2,h4,h5,fun H' g=>q _ _ _ _ pk (bP (rp.same g) fun _=>.bl)⟩
end
open PySem L2 PL
noncomputable def B9:=f_ @PL.F3 (f_ @PL.Ag (f_ @PL.F5 (f_ @PL.E2 (f_ @PL.D7 (f_ @PL.BU (f_ @PL.Cb (f_ @PL.wZ (f_ @PL.BH (f_ @PL.xD (f_ @PL.BX (f_ @PL.Ew (f_ @PL.F7 (f_ @PL.Bl (f_ @PL.y0 (f_ @PL.Ft (f_ @PL.Bx (f_ @PL.Cc (f_ @PL.yL (f_ @PL.xR (f_ @PL.D4 (f_ @PL.Ak (f_ @PL.Di (f_ @PL.Ca (f_ @PL.Ay (f_ @PL.vX (f_ @PL.BL (f_ @PL.Aj (f_ @PL.BM (f_ @PL.A0 (f_ @PL.Aw (f_ @PL.Ek (f_ @PL.EV (f_ @PL.Eh (f_ @PL.Dx (f_ @PL.ET (f_ @PL.Eb (f_ @PL.B8 (f_ @PL.BQ (f_ @PL.AE (f_ @PL.AA (f_ @PL.AH (f_ @PL.B4 (f_ @PL.CQ (f_ @PL.DL (f_ @PL.Ep (f_ @PL.DP (f_ @PL.DV (f_ @PL.yr (f_ @PL.CY (f_ @PL.Au (f_ @PL.Dg (f_ @PL.Ae (f_ @PL.zi (f_ @PL.F6 (f_ @PL.Ai (f_ @PL.CU (f_ @PL.DC (f_ @PL.Gm (f_ @PL.Ds (f_ @PL.DJ (f_ @PL.Fy (f_ @PL.sQ (f_ @PL.EE (@PL.C7))))))))))))))))))))))))))))))))))))))))))))))))))))))))))))))))
noncomputable def AI:=f_ @PL.E3 (f_ @PL.Bv (f_ @PL.x4 (f_ @PL.zq (f_ @PL.HG (f_ @PL.GL (f_ @PL.qe (f_ @PL.nM (f_ @PL.BN (f_ @PL.fC (f_ @PL.A7 (f_ @PL.sr (f_ @PL.bz (f_ @PL.je (f_ @PL.vN (f_ @PL.yF (f_ @PL.wb (f_ @PL.yR (f_ @PL.Bj (f_ @PL.vM (f_ @k_.{0,0} (f_ @J9.{0,0} (f_ @b_.{0,0} (f_ @List.zipWith_nil_left.{0,0,0} (f_ @List.zipWith_nil_right.{0,0,0} (f_ @decide_eq_true_eq (f_ @decide_true (f_ @Mf (f_ @L9 (f_ @Mg (f_ @JW (f_ @LB (f_ @true_and (f_ @and_true (f_ @Ld.{0,0} (f_ @KD (f_ @KC (@PySem.sizeLine_eq)))))))))))))))))))))))))))))))))))))
theorem AJ{α:Type}{l:List α}{i:Int}(h0:0<=i)(h1:i < l.length):∃ x,x∈l/\atI l i=some x:=by
 have h:i.toNat < l.length:=by omega
 refine⟨l[i.toNat],I_ h,?_⟩
 have:=kM (xs:=l) (j:=i.toNat) (a_ h)
 rwa[Jl h0]at this
theorem ni(P:Int->Prop){ns:List Int}{i:Int}(h0:0<=i)(h1:i < ns.length)(hp:∀ x∈ns,P x):∃ v,atI (ns.map T.int) i=some (.int v)/\P v:=by
 obtain⟨t,m,e⟩:=AJ (l:=ns.map T.int) h0 (by rw[b_];exact h1)
 obtain⟨v,mv,rfl⟩:=B_.mp m
 exact⟨v,e,hp v mv⟩
theorem EW{K:M8}{t:T}{ns:List Int}(h:Scr K t ns):er t=t/\isAny t=false:=by
 rcases h with rfl | ⟨a,rfl,_⟩
 ·exact⟨by simp only[er,fC],rfl⟩
 exact⟨rfl,rfl⟩
theorem e9{c:Cells}{n:Nat}:bE (stT c n)=true:=by simp only[stT,bE,lZ,je,yF,JW,Mg]
theorem map_take{α β:Type}{g:α->β}{l:List α}{i:Nat}{x:α}(h:l[i]?=some x):Kj g (l.take (i + 1))=Kj g (l.take i)++[g x]:=by rw[Jn,h,A'];rfl
theorem wN{α β:Type}{g:α->β}{p:α->Bool}{l:List α}{i:Nat}{x:α}(h:l[i]?=some x):Kj g ((l.take (i + 1)).filter p)=Kj g ((l.take i).filter p)++(if p x then [g x]else []):=by
 rw[Jn,h,KA,A']
 congr 1
 show Kj g (List.filter p [x])=_
 rw[LV]
 cases p x <;> rfl
theorem qh{i:Int}:isD (.int i)=true:=rfl
theorem oN:d8 []=true:=rfl
theorem pJ{i:Int}{ts:List T}:d8 (.int i::ts)=d8 ts:=by rw[d8,qh,JW]
theorem kO{a b:Int}:(bH (dtL [.int a,.int b]) < 180)=True:=eq_true (by simp[dt,dtL,dpt,bH])
def Gd(t:T)(n:Nat):Prop:=isD t=true/\gd (dt t)=true/\dpt (dt t)<=n
def GdL(ts:List T)(n:Nat):Prop:=d8 ts=true/\gdL (dtL ts)=true/\bH (dtL ts)<=n
theorem Dy{i:Int}{n:Nat}:Gd (.int i) n:=⟨rfl,rfl,by rw[dt,dpt.eq_def];exact F_ _⟩
theorem ud{n:Nat}:GdL [] n:=⟨rfl,by simp only[dtL,gdL],by simp only[dtL,bH,F_]⟩
theorem lq{t:T}{ts:List T}{n:Nat}(h:Gd t n)(r:GdL ts n):GdL (t::ts) n:=
 ⟨by rw[d8,h.1,r.1];rfl,by rw[dtL,gdL,h.2.1,r.2.1];rfl,by rw[dtL,bH];exact Nat.max_le.mpr ⟨h.2.2,r.2.2⟩⟩
theorem Bd{α:Type}{g:α->T}{l:List α}{n:Nat}(h:∀ x∈l,Gd (g x) n):GdL (l.map g) n:=by
 induction l with
 | nil=>exact ud
 | cons x l ih=>exact lq (h x (r_ ..)) (ih fun y m=>h y (l_ _ m))
theorem Ib{o:Bool}{ts:List T}{n:Nat}(h:GdL ts n)(hl:ts.length<=100000):Gd (.lst o ts) (n + 1):=
 ⟨by rw[isD];exact h.1,by rw[dt,gd,h.2.1,decide_eq_true (by rw[tN,b_];exact hl)];rfl,by rw[dt,dpt];exact K4 h.2.2⟩
theorem Ip{ts:List T}{n:Nat}(h:GdL ts n)(hl:ts.length<=100000):Gd (.tup ts) (n + 1):=
 ⟨by rw[isD];exact h.1,by rw[dt,gd,h.2.1,decide_eq_true (by rw[tN,b_];exact hl)];rfl,by rw[dt,dpt];exact K4 h.2.2⟩
theorem pO{f d:T}{n m:Nat}{k:T->List T->Prop}(h:Gd d n)(hn:n < m)(hi:isD f=true)(e:dt f=dt d)(q:k (.bl true) [f,d]):ji m [f,d] k:=⟨f,d,rfl,hi,h.1,e,h.2.1,Je h.2.2 hn,q⟩
theorem same_self{d:T}{n m:Nat}{k:T->List T->Prop}(h:Gd d n)(hn:n < m)(q:k (.bl true) [d,d]):ji m [d,d] k:=pO h hn h.1 rfl q
abbrev Rws:=List (Int × Nat)
def rdB(R:Rws)(d i:Nat):Bool:=match R[i]? with
 | some r=>!d.testBit i && (r.2 &&& d == r.2)
 | none=>false
def rdy(R:Rws)(d:Nat):List Nat:=(m_ R.length).filter (rdB R d)
def tl(R:Rws)(i:Nat):Int:=(R.getD i (0,0)).1
def cst(t:Option Int)(u:Int):Int:=if t=some u then 0 else 1
def tkF(R:Rws):Option Int->List Nat->Int
 | _,[]=>0
 | t,i::o=>tkF R (some (tl R i)) o + cst t (tl R i)
def Ch(R:Rws):Nat->List Nat->Prop
 | _,[]=>True
 | d,i::o=>i∈rdy R d/\Ch R (d ||| 2 ^ i) o
def orM:Nat->List Nat->Nat
 | d,[]=>d
 | d,i::o=>orM (d ||| 2 ^ i) o
def Cmp(R:Rws)(d:Nat)(o:List Nat):Prop:=Ch R d o/\orM d o=2 ^ R.length - 1
def Sub(a b:Nat):Prop:=∀ j,a.testBit j=true->b.testBit j=true
theorem uk{a b:Nat}:a &&& b=a↔Sub a b:=by
 constructor
 ·intro h j hj
  have:=congrArg (fun x=>x.testBit j) h
  simp only[Le,hj,JW]at this
  exact this
 intro h
 apply JR
 intro j
 rw[Le]
 cases e:a.testBit j with
 | false=>rfl
 | true=>rw[h j e];rfl
theorem j7{d i j:Nat}:(d ||| 2 ^ i).testBit j=(d.testBit j || decide (i=j)):=by
 rw[Mb,Mj]
theorem jA{n d i:Nat}(h:d < 2 ^ n)(hi:i < n):d ||| 2 ^ i < 2 ^ n:=Nat.or_lt_two_pow h (Nat.pow_lt_pow_right (by decide) hi)
theorem uX{d i:Nat}(h:d.testBit i=false):d < d ||| 2 ^ i:=by
 refine Ju MN fun z=>?_
 have:(d ||| 2 ^ i).testBit i=true:=by rw[j7];simp
 rw[<-z,h]at this
 cases this
theorem bQ{n j:Nat}:(2 ^ n - 1).testBit j=decide (j < n):=Nat.testBit_two_pow_sub_one ..
theorem DS{n d j:Nat}(h:d < 2 ^ n)(hj:n<=j):d.testBit j=false:=Nat.testBit_lt_two_pow (x_ h (Lf (by decide) hj))
theorem cA{n d:Nat}(h:d < 2 ^ n)(s:Sub (2 ^ n - 1) d):d=2 ^ n - 1:=by
 apply JR
 intro j
 rw[bQ]
 by_cases hj:j < n
 ·rw[decide_eq_true hj]
  exact s j (by rw[bQ,decide_eq_true hj])
 rw[decide_eq_false hj,DS h (by omega)]
theorem eR{R:Rws}{d i:Nat}:i∈rdy R d↔∃ r,R[i]?=some r/\d.testBit i=false/\Sub r.2 d:=by
 unfold rdy
 rw[Jd,IQ]
 unfold rdB
 constructor
 ·rintro⟨h,e⟩
  rw[a_ h]at e ⊢
  simp only[H_,KR,beq_iff_eq]at e
  exact⟨_,rfl,e.1,uk.mp e.2⟩
 rintro⟨r,e,h1,h2⟩
 refine⟨(c_.mp e).1,?_⟩
 rw[e]
 simp only[H_,KR,beq_iff_eq]
 exact⟨h1,uk.mpr h2⟩
theorem bF{R:Rws}{d i:Nat}(h:i∈rdy R d):i < R.length:=by
 obtain⟨r,e,_⟩:=eR.mp h
 exact(c_.mp e).1
theorem dj{R:Rws}{d i:Nat}(h:i∈rdy R d):d.testBit i=false:=by
 obtain⟨r,_,e,_⟩:=eR.mp h
 exact e
theorem D3(R:Rws)(d:Nat):(rdy R d).Pairwise (· < ·):=List.Pairwise.filter _ KZ
theorem ff(R:Rws):rdy R (2 ^ R.length - 1)=[]:=List.eq_nil_iff_forall_not_mem.mpr fun i h=>by
 have h1:=dj h
 rw[bQ,decide_eq_true (bF h)]at h1
 cases h1
theorem rm{R:Rws}{d:Nat}(hd:d < 2 ^ R.length)(ne:d≠2 ^ R.length - 1):∀(o:List Nat) (d0:Nat),Cmp R d0 o->Sub d0 d->rdy R d≠[]
 | [],d0,h,s=>absurd (cA hd (by have:d0=_:=h.2;rw[<-this];exact s)) ne
 | i::o,d0,h,s=>by
  cases e:d.testBit i with
  | true=>
   refine rm hd ne o (d0 ||| 2 ^ i) ⟨h.1.2,h.2⟩ fun j hj=>?_
   rw[j7,JX,decide_eq_true_iff]at hj
   rcases hj with hj | rfl
   ·exact s j hj
   ·exact e
  | false=>
   obtain⟨r,e1,_,e3⟩:=eR.mp h.1.1
   exact List.ne_nil_of_mem (eR.mpr ⟨r,e1,e,fun j hj=>s j (e3 j hj)⟩)
def aY(R:Rws):Prop:=∃ o,Cmp R 0 o
theorem yt{R:Rws}{d:Nat}(h:aY R)(hd:d < 2 ^ R.length)(ne:d≠2 ^ R.length - 1):rdy R d≠[]:=by
 obtain⟨o,h⟩:=h
 exact rm hd ne o 0 h fun j hj=>by rw[K6]at hj;cases hj
def TS(R:Rws)(t:Option Int):Prop:=t=none\/∃ i,i < R.length/\t=some (tl R i)
noncomputable def VOk(R:Rws)(v:Nat->Option Int->Int)(d:Nat)(t:Option Int):Prop:=
 (rdy R d=[]/\v d t=0)\/(∃ i∈rdy R d,v d t=v (d ||| 2 ^ i) (some (tl R i)) + cst t (tl R i))/\∀ i∈rdy R d,v d t<=v (d ||| 2 ^ i) (some (tl R i)) + cst t (tl R i)
def zF(R:Rws)(v:Nat->Option Int->Int):Prop:=∀ d t,d < 2 ^ R.length->TS R t->VOk R v d t
theorem Fs{R:Rws}{v:Nat->Option Int->Int}(V:zF R v):∀(o:List Nat) (d:Nat) (t:Option Int),d < 2 ^ R.length->TS R t->Cmp R d o->v d t<=tkF R t o
 | [],d,t,hd,ht,h=>by
  have e:d=2 ^ R.length - 1:=h.2
  rcases V d t hd ht with⟨_,e0⟩ | ⟨⟨i,m,_⟩,_⟩
  ·rw[e0];exact Ko _
  ·rw[e,ff]at m;cases m
 | i::o,d,t,hd,ht,h=>by
  have il:=bF h.1.1
  have ih:=Fs V o (d ||| 2 ^ i) (some (tl R i)) (jA hd il) (.inr ⟨i,il,rfl⟩) ⟨h.1.2,h.2⟩
  rcases V d t hd ht with⟨e0,_⟩ | ⟨_,g⟩
  ·have:=h.1.1;rw[e0]at this;cases this
  have:=g i h.1.1
  rw[tkF]
  omega
def ci(o:List Nat):List Int:=o.map fun(i:Nat)=>(i:Int)
noncomputable def sZ(R:Rws)(v:Nat->Option Int->Int)(d:Nat)(t:Option Int)(o:List Nat):Prop:=Cmp R d o/\tkF R t o=v d t/\∀ o',Cmp R d o'->tkF R t o'=v d t->ZM.lx (ci o') (ci o)=false
theorem qj{R:Rws}{v:Nat->Option Int->Int}(V:zF R v){t:Option Int}(ht:TS R t):sZ R v (2 ^ R.length - 1) t []:=by
 have hp:0 < 2 ^ R.length:=Jo _
 refine⟨⟨trivial,rfl⟩,?_,fun o' h _=>?_⟩
 ·rcases V (2 ^ R.length - 1) t (by omega) ht with⟨_,e0⟩ | ⟨⟨i,m,_⟩,_⟩
  ·rw[e0];rfl
  rw[ff]at m;cases m
 cases o' with
 | nil=>rfl
 | cons i o'=>have:=h.1.1;rw[ff]at this;cases this
theorem mR{R:Rws}{v:Nat->Option Int->Int}(V:zF R v){d i:Nat}{t:Option Int}{o:List Nat}(hd:d < 2 ^ R.length)(ht:TS R t)(hi:i∈rdy R d)(hv:v (d ||| 2 ^ i) (some (tl R i)) + cst t (tl R i)=v d t)
  (hm:∀ j∈rdy R d,v (d ||| 2 ^ j) (some (tl R j)) + cst t (tl R j)=v d t->i<=j) (B:sZ R v (d ||| 2 ^ i) (some (tl R i)) o):sZ R v d t (i::o):=by
 obtain⟨b1,b2,b3⟩:=B
 refine⟨⟨⟨hi,b1.1⟩,b1.2⟩,by rw[tkF,b2,hv],fun o' h e=>?_⟩
 cases o' with
 | nil=>
  have e:d=2 ^ R.length - 1:=h.2
  rw[e,ff]at hi
  cases hi
 | cons j o'=>
  have jl:=bF h.1.1
  have lb:=Fs V o' (d ||| 2 ^ j) (some (tl R j)) (jA hd jl) (.inr ⟨j,jl,rfl⟩) ⟨h.1.2,h.2⟩
  rw[tkF]at e
  rcases V d t hd ht with⟨e0,_⟩ | ⟨_,g⟩
  ·rw[e0]at hi;cases hi
  have gj:=g j h.1.1
  have ej:v (d ||| 2 ^ j) (some (tl R j)) + cst t (tl R j)=v d t:=by omega
  have ij:=hm j h.1.1 ej
  show(if(j:Int)=i then ZM.lx (ci o') (ci o)else decide ((j:Int) < i))=false
  by_cases q:j=i
  ·subst q
   rw[if_pos rfl]
   exact b3 o' ⟨h.1.2,h.2⟩ (by omega)
  rw[if_neg (by omega)]
  exact decide_eq_false (by omega)
def sM(l:List Nat):Nat:=orM 0 l
theorem v9:∀(l:List Nat) (d i:Nat),orM d (l++[i])=orM d l ||| 2 ^ i
 | [],d,i=>rfl
 | j::l,d,i=>v9 l (d ||| 2 ^ j) i
theorem oj:∀(l:List Nat) (d j:Nat),(orM d l).testBit j=true↔d.testBit j=true\/j∈l
 | [],d,j=>⟨.inl,fun h=>h.elim id fun m=>nomatch m⟩
 | i::l,d,j=>by
  rw[orM,oj l,j7,JX,decide_eq_true_iff,u_,or_assoc,eq_comm (a:=i)]
theorem aJ{l:List Nat}{j:Nat}:(sM l).testBit j=true↔j∈l:=by
 unfold sM
 rw[oj,K6]
 exact⟨fun h=>h.elim (fun z=>nomatch z) id,.inr⟩
theorem fy{l:List Nat}{j:Nat}:(sM l).testBit j=false↔j ∉ l:=by
 rw[<-aJ,Bool.not_eq_true]
theorem lj{l:List Nat}{i:Nat}:sM (l++[i])=sM l ||| 2 ^ i:=v9 l 0 i
theorem sG{n:Nat}:∀(l:List Nat) (d:Nat),d < 2 ^ n->(∀ i∈l,i < n)->orM d l < 2 ^ n
 | [],d,h,_=>h
 | i::l,d,h,g=>sG l _ (jA h (g i r_)) fun j m=>g j (l_ _ m)
theorem zD{n:Nat}{l:List Nat}(g:∀ i∈l,i < n):sM l < 2 ^ n:=sG l 0 (Jo _) g
theorem yy{a b:List Nat}:Sub (sM a) (sM b)↔∀ i∈a,i∈b:=⟨fun h i m=>aJ.mp (h i (aJ.mpr m)),fun h j m=>aJ.mpr (h j (aJ.mp m))⟩
theorem Cr{d:Nat}{l:List Nat}:d ||| sM l=orM d l:=by
 apply JR
 intro j
 rw[Mb,JI,JX,aJ,oj]
theorem Ar{R:Rws}{d:Nat}(hd:d < 2 ^ R.length)(h:rdy R d≠[]):d < (d ||| sM (rdy R d))/\(d ||| sM (rdy R d)) < 2 ^ R.length:=by
 rw[Cr]
 refine⟨?_,sG _ _ hd fun i m=>bF m⟩
 obtain⟨i,m⟩:=List.exists_mem_of_ne_nil _ h
 rw[<-Cr]
 refine Ju MN fun z=>?_
 have:(d ||| sM (rdy R d)).testBit i=true:=by rw[Mb,aJ.mpr m,MX]
 rw[<-z,dj m]at this
 cases this
theorem dg{α:Type}[DecidableEq α]:∀ {l m:List α},l.Nodup->(∀ z∈l,z∈m)->l.length<=m.length:=by
 intro l
 induction l with
 | nil=>intro m _ _;exact F_ _
 | cons a l ih=>
  intro m nd h
  obtain⟨n1,n2⟩:=E_.mp nd
  have hm:a∈m:=h a r_
  have:=ih (m:=m.erase a) n2 fun z hz=>(List.mem_erase_of_ne (fun e:z=a=>n1 (by rw[<-e];exact hz))).mpr (h z (l_ _ hz))
  rw[List.length_erase_of_mem hm]at this
  have:=L8 hm
  rw[o_]
  omega
theorem tO{n:Nat}{l:List Nat}(nd:l.Nodup)(g:∀ i∈l,i < n):l.length=n↔sM l=2 ^ n - 1:=by
 have hs:=zD g
 have len:=dg nd fun i m=>IQ.mpr (g i m)
 rw[y_]at len
 constructor
 ·intro h
  refine cA hs fun j hj=>?_
  rw[bQ,decide_eq_true_iff]at hj
  rw[aJ]
  by_cases z:j∈l
  ·exact z
  have:=dg (l:=j::l) (E_.mpr ⟨z,nd⟩) fun i m=>IQ.mpr ((u_.mp m).elim (fun e=>e ▸ hj) (g i))
  rw[y_,o_]at this
  omega
 intro h
 have:=dg (LW (n:=n)) (m:=l) fun i m=>by
  refine aJ.mp ?_
  rw[h,bQ,decide_eq_true (IQ.mp m)]
 rw[y_]at this
 omega
theorem vg:∀ {a b:List Int},ZM.lx a b=false->ZM.lx b a=false->a=b
 | [],[],_,_=>rfl
 | [],_::_,h,_=>nomatch h
 | _::_,[],_,h=>nomatch h
 | x::a,y::b,h,g=>by
  rw[ZM.lx]at h g
  by_cases e:x=y
  ·subst e
   rw[if_pos rfl]at h g
   rw[vg h g]
  rw[if_neg e]at h
  rw[if_neg (Oi e)]at g
  have:=of_decide_eq_false h
  have:=of_decide_eq_false g
  omega
noncomputable def aX(R:Rws)(L:Int)(o:List Nat):Prop:=Cmp R 0 o/\tkF R none o=L/\∀ o',Cmp R 0 o'->ZM.lx (tkF R none o'::ci o') (L::ci o)=false
theorem rK{R:Rws}{v:Nat->Option Int->Int}(V:zF R v){o:List Nat}(B:sZ R v 0 none o):aX R (v 0 none) o:=by
 obtain⟨b1,b2,b3⟩:=B
 refine⟨b1,b2,fun o' h=>?_⟩
 have lb:=Fs V o' 0 none (Jo _) (.inl rfl) h
 show(if tkF R none o'=v 0 none then ZM.lx (ci o') (ci o)else decide (tkF R none o' < v 0 none))=false
 by_cases e:tkF R none o'=v 0 none
 ·rw[if_pos e];exact b3 o' h e
 rw[if_neg e];exact decide_eq_false (by omega)
abbrev nT(i:Nat):T:=.int (i:Int)
def rwT(r:Int × Nat):T:=.tup [.int r.1,.int (r.2:Int)]
theorem pD{r:Int × Nat}:er (rwT r)=rwT r:=rfl
theorem gE{r:Int × Nat}:bE (rwT r)=true:=rfl
theorem eW{r:Int × Nat}:aV (rwT r)=true:=rfl
theorem eY{r:Int × Nat}:isAny (rwT r)=false:=rfl
theorem jU{r:Int × Nat}{k:T->Prop}:ixT (rwT r) (.int 0) k=k (.int r.1):=rfl
theorem jJ{r:Int × Nat}{k:T->Prop}:ixT (rwT r) (.int 1) k=k (.int (r.2:Int)):=rfl
theorem bOr(a b:Nat):OA (a:Int) (b:Int)=((a ||| b:Nat):Int):=by
 have nn:∀ x:Int,PX (PX x)=x:=fun x=>by unfold PX;omega
 have ng:∀ x:Nat,¬ 0<=PX (x:Int):=fun x=>by unfold PX;omega
 unfold OA
 rw[U9 (ng a) (ng b),nn,nn,nn,F',F']
theorem AD(a b:Nat):PQ (a:Int) (b:Int)=((a &&& b:Nat):Int):=by
 rw[U_ (Lq a) (Lq b),F',F']
theorem BP(i:Nat):(1:Int) * 2 ^ (i:Int).toNat=((2 ^ i:Nat):Int):=by
 rw[Int.one_mul,F',Int.natCast_pow]
 rfl
theorem rA{i:Nat}(h:i<=1000000):A2 1 (i:Int):=⟨Lq i,by omega,by decide⟩
theorem Bb{ns:List Nat}{i n:Nat}(h:ns[i]?=some n):sM (ns.take (i + 1))=sM (ns.take i) ||| 2 ^ n:=by
 rw[Jn,h]
 exact lj
structure Jb where
 tool:Int
 needs:List Nat
 a:Bool
 b:Bool
def ndT(b:Bool)(ns:List Nat):T:=if b then .lst false (ns.map nT)else .tup (ns.map nT)
def jbT(j:Jb):T:=if j.a then .lst false [.int j.tool,ndT j.b j.needs]else .tup [.int j.tool,ndT j.b j.needs]
def jsT(c o:Bool)(J:List Jb):T:=if c then .tup (J.map jbT)else .lst o (J.map jbT)
def aA(J:List Jb):Rws:=J.map fun j=>(j.tool,sM j.needs)
theorem gq{ns:List Nat}:erL (ns.map nT)=ns.map nT:=by rw[fC];rfl
theorem dP{b:Bool}{ns:List Nat}:er (ndT b ns)=ndT b ns:=by
 cases b
 ·show er (.tup (ns.map nT))=.tup (ns.map nT)
  rw[er,gq]
 show er (.lst false (ns.map nT))=.lst false (ns.map nT)
 rw[er,gq]
theorem d9{b:Bool}{ns:List Nat}:isAny (ndT b ns)=false:=by cases b <;> rfl
theorem da{b:Bool}{ns:List Nat}:items (ndT b ns)=some (ns.map nT):=by cases b <;> rfl
theorem gx{j:Jb}:er (jbT j)=jbT j:=by
 unfold jbT
 cases j.a
 ·show er (.tup [.int j.tool,ndT j.b j.needs])=.tup [.int j.tool,ndT j.b j.needs]
  rw[er,erL,erL,erL,dP];rfl
 show er (.lst false [.int j.tool,ndT j.b j.needs])=.lst false [.int j.tool,ndT j.b j.needs]
 rw[er,erL,erL,erL,dP];rfl
theorem f6{j:Jb}:isAny (jbT j)=false:=by unfold jbT;cases j.a <;> rfl
theorem f9{j:Jb}:aV (jbT j)=true:=by rw[<-gx];exact bz _
theorem fx{b:Bool}{ns:List Nat}:aV (ndT b ns)=true:=by rw[<-dP];exact bz _
theorem k8{j:Jb}{k:T->Prop}:ixT (jbT j) (.int 0) k=k (.int j.tool):=by unfold jbT;cases j.a <;> rfl
theorem jO{j:Jb}{k:T->Prop}:ixT (jbT j) (.int 1) k=k (ndT j.b j.needs):=by unfold jbT;cases j.a <;> rfl
theorem iS{c o:Bool}{J:List Jb}:er (jsT c o J)=jsT c false J:=by
 have e:erL (J.map jbT)=J.map jbT:=by rw[fC];exact Ji fun _ _=>gx
 cases c
 ·show er (.lst o (J.map jbT))=.lst false (J.map jbT)
  rw[er,e]
 show er (.tup (J.map jbT))=.tup (J.map jbT)
 rw[er,e]
theorem d5{c o:Bool}{J:List Jb}:isAny (jsT c o J)=false:=by cases c <;> rfl
theorem eP{c o:Bool}{J:List Jb}:items (jsT c o J)=some (J.map jbT):=by cases c <;> rfl
theorem sD(n:Nat):(((2 ^ n:Nat):Int) - 1)=((2 ^ n - 1:Nat):Int):=by
 have:0 < 2 ^ n:=Jo n
 omega
theorem eA{l:List Nat}:bD (l.map nT)=true:=by rw[je];exact Kf.mpr fun _ _=>rfl
theorem AK{R:Rws}{d i:Nat}{r:Int × Nat}(h:R[i]?=some r):((m_ (i + 1)).filter (rdB R d)).map nT=((m_ i).filter (rdB R d)).map nT++if !d.testBit i && (r.2 &&& d == r.2)then [nT i]else []:=by
 rw[Kv,KA,A']
 congr 1
 have:rdB R d i=(!d.testBit i && (r.2 &&& d == r.2)):=by unfold rdB;rw[h]
 rw[LV,MJ,this]
 split <;> rfl
theorem Fd(a b:Nat):decide (((a &&& b:Nat):Int)=(a:Int))=(a &&& b == a):=by
 by_cases h:a &&& b=a
 ·rw[h,decide_eq_true rfl,beq_self_eq_true]
 rw[decide_eq_false (by omega)]
 exact(beq_eq_false_iff_ne.mpr h).symm
theorem jP{α:Type}{g:α->T}{l:List α}{n i:Nat}{t:T}(h:(MY (fun(i:Nat) x=>T.tup [T.int (i:Int),x]) (m_ n) (l.map g))[i]?=some t):∃ x,l[i]?=some x/\t=.tup [.int (i:Int),g x]:=by
 rw[Ma,B']at h
 cases e1:(m_ n)[i]? with
 | none=>rw[e1]at h;cases h
 | some j=>
  cases e2:l[i]? with
  | none=>rw[e1,e2]at h;cases h
  | some x=>
   rw[e1,e2]at h
   cases h
   obtain⟨h1,h2⟩:=c_.mp e1
   rw[List.getElem_range]at h2
   exact⟨x,rfl,by rw[h2]⟩
theorem dX{α:Type}{g:α->T}{l:List α}:(MY (fun(i:Nat) x=>T.tup [T.int (i:Int),x]) (m_ l.length) (l.map g)).length=l.length:=by
 rw[Mh,y_,b_];omega
theorem zk{R:Rws}:intsOf (R.map fun r=>T.int r.1)=some (R.map fun r=>r.1):=by
 rw[show(R.map fun r=>T.int r.1)=(R.map fun r=>r.1).map T.int by rw[II];rfl]
 exact l6 _
theorem eX{c:Bool}{J:List Jb}:aV (jsT c false J)=true:=by rw[<-iS (o:=false)];exact bz _
theorem vm{d i:Nat}:(d &&& 2 ^ i=0)↔d.testBit i=false:=by
 constructor
 ·intro h
  have:=congrArg (fun x=>x.testBit i) h
  simp only[Le,Nat.testBit_two_pow_self,Mg,K6]at this
  exact this
 intro h
 apply JR
 intro j
 rw[Le,Mj,K6]
 by_cases e:i=j
 ·subst e;rw[h];rfl
 rw[decide_eq_false e,ML]
theorem Il(d i:Nat):(((d &&& 2 ^ i:Nat):Int) != 0)=d.testBit i:=by
 cases e:d.testBit i with
 | false=>rw[vm.mpr e];rfl
 | true=>
  refine bne_iff_ne.mpr fun z=>?_
  have:d &&& 2 ^ i=0:=by omega
  rw[vm.mp this]at e
  cases e
def mn0:List Int->Int
 | []=>0
 | x::l=>l.foldl min x
theorem pH:∀(l:List Int) (x:Int),l.foldl min x<=x/\∀ y∈l,l.foldl min x<=y
 | [],x=>⟨Ko _,fun y m=>nomatch m⟩
 | z::l,x=>by
  obtain⟨h1,h2⟩:=pH l (min x z)
  rw[Kt]
  refine⟨by omega,fun y m=>?_⟩
  rcases u_.mp m with rfl | m
  ·omega
  exact h2 y m
theorem lU:∀(l:List Int) (x:Int),l.foldl min x=x\/l.foldl min x∈l
 | [],x=>.inl rfl
 | z::l,x=>by
  rw[Kt]
  rcases lU l (min x z)with h | h
  ·by_cases q:x<=z
   ·exact .inl (by rw[h];omega)
   exact .inr (by rw[h,show min x z=z by omega];exact r_)
  exact .inr (l_ _ h)
theorem DX{l:List Int}{m:Int}(h:l=[]/\m=0\/m∈l/\∀ n∈l,m<=n):m=mn0 l:=by
 rcases h with⟨rfl,rfl⟩ | ⟨h1,h2⟩
 ·rfl
 cases l with
 | nil=>cases h1
 | cons x l=>
  have a:=pH l x
  have b:mn0 (x::l)∈x::l:=(lU l x).elim (fun e=>by show l.foldl min x∈_;rw[e];exact r_) (l_ _)
  have c:=h2 _ b
  have d:mn0 (x::l)<=m:=(u_.mp h1).elim (fun e=>by rw[e];exact a.1) (a.2 m)
  omega
noncomputable def lv(R:Rws):Nat->Nat->Option Int->Int
 | 0,_,_=>0
 | f + 1,d,t=>mn0 ((rdy R d).map fun i=>lv R f (d ||| 2 ^ i) (some (tl R i)) + cst t (tl R i))
theorem v3{R:Rws}:∀(f g d:Nat) (t:Option Int),d < 2 ^ R.length->2 ^ R.length - d<=f->2 ^ R.length - d<=g->lv R f d t=lv R g d t
 | 0,g,d,t,hd,hf,_=>by omega
 | f + 1,0,d,t,hd,_,hg=>by omega
 | f + 1,g + 1,d,t,hd,hf,hg=>by
  rw[lv,lv]
  congr 1
  refine Ji fun i m=>?_
  have h1:=uX (dj m)
  have h2:=jA hd (bF m)
  rw[v3 f g (d ||| 2 ^ i) _ h2 (by omega) (by omega)]
def Lv(R:Rws)(d:Nat)(t:Option Int):Int:=lv R (2 ^ R.length) d t
theorem CI{R:Rws}{d:Nat}{t:Option Int}(hd:d < 2 ^ R.length):Lv R d t=mn0 ((rdy R d).map fun i=>Lv R (d ||| 2 ^ i) (some (tl R i)) + cst t (tl R i)):=by
 unfold Lv
 rw[v3 _ (2 ^ R.length + 1) d t hd (by omega) (by omega),lv]
theorem rz(R:Rws):zF R (Lv R):=fun d t hd ht=>by
 have e:=CI (t:=t) hd
 cases h:rdy R d with
 | nil=>exact .inl ⟨h,by rw[e,h];rfl⟩
 | cons i l=>
  rw[h]at e
  have a:=pH (l.map fun i=>Lv R (d ||| 2 ^ i) (some (tl R i)) + cst t (tl R i)) (Lv R (d ||| 2 ^ i) (some (tl R i)) + cst t (tl R i))
  refine .inr ⟨?_,fun j m=>?_⟩
  ·rw[e,h]
   rcases lU (l.map fun i=>Lv R (d ||| 2 ^ i) (some (tl R i)) + cst t (tl R i)) (Lv R (d ||| 2 ^ i) (some (tl R i)) + cst t (tl R i))with q | q
   ·exact⟨i,r_,q⟩
   obtain⟨j,m,ej⟩:=B_.mp q
   exact⟨j,l_ _ m,ej.symm⟩
  rw[h]at m
  rw[e]
  rcases u_.mp m with rfl | m
  ·exact a.1
  exact a.2 _ (B_.mpr ⟨j,m,rfl⟩)
abbrev Ent:=(Nat × Option Int) × Int
def tK:Option Int->Key
 | none=>.inr none
 | some x=>.inl x
def tT:Option Int->T
 | none=>.non
 | some x=>.int x
def kD(d:Nat)(t:Option Int):List Key:=[.inl (d:Int),tK t]
def dM(D:List Ent):List (List Key × T):=D.map fun e=>(kD e.1.1 e.1.2,.int e.2)
theorem Eg{a b:Option Int}(h:tK a=tK b):a=b:=by
 cases a <;> cases b <;> cases h <;> rfl
theorem zQ{d d':Nat}{t t':Option Int}(h:kD d t=kD d' t'):(d,t)=(d',t'):=by
 obtain⟨h1,h2⟩:=JC h
 have h1:=UY h1
 rw[Eg (JC h2).1,show d=d' by omega]
def DOk(R:Rws)(D:List Ent):Prop:=∀ e∈D,e.2=Lv R e.1.1 e.1.2
theorem sW{R:Rws}:∀ {D:List Ent} {d:Nat} {t:Option Int},DOk R D->(d,t)∈D.map (·.1)->kZ (dM D) (kD d t)=some (.int (Lv R d t)):=by
 intro D d t
 induction D with
 | nil=>intro _ m;cases m
 | cons e D ih=>
  intro ok m
  show J2 _ (List.find? _ ((kD e.1.1 e.1.2,T.int e.2)::dM D))=_
  rw[IZ]
  by_cases z:kD e.1.1 e.1.2=kD d t
  ·rw[decide_eq_true z]
   have:=zQ z
   have oe:=ok e r_
   have e1:e.1.1=d:=congrArg (·.1) this
   have e2:e.1.2=t:=congrArg (·.2) this
   show some (T.int e.2)=_
   rw[oe,e1,e2]
  rw[decide_eq_false z]
  refine ih (fun e m=>ok e (l_ _ m)) ?_
  rw[k_]at m
  rcases u_.mp m with q | q
  ·exact absurd (by rw[<-q]) z
  exact q
theorem Df{D:List Ent}{d:Nat}{t:Option Int}{v:Int}(h:(d,t) ∉ D.map (·.1)):iJ (dM D) (kD d t) (.int v)=dM (D++[((d,t),v)]):=by
 unfold iJ
 have:((dM D).any fun kv=>decide (kv.1=kD d t))=false:=by
  rw[JN]
  intro z
  obtain⟨kv,m,e⟩:=Ki.mp z
  obtain⟨e',m',rfl⟩:=B_.mp m
  have:=zQ (of_decide_eq_true e)
  exact h (B_.mpr ⟨e',m',this⟩)
 rw[this]
 show dM D++[(kD d t,T.int v)]=_
 unfold dM
 rw[A']
 rfl
theorem uO{D:List Ent}:erT (dM D)=dM D:=by
 unfold dM
 induction D with
 | nil=>rfl
 | cons e D ih=>rw[k_,erT,ih];rfl
theorem pA{t:Option Int}:de [tT t]=some [tK t]:=by cases t <;> rfl
theorem vv{t:Option Int}:er (tT t)=tT t:=by cases t <;> rfl
theorem iF{t:Option Int}:isAny (tT t)=false:=by cases t <;> rfl
theorem iw{t:Option Int}:aV (tT t)=true:=by cases t <;> rfl
theorem kL{t:Option Int}:bE (tT t)=true:=by cases t <;> rfl
theorem vn{t:Option Int}{u:Int}{k:T->Prop}:eqT (tT t) (.int u) k=k (.bl (decide (t=some u))):=by
 cases t with
 | none=>
  have e:eqD (dt (tT none)) (dt (.int u))=decide (none=some u):=by
   show eqD (dt .non) (dt (.int u))=decide (none=some u)
   rw[decide_eq_false (fun z=>nomatch z)]
   simp only[dt,eqD]
  unfold eqT
  rw[e]
  exact propext ⟨fun h=>h.2.2.2,fun h=>⟨rfl,rfl,show(0:Nat) < 190 by decide,h⟩⟩
 | some x=>
  refine yr.trans ?_
  rw[show decide (x=u)=decide (some x=some u)from decide_eq_decide.mpr ⟨congrArg some,v_⟩]
theorem hU{D:List Ent}:jg (dM D)=true:=by
 unfold dM
 induction D with
 | nil=>rfl
 | cons e D ih=>rw[k_,jg,ih];rfl
theorem kx{D:List Ent}:hV (dM D)=true:=by
 unfold dM
 induction D with
 | nil=>rfl
 | cons e D ih=>rw[k_,hV,ih];rfl
theorem kH:hV []=true:=rfl
theorem cV{α:Type}{g:α->T}{l:List α}{i:Nat}{x:α}(h:l[i]?=some x):atI (l.map g) (i:Int)=some (g x):=kM (by rw[B',h];rfl)
theorem yi{R:Rws}{i:Nat}(h:i < R.length):∃ m,R[i]?=some (tl R i,m):=by
 refine⟨R[i].2,?_⟩
 unfold tl
 rw[C_,a_ h]
 rfl
theorem EJ{R:Rws}{ms:List Int}(h:∀ x,x∈ms↔∃ r∈R,x=r.1)(t:Option Int):t∈none::ms.map some↔TS R t:=by
 rw[u_,B_]
 refine or_congr_right ⟨?_,?_⟩
 ·rintro⟨x,m,rfl⟩
  obtain⟨r,mr,rfl⟩:=(h x).mp m
  obtain⟨i,hi,e⟩:=Jk.mp mr
  refine⟨i,hi,?_⟩
  unfold tl
  rw[C_,a_ hi,e]
  rfl
 rintro⟨i,hi,rfl⟩
 obtain⟨m,em⟩:=yi hi
 exact⟨tl R i,(h _).mpr ⟨_,t_ em,rfl⟩,rfl⟩
theorem Av{R:Rws}{ms:List Int}(u:ms.Pairwise (· < ·))(h:∀ x,x∈ms↔∃ r∈R,x=r.1):(none::ms.map some).length<=R.length + 1:=by
 have:=dg (m:=R.map (·.1)) (u.imp fun h=>MZ h) fun z hz=>by
  obtain⟨r,m,rfl⟩:=(h z).mp hz
  exact B_.mpr ⟨r,m,rfl⟩
 rw[b_]at this
 rw[o_,b_]
 omega
theorem Aq{ms:List Int}:T.non::Kj (fun x=>T.int x) ms=(none::ms.map some).map tT:=by
 rw[k_,II];rfl
theorem Fx{ms:List Int}(u:ms.Pairwise (· < ·)):(none::ms.map some).Nodup:=by
 refine E_.mpr ⟨fun z=>?_,?_⟩
 ·obtain⟨x,_,e⟩:=B_.mp z
  cases e
 unfold List.Nodup
 rw[KS]
 exact u.imp fun h e=>MZ h (v_ e)
noncomputable def Hld(R:Rws)(D:List Ent)(s:Nat)(l:List (Option Int)):Prop:=DOk R D/\∀ d t,(d,t)∈D.map (·.1)↔(2 ^ R.length - s<=d/\d < 2 ^ R.length/\TS R t)\/(d=2 ^ R.length - 1 - s/\t∈l)
theorem GN(R:Rws):Hld R [] 0 []:=⟨fun e m=>(by cases m),fun d t=>⟨fun m=>(by cases m),fun h=>by
 rcases h with h | h
 ·omega
 cases h.2⟩⟩
theorem BK{R:Rws}{D:List Ent}{s:Nat}{l:List (Option Int)}{t:Option Int}(h:Hld R D s l):Hld R (D++[((2 ^ R.length - 1 - s,t),Lv R (2 ^ R.length - 1 - s) t)]) s (l++[t]):=by
 obtain⟨h1,h2⟩:=h
 refine⟨fun e m=>?_,fun d u=>?_⟩
 ·rcases D_.mp m with m | m
  ·exact h1 e m
  rw[C'.mp m]
 rw[A',D_,h2 d u,D_,k_,J9,C',C',Prod.mk.injEq,and_or_left,or_assoc]
theorem xE{R:Rws}{D:List Ent}{s:Nat}{l:List (Option Int)}(hs:s < 2 ^ R.length)(h:Hld R D s l)(hl:∀ t,t∈l↔TS R t):Hld R D (s + 1) []:=by
 refine⟨h.1,fun d t=>?_⟩
 rw[h.2 d t,hl t]
 constructor
 ·rintro(⟨a,b,c⟩ | ⟨a,b⟩)
  ·exact .inl ⟨by omega,b,c⟩
  exact .inl ⟨by omega,by omega,b⟩
 rintro(⟨a,b,c⟩ | ⟨_,b⟩)
 ·by_cases z:d=2 ^ R.length - 1 - s
  ·exact .inr ⟨z,c⟩
  exact .inl ⟨by omega,b,c⟩
 cases b
theorem Dv{R:Rws}{D:List Ent}{s i:Nat}{l:List (Option Int)}(hs:s < 2 ^ R.length)(h:Hld R D s l)(m:i∈rdy R (2 ^ R.length - 1 - s)):((2 ^ R.length - 1 - s) ||| 2 ^ i,some (tl R i))∈D.map (·.1):=by
 refine(h.2 _ _).mpr (.inl ?_)
 have h1:=uX (dj m)
 have h2:=jA (n:=R.length) (d:=2 ^ R.length - 1 - s) (by omega) (bF m)
 exact⟨by omega,h2,.inr ⟨i,bF m,rfl⟩⟩
theorem zI{l:List Nat}{g:Nat->Int}:intsOf (l.map fun i=>T.int (g i))=some (l.map g):=by
 rw[show(l.map fun i=>T.int (g i))=(l.map g).map T.int by rw[II];rfl]
 exact l6 _
theorem xZ{lo:Int}{n:Nat}:(dnT lo n).length=n:=by unfold dnT;rw[b_,y_]
theorem GD{lo:Int}{n i:Nat}{t:T}(h:(dnT lo n)[i]?=some t):i < n/\t=.int (lo - i):=by
 have hi:=(c_.mp h).1
 rw[xZ]at hi
 unfold dnT at h
 rw[B',JU hi]at h
 cases h
 exact⟨hi,rfl⟩
theorem gD{α:Type}{l:List α}{j:Nat}{t:α}(nd:l.Nodup)(h:l[j]?=some t):t ∉ l.take j:=fun m=>by
 obtain⟨hj,e⟩:=c_.mp h
 have s:l=l.take j++t::l.drop (j + 1):=by
  rw[<-e,List.getElem_cons_drop,IF]
 rw[s,JA]at nd
 exact nd.2.2 t m t r_ rfl
noncomputable def gd0(R:Rws)(d:Nat)(t:Option Int):List Nat:=(rdy R d).filter fun i=>decide (Lv R (d ||| 2 ^ i) (some (tl R i)) + cst t (tl R i)=Lv R d t)
theorem rn{R:Rws}{d:Nat}{t:Option Int}(nr:aY R)(hd:d < 2 ^ R.length)(ne:d≠2 ^ R.length - 1)(ht:TS R t):∃ i l,gd0 R d t=i::l/\i∈rdy R d/\Lv R (d ||| 2 ^ i) (some (tl R i)) + cst t (tl R i)=Lv R d t/\∀ j∈rdy R d,Lv R (d ||| 2 ^ j) (some (tl R j)) + cst t (tl R j)=Lv R d t->i<=j:=by
 have h0:=yt nr hd ne
 rcases rz R d t hd ht with⟨e,_⟩ | ⟨⟨i,m,e⟩,_⟩
 ·exact absurd e h0
 have hm:i∈gd0 R d t:=Jd.mpr ⟨m,decide_eq_true e.symm⟩
 have up:(gd0 R d t).Pairwise (· < ·):=(D3 R d).filter _
 cases h:gd0 R d t with
 | nil=>rw[h]at hm;cases hm
 | cons i0 l=>
  have m0:i0∈gd0 R d t:=by rw[h];exact r_
  obtain⟨m1,m2⟩:=Jd.mp m0
  refine⟨i0,l,rfl,m1,of_decide_eq_true m2,fun j mj ej=>?_⟩
  have hj:j∈gd0 R d t:=Jd.mpr ⟨mj,decide_eq_true ej⟩
  rw[h]at hj up
  rcases u_.mp hj with rfl | hj
  ·exact d_ _
  exact IJ ((Lo.mp up).1 j hj)
theorem El{a b:Option Int}:eqD (dt (tT a)) (dt (tT b))=decide (a=b):=by
 cases a with
 | none=>
  cases b with
  | none=>rw[decide_eq_true rfl];rfl
  | some y=>rw[decide_eq_false (fun z=>nomatch z)];show eqD (dt .non) (dt (.int y))=false;simp only[dt,eqD]
 | some x=>
  cases b with
  | none=>rw[decide_eq_false (fun z=>nomatch z)];show eqD (dt (.int x)) (dt .non)=false;simp only[dt,eqD]
  | some y=>
   show eqD (dt (.int x)) (dt (.int y))=_
   rw[dt,dt,eqD,JL]
   exact decide_eq_decide.mpr ⟨congrArg some,v_⟩
theorem u9{a b:Option Int}{k:T->Prop}:neT (tT a) (tT b) k=k (.bl (!decide (a=b))):=by
 unfold neT
 rw[El]
 refine propext ⟨fun h=>h.2.2.2,fun h=>⟨by cases a <;> rfl,by cases b <;> rfl,?_,h⟩⟩
 cases a
 ·show(0:Nat) < 190;decide
 show(0:Nat) < 190;decide
theorem lD{i:Nat}:∀(l:List Nat),qk (.int (i:Int)) (l.map nT)=decide (i∈l)
 | []=>rfl
 | a::l=>by
  have:=lD (i:=i) l
  unfold qk at this ⊢
  rw[k_,JB,this,dt,dt,eqD,JI,JX,beq_iff_eq,decide_eq_true_iff,decide_eq_true_iff,u_,eq_comm]
  exact or_congr_left ⟨fun h=>by omega,fun h=>by omega⟩
theorem iD:∀(l:List Nat),d8 (l.map nT)=true
 | []=>rfl
 | a::l=>by rw[k_,d8,iD l];rfl
theorem vC:∀(l:List Nat),bH (dtL (l.map nT))=0
 | []=>by simp only[J9,dtL,bH]
 | a::l=>by rw[k_,dtL,bH,vC l,dt,dpt.eq_def];rfl
theorem oV{l:List Nat}:(bH (dtL (l.map nT)) < 180)=True:=eq_true (by rw[vC];decide)
theorem kj{α:Type}{l:List α}{g:α->Bool}:boolsOf (l.map fun x=>T.bl (g x))=some (l.map g):=by
 induction l with
 | nil=>rfl
 | cons x l ih=>rw[k_,k_,boolsOf,ih]
theorem BS{J:List Jb}{os:List Nat}{i:Nat}{j:Jb}(h:J[i]?=some j):i∈rdy (aA J) (sM os)↔i ∉ os/\∀ n∈j.needs,n∈os:=by
 rw[eR]
 unfold aA
 rw[B',h]
 constructor
 ·rintro⟨r,e,h1,h2⟩
  cases e
  exact⟨fy.mp h1,yy.mp h2⟩
 rintro⟨h1,h2⟩
 exact⟨_,rfl,fy.mpr h1,yy.mpr h2⟩
theorem fN{j:Jb}(h:j.a=false):jbT j=.tup [.int j.tool,ndT j.b j.needs]:=by unfold jbT;rw[h];rfl
theorem ik{b:Bool}{ns:List Nat}{k:T->Prop}:qY [ndT b ns] k=k (.lst true (ns.map nT)):=by cases b <;> rfl
theorem kN{b:Bool}{ns:List Nat}{k:T->Prop}:DA [ndT b ns] k=k (.tup (ns.map nT)):=by cases b <;> rfl
def joT(j:Jb):T:=.tup [.int j.tool,if j.b then .lst true (j.needs.map nT)else .tup (j.needs.map nT)]
theorem lL{j:Jb}:er (joT j)=jbT ⟨j.tool,j.needs,false,j.b⟩:=by
 unfold joT
 cases j.b
 ·show er (.tup [.int j.tool,.tup (j.needs.map nT)])=.tup [.int j.tool,.tup (j.needs.map nT)]
  simp only[er,erL,gq]
 show er (.tup [.int j.tool,.lst true (j.needs.map nT)])=.tup [.int j.tool,.lst false (j.needs.map nT)]
 simp only[er,erL,gq]
theorem yO{j:Jb}:bE (joT j)=true:=by
 unfold joT
 cases j.b
 ·show bE (.tup [.int j.tool,.tup (j.needs.map nT)])=true
  simp only[bE,bD,eA,LB]
 show bE (.tup [.int j.tool,.lst true (j.needs.map nT)])=true
 simp only[bE,bD,eA,LB]
theorem iu{j:Jb}{k:T->Prop}:qY [jbT j] k=k (.lst true [.int j.tool,ndT j.b j.needs]):=by unfold jbT;cases j.a <;> rfl
theorem xP(m:Nat):gm 0 m=(m_ m).map nT:=by
 unfold gm
 exact Ji fun i _=>by rw[Mn]
theorem lO{l:List Nat}{i x:Nat}(h:l[i]?=some x):l.Perm (x::l.eraseIdx i):=by
 induction l generalizing i with
 | nil=>simp at h
 | cons a l ih=>
  cases i with
  | zero=>cases h;exact .refl _
  | succ i=>exact((ih (i:=i) h).cons a).trans (.swap _ _ _)
theorem qu{l:List Nat}{i:Nat}:(l.map nT).eraseIdx i=(l.eraseIdx i).map nT:=by
 induction l generalizing i with
 | nil=>rfl
 | cons a l ih=>
  cases i with
  | zero=>rfl
  | succ i=>rw[k_,LX,LX,ih,k_]
theorem zO{r:Int}(h0:0<=r)(h1:r < 3):∃ ns:List Int,ns.length=5/\(∀ v∈ns,0<=v/\v<=40)/\atI [T.lst true [T.int 0,T.int 1,T.int 2,T.int 3,T.int 4],T.lst true [T.int 3,T.int 7,T.int 0,T.int 11,T.int 2],T.lst true [T.int 40,T.int 5,T.int 1,T.int 6,T.int 0]] r=some (.lst true (ns.map T.int)):=by
 rcases(by omega:r=0\/r=1\/r=2)with rfl | rfl | rfl
 ·exact⟨[0,1,2,3,4],rfl,by decide,rfl⟩
 ·exact⟨[3,7,0,11,2],rfl,by decide,rfl⟩
 exact⟨[40,5,1,6,0],rfl,by decide,rfl⟩
theorem C0{r:Int}(h0:0<=r)(h1:r < 4):∃ v:Nat,1<=v/\v<=8/\atI [T.int 1,T.int 2,T.int 3,T.int 8] r=some (.int (v:Int)):=by
 rcases(by omega:r=0\/r=1\/r=2\/r=3)with rfl | rfl | rfl | rfl
 ·exact⟨1,by decide,by decide,rfl⟩
 ·exact⟨2,by decide,by decide,rfl⟩
 ·exact⟨3,by decide,by decide,rfl⟩
 exact⟨8,by decide,by decide,rfl⟩
noncomputable def JP(os:List Nat)(m p:Nat)(J:List Jb):Prop:=J.length=m/\(∀ j∈J,(j.a=false/\j.b=true/\0<=j.tool/\j.tool<=40)/\j.needs.length<=8/\∀ i∈j.needs,i < m)/\∀ q i,q < p->os[q]?=some i->∃ j,J[i]?=some j/\∀ x∈j.needs,x∈os.take q
theorem Iz{os:List Nat}{m:Nat}:JP os m 0 (w_ m ⟨0,[],false,true⟩):=by
 refine⟨JJ ..,fun j mj=>?_,fun q i h=>absurd h (La _)⟩
 rw[(List.mem_replicate.mp mj).2]
 exact⟨⟨rfl,rfl,by decide,by decide⟩,F_ _,fun i z=>(by cases z)⟩
theorem ya{os:List Nat}{m p i:Nat}{J:List Jb}{tv:Int}{nds:List Nat}(htv:0<=tv/\tv<=40)(nd:os.Nodup)(mem:∀ i,i∈os↔i < m)(h:JP os m p J)(e:os[p]?=some i)(hl:nds.length<=8)(hn:∀ x∈nds,x∈os.take p):JP os m (p + 1) (J.set i ⟨tv,nds,false,true⟩):=by
 obtain⟨h1,h2,h3⟩:=h
 have im:i < m:=(mem i).mp (t_ e)
 refine⟨by rw[IE,h1],fun j mj=>?_,fun q a hq ea=>?_⟩
 ·rcases LG mj with mj | rfl
  ·exact h2 j mj
  exact⟨⟨rfl,rfl,htv.1,htv.2⟩,hl,fun x hx=>(mem x).mp (IX (hn x hx))⟩
 by_cases z:q=p
 ·subst z
  rw[e]at ea
  cases ea
  exact⟨_,by rw[Jq (by omega)],hn⟩
 obtain⟨j,ej,hj⟩:=h3 q a (by omega) ea
 refine⟨j,?_,hj⟩
 rw[Jw]
 ·exact ej
 rintro rfl
 exact gD nd e (IH.mpr ⟨q,by rw[Jj (by omega)];exact ea⟩)
theorem AZ{os:List Nat}{m:Nat}{J:List Jb}(nd:os.Nodup)(mem:∀ i,i∈os↔i < m)(hl:os.length=m)(h:JP os m m J):aY (aA J):=by
 obtain⟨h1,h2,h3⟩:=h
 have hR:(aA J).length=m:=by unfold aA;rw[b_,h1]
 have key:∀(k p:Nat),p + k=m->Ch (aA J) (sM (os.take p)) (os.drop p):=by
  intro k
  induction k with
  | zero=>
   intro p e
   rw[List.drop_eq_nil_of_le (by omega)]
   trivial
  | succ k ih=>
   intro p e
   have hp:p < os.length:=by omega
   have ep:os[p]?=some os[p]:=a_ hp
   rw[Jv hp]
   obtain⟨j,ej,hj⟩:=h3 p os[p] (by omega) ep
   refine⟨(BS ej).mpr ⟨gD nd ep,hj⟩,?_⟩
   have:=ih (p + 1) (by omega)
   rw[Jn,ep]at this
   rw[<-lj]
   exact this
 refine⟨os,?_,?_⟩
 ·have:=key m 0 (by omega)
  exact this
 rw[hR]
 exact(tO nd fun i mi=>(mem i).mp mi).mp hl
theorem E1{m:Nat}:w_ m (T.tup [T.int 0,T.lst false []])=(w_ m (⟨0,[],false,true⟩:Jb)).map jbT:=by rw[KJ];rfl
theorem uG{n i:Nat}(h:i < n):ixN n (i:Int)=some i:=by
 unfold ixN
 rw[if_pos (by omega)]
 simp only[F']
 first | rfl | (rw[if_pos (by omega)])
theorem lY{R:Rws}:∀(o:List Nat) (d:Nat),Ch R d o->o.Nodup/\∀ i∈o,i < R.length/\d.testBit i=false
 | [],d,_=>⟨J_,fun i m=>(by cases m)⟩
 | i::o,d,h=>by
  obtain⟨h1,h2⟩:=lY o _ h.2
  have f:∀ j∈o,d.testBit j=false/\i≠j:=fun j m=>by
   have:=(h2 j m).2
   rw[j7,Bool.or_eq_false_iff,decide_eq_false_iff_not]at this
   exact this
  refine⟨E_.mpr ⟨fun m=>(f i m).2 rfl,h1⟩,fun j m=>?_⟩
  rcases u_.mp m with rfl | m
  ·exact⟨bF h.1,dj h.1⟩
  exact⟨(h2 j m).1,(f j m).1⟩
theorem yM{R:Rws}{o:List Nat}{d:Nat}(h:Ch R d o):o.length<=R.length:=by
 obtain⟨h1,h2⟩:=lY o d h
 have:=dg h1 fun i m=>IQ.mpr (h2 i m).1
 rwa[y_]at this
theorem F9{a b:List Nat}(h:ci a=ci b):a=b:=(List.map_inj_right (f:=fun(i:Nat)=>(i:Int)) fun x y z=>Int.ofNat.inj z).mp h
theorem dD{R:Rws}{L M:Int}{o p:List Nat}(h:aX R L o)(g:aX R M p):L=M/\o=p:=by
 have e1:=h.2.2 p g.1
 have e2:=g.2.2 o h.1
 rw[g.2.1]at e1
 rw[h.2.1]at e2
 have:=vg e2 e1
 exact⟨(JC this).1,F9 (JC this).2⟩
theorem kX{L:Int}{o:Bool}{x:List Nat}(h:x.length<=100):Gd (.tup [.int L,.lst o (x.map nT)]) 2:=
 Ip (lq Dy (lq (Ib (Bd fun _ _=>Dy) (by rw[b_];omega)) ud)) (show 2<=100000 by decide)
theorem kJ{ts:List T}{i:Int}{t:T}{k:T->Prop}:w9 (.lst true ts) (.int i) t k=cv (ixN ts.length i) (k:=⟨fun j=>k (.lst true (ts.set j t))⟩):=rfl
theorem d3{R:Rws}{L:Int}{o p:List Nat}(h:aX R L o)(c:Cmp R 0 p):L<=tkF R none p:=by
 have:=h.2.2 p c
 rw[ZM.lx]at this
 by_cases e:tkF R none p=L
 ·omega
 rw[if_neg e]at this
 have:=of_decide_eq_false this
 omega
theorem bc{R:Rws}{o:List Nat}(c:Cmp R 0 o)(i:Nat):i∈o↔i < R.length:=by
 constructor
 ·intro m
  exact((lY o 0 c.1).2 i m).1
 intro h
 have:(sM o).testBit i=true:=by
  rw[show sM o=2 ^ R.length - 1 from c.2,bQ,decide_eq_true h]
 exact aJ.mp this
def mkR(R:Rws)(i:Nat):Nat:=(R.getD i (0,0)).2
theorem yk{R:Rws}{i:Nat}(h:i < R.length):R[i]?=some (tl R i,mkR R i):=by
 unfold tl mkR
 rw[C_,a_ h]
 rfl
theorem cE{R:Rws}{d i:Nat}:i∈rdy R d↔i < R.length/\d.testBit i=false/\Sub (mkR R i) d:=by
 rw[eR]
 constructor
 ·rintro⟨r,e,h⟩
  have hi:=(c_.mp e).1
  rw[yk hi]at e
  cases e
  exact⟨hi,h⟩
 rintro⟨hi,h⟩
 exact⟨_,yk hi,h⟩
structure MP (R S:Rws) (f:Nat->Option Nat) (g:Int->Int):Prop where
 to:∀ i a,i < R.length->f i=some a->a < S.length/\tl S a=g (tl R i)/\∀ y,(mkR S a).testBit y=true->∃ x,(mkR R i).testBit x=true/\f x=some y
 inj:∀ i j a,i < R.length->j < R.length->f i=some a->f j=some a->i=j
 sur:∀ a,a < S.length->∃ i,i < R.length/\f i=some a
theorem CD{R S:Rws}{f:Nat->Option Nat}{g:Int->Int}(M:MP R S f g):∀(o dn:List Nat),(∀ i∈dn,i < R.length)->Ch R (sM dn) o->Ch S (sM (dn.filterMap f)) (o.filterMap f)
 | [],_,_,_=>trivial
 | i::o,dn,hd,h=>by
  obtain⟨hi,h1,h2⟩:=cE.mp h.1
  have nx:=CD M o (dn++[i]) (fun j m=>(D_.mp m).elim (hd j) fun z=>by rw[C'.mp z];exact hi) (by rw[lj];exact h.2)
  rw[List.filterMap_append]at nx
  cases e:f i with
  | none=>
   rw[Jy e]
   rw[Jy e,Mo,IP]at nx
   exact nx
  | some a=>
   rw[Jm e]
   rw[Jm e,Mo,lj]at nx
   obtain⟨ha,_,hn⟩:=M.to i a hi e
   refine⟨cE.mpr ⟨ha,fy.mpr fun m=>?_,fun y hy=>?_⟩,nx⟩
   ·obtain⟨j,mj,ej⟩:=JF.mp m
    have:=M.inj i j a hi (hd j mj) e ej
    subst this
    exact fy.mp h1 mj
   obtain⟨x,hx,ex⟩:=hn y hy
   exact aJ.mpr (JF.mpr ⟨x,aJ.mp (h2 x hx),ex⟩)
theorem oW{R S:Rws}{f:Nat->Option Nat}{g:Int->Int}(M:MP R S f g){o:List Nat}(c:Cmp R 0 o):Cmp S 0 (o.filterMap f):=by
 refine⟨CD M o [] (fun i m=>nomatch m) c.1,?_⟩
 have lt:∀ a∈o.filterMap f,a < S.length:=fun a m=>by
  obtain⟨i,mi,e⟩:=JF.mp m
  exact(M.to i a ((bc c i).mp mi) e).1
 refine cA (zD lt) fun j hj=>?_
 rw[bQ,decide_eq_true_iff]at hj
 obtain⟨i,hi,e⟩:=M.sur j hj
 exact aJ.mpr (JF.mpr ⟨i,(bc c i).mpr hi,e⟩)
theorem jm{t:Option Int}{u:Int}:0<=cst t u/\cst t u<=1:=by unfold cst;split <;> decide
theorem mT{u:Int}:cst (some u) u=0:=if_pos rfl
theorem jE{t:Option Int}{u:Int}(h:t≠some u):cst t u=1:=if_neg h
theorem x9{R S:Rws}{f:Nat->Option Nat}{g:Int->Int}(M:MP R S f g):∀(o:List Nat) (t t':Option Int),(∀ i∈o,i < R.length)->tkF S t' (o.filterMap f)<=tkF R t o + if t'=t.map g then 0 else 1
 | [],t,t',_=>by
  show(0:Int)<=0 + _
  split <;> decide
 | i::o,t,t',h=>by
  have hi:=h i r_
  have hr:=fun j m=>h j (l_ _ m)
  rw[tkF]
  cases e:f i with
  | none=>
   rw[Jy e]
   have ih:=x9 M o (some (tl R i)) t' hr
   have c:=jm (t:=t) (u:=tl R i)
   by_cases q:t=some (tl R i)
   ·subst q
    rw[mT]
    omega
   ·rw[jE q]
    split at ih <;> split <;> omega
  | some a=>
   rw[Jm e,tkF,(M.to i a hi e).2.1]
   have ih:=x9 M o (some (tl R i)) (some (g (tl R i))) hr
   rw[Ld,if_pos rfl]at ih
   have c:=jm (t:=t') (u:=g (tl R i))
   have c2:=jm (t:=t) (u:=tl R i)
   by_cases z:t'=t.map g
   ·rw[if_pos z]
    by_cases q:t=some (tl R i)
    ·subst q
     have z:t'=some (g (tl R i)):=z
     rw[z,mT,mT]
     omega
    rw[jE q]
    omega
   rw[if_neg z]
   omega
theorem xw{R S:Rws}{f:Nat->Option Nat}{g:Int->Int}(M:MP R S f g){L L':Int}{o o':List Nat}(h:aX R L o)(h':aX S L' o'):L'<=L:=by
 have c:=oW M h.1
 have t:=x9 M o none none fun i m=>(bc h.1 i).mp m
 rw[Option.map_none,if_pos rfl,h.2.1]at t
 have:=d3 h' c
 omega
theorem uF{R S:Rws}{f:Nat->Option Nat}{g:Int->Int}(M:MP R S f g)(h:aY R):aY S:=by
 obtain⟨o,c⟩:=h
 exact⟨_,oW M c⟩
theorem A1{R S:Rws}{g:Int->Int}(hg:∀ a b,g a=g b->a=b)(e:S=R.map fun r=>(g r.1,r.2)):(∀ d o,Ch S d o↔Ch R d o)/\∀(o:List Nat) (t:Option Int),(∀ i∈o,i < R.length)->tkF S (t.map g) o=tkF R t o:=by
 have hl:S.length=R.length:=by rw[e,b_]
 have mk:∀ i,i < R.length->mkR S i=mkR R i/\tl S i=g (tl R i):=fun i hi=>by
  have:=yk hi
  have h2:S[i]?=some (g (tl R i),mkR R i):=by rw[e,B',this];rfl
  rw[yk (by omega)]at h2
  have:=v_ h2
  exact⟨congrArg (·.2) this,congrArg (·.1) this⟩
 have rd:∀ d i,i∈rdy S d↔i∈rdy R d:=fun d i=>by
  rw[cE,cE,hl]
  constructor
  ·rintro⟨a,b,c⟩
   exact⟨a,b,by rw[<-(mk i a).1];exact c⟩
  rintro⟨a,b,c⟩
  exact⟨a,b,by rw[(mk i a).1];exact c⟩
 refine⟨fun d o=>?_,fun o=>?_⟩
 ·induction o generalizing d with
  | nil=>exact Iff.rfl
  | cons i o ih=>exact and_congr (rd d i) (ih _)
 induction o with
 | nil=>intro t _;rfl
 | cons i o ih=>
  intro t h
  have hi:=h i r_
  rw[tkF,tkF,(mk i hi).2,<-ih (some (tl R i)) fun j m=>h j (l_ _ m)]
  show tkF S (some (g (tl R i))) o + _=tkF S (some (g (tl R i))) o + _
  congr 1
  unfold cst
  cases t with
  | none=>rfl
  | some u=>
   by_cases q:u=tl R i
   ·subst q;rw[Ld,if_pos rfl,if_pos rfl]
   rw[Ld,if_neg (fun z=>q (hg _ _ (v_ z))),if_neg fun z=>q (v_ z)]
theorem qd{R S:Rws}{g:Int->Int}(hg:∀ a b,g a=g b->a=b)(e:S=R.map fun r=>(g r.1,r.2)){L:Int}{o:List Nat}(h:aX R L o):aX S L o:=by
 obtain⟨h1,h2⟩:=A1 hg e
 have hl:S.length=R.length:=by rw[e,b_]
 have c:∀ p,Cmp S 0 p↔Cmp R 0 p:=fun p=>and_congr (h1 0 p) (by rw[hl])
 have tk:∀ p,Cmp R 0 p->tkF S none p=tkF R none p:=fun p q=>h2 p none fun i m=>(bc q i).mp m
 refine⟨(c o).mpr h.1,by rw[tk o h.1];exact h.2.1,fun p q=>?_⟩
 have q':=(c p).mp q
 rw[tk p q']
 exact h.2.2 p q'
theorem oS{α:Type}{l:List α}{i j:Nat}{a:α}(nd:l.Nodup)(e1:l[i]?=some a)(e2:l[j]?=some a):i=j:=by
 rcases My i j with h | h | h
 ·exact absurd (IH.mpr ⟨i,by rw[Jj h];exact e1⟩) (gD nd e2)
 ·exact h
 exact absurd (IH.mpr ⟨j,by rw[Jj h];exact e2⟩) (gD nd e1)
theorem cH{R:Rws}:∀(o:List Nat) (d:Nat),Ch R d o↔∀ p i,o[p]?=some i->i∈rdy R (orM d (o.take p))
 | [],d=>⟨fun _ p i h=>(by cases h),fun _=>trivial⟩
 | a::o,d=>by
  show _/\_↔_
  rw[cH o]
  constructor
  ·rintro⟨h1,h2⟩ p i e
   cases p with
   | zero=>cases e;exact h1
   | succ p=>exact h2 p i e
  intro h
  exact⟨h 0 a rfl,fun p i e=>h (p + 1) i e⟩
theorem sT{R S:Rws}{nu ne:Nat}(hl:S.length=R.length)(ht:∀ i,i < R.length->tl S i=tl R i)(hm:∀ i,i < R.length->mkR S i=if i=nu then mkR R i ||| 2 ^ ne else mkR R i){L:Int}{o:List Nat}(h:aX R L o){p q:Nat}(hp:o[p]?=some nu)(hq:o[q]?=some ne)(pq:q < p):aY S/\∀ L' o',aX S L' o'->L'=L:=by
 have tk:∀(o:List Nat) (t:Option Int),(∀ i∈o,i < R.length)->tkF S t o=tkF R t o:=by
  intro o
  induction o with
  | nil=>intro t _;rfl
  | cons i o ih=>
   intro t h
   rw[tkF,tkF,ht i (h i r_),ih _ fun j m=>h j (l_ _ m)]
 have c1:Cmp S 0 o:=by
  refine⟨(cH o 0).mpr fun r i e=>?_,by rw[hl];exact h.1.2⟩
  obtain⟨a,b,c⟩:=cE.mp ((cH o 0).mp h.1.1 r i e)
  refine cE.mpr ⟨by omega,b,?_⟩
  rw[hm i a]
  by_cases z:i=nu
  ·rw[if_pos z]
   intro y hy
   rw[j7,JX,decide_eq_true_iff]at hy
   rcases hy with hy | rfl
   ·exact c y hy
   have nd:=(lY o 0 h.1.1).1
   have er:r=p:=by
    subst z
    exact oS nd e hp
   subst er
   exact aJ.mpr (IH.mpr ⟨q,by rw[Jj pq];exact hq⟩)
  rw[if_neg z]
  exact c
 refine⟨⟨o,c1⟩,fun L' o' h'=>?_⟩
 have l1:=d3 h' c1
 rw[tk o none fun i m=>(bc h.1 i).mp m,h.2.1]at l1
 have c2:Cmp R 0 o':=by
  refine⟨(cH o' 0).mpr fun r i e=>?_,by rw[<-hl];exact h'.1.2⟩
  obtain⟨a,b,c⟩:=cE.mp ((cH o' 0).mp h'.1.1 r i e)
  refine cE.mpr ⟨by omega,b,fun y hy=>c y ?_⟩
  rw[hm i (by omega)]
  split
  ·rw[j7,hy];rfl
  exact hy
 have l2:=d3 h c2
 rw[<-tk o' none fun i m=>by have:=(bc h'.1 i).mp m;omega,h'.2.1]at l2
 omega
theorem qV{R:Rws}{u:Int}(h:∀ i,i < R.length->tl R i=u):∀(o:List Nat) (t:Option Int),(∀ i∈o,i < R.length)->tkF R t o=if o=[]\/t=some u then 0 else 1
 | [],t,_=>by rw[if_pos (.inl rfl)];rfl
 | i::o,t,hm=>by
  rw[tkF,h i (hm i r_),qV h o _ fun j m=>hm j (l_ _ m),if_pos (.inr rfl)]
  by_cases q:t=some u
  ·subst q;rw[mT,if_pos (.inr rfl)];rfl
  rw[jE q,if_neg (fun z=>z.elim (fun z=>nomatch z) q)];rfl
def fW(gone i:Nat):Option Nat:=if i=gone then none else some (if gone < i then i - 1 else i)
theorem kE{gone i a:Nat}(h:fW gone i=some a):i≠gone/\a=if gone < i then i - 1 else i:=by
 unfold fW at h
 split at h
 ·cases h
 rename_i z
 exact⟨z,(v_ h).symm⟩
theorem xX{gone i:Nat}(h:i≠gone):fW gone i=some (if gone < i then i - 1 else i):=if_neg h
theorem tL{R S:Rws}{gone:Nat}(hg:gone < R.length)(hl:S.length=R.length - 1)(ht:∀ i a,i < R.length->fW gone i=some a->tl S a=tl R i/\∀ y,(mkR S a).testBit y=true->∃ x,(mkR R i).testBit x=true/\fW gone x=some y):MP R S (fW gone) id where
 to:=fun i a hi e=>by
  obtain⟨z,ea⟩:=kE e
  refine⟨?_,(ht i a hi e).1,(ht i a hi e).2⟩
  rw[ea,hl]
  split <;> omega
 inj:=fun i j a hi hj e1 e2=>by
  obtain⟨z1,ea⟩:=kE e1
  obtain⟨z2,eb⟩:=kE e2
  rw[ea]at eb
  split at eb <;> split at eb <;> omega
 sur:=fun a ha=>by
  by_cases q:a < gone
  ·exact⟨a,by omega,by rw[xX (by omega),if_neg (by omega)]⟩
  exact⟨a + 1,by omega,by rw[xX (by omega),if_pos (by omega)];rfl⟩
theorem xt{R S:Rws}{to:List Nat}(hl:S.length=R.length)(tl':to.length=R.length)(nd:to.Nodup)(lt:∀ a∈to,a < R.length)(hb:∀ i x,i < R.length->(mkR R i).testBit x=true->x < R.length)(ht:∀ i a,to[i]?=some a->tl S a=tl R i/\∀ y,(mkR S a).testBit y=true↔∃ x,(mkR R i).testBit x=true/\to[x]?=some y):MP R S (fun i=>to[i]?) id/\∃ f,MP S R f id:=by
 have mem:∀ a,a < R.length->∃ i,i < R.length/\to[i]?=some a:=fun a ha=>by
  have:a∈to:=by
   by_cases z:a∈to
   ·exact z
   have:=dg (l:=a::to) (m:=m_ R.length) (E_.mpr ⟨z,nd⟩) fun b m=>IQ.mpr ((u_.mp m).elim (fun e=>by rw[e];exact ha) (lt b))
   rw[y_,o_]at this
   omega
  obtain⟨i,e⟩:=IH.mp this
  exact⟨i,by have:=(c_.mp e).1;omega,e⟩
 have inj:∀ i j a,to[i]?=some a->to[j]?=some a->i=j:=fun i j a e1 e2=>oS nd e1 e2
 have fnd:∀ i a,to[i]?=some a->(m_ R.length).find? (fun i=>decide (to[i]?=some a))=some i:=fun i a e=>by
  have hi:i < R.length:=by have:=(c_.mp e).1;omega
  cases q:(m_ R.length).find? (fun i=>decide (to[i]?=some a))with
  | none=>
   have:=List.find?_eq_none.mp q i (IQ.mpr hi)
   exact absurd (decide_eq_true e) this
  | some j=>
   have:=of_decide_eq_true (MK (p:=fun i=>decide (to[i]?=some a)) q)
   rw[inj i j a e this]
 have fnd':∀ i a,(m_ R.length).find? (fun i=>decide (to[i]?=some a))=some i->to[i]?=some a:=fun i a q=>of_decide_eq_true (MK (p:=fun i=>decide (to[i]?=some a)) q)
 refine⟨⟨fun i a hi e=>⟨by rw[hl];exact lt a (t_ e),(ht i a e).1,fun y hy=>((ht i a e).2 y).mp hy⟩,fun i j a _ _ e1 e2=>inj i j a e1 e2,fun a ha=>mem a (by omega)⟩,fun a=>(m_ R.length).find? (fun i=>decide (to[i]?=some a)),⟨fun a i ha e=>?_,fun a b i _ _ e1 e2=>?_,fun i hi=>?_⟩⟩
 ·have e:=fnd' i a e
  have hi:i < R.length:=by have:=(c_.mp e).1;omega
  refine⟨hi,(ht i a e).1.symm,fun x hx=>?_⟩
  by_cases q:x < to.length
  ·have ex:to[x]?=some to[x]:=a_ q
   exact⟨to[x],((ht i a e).2 _).mpr ⟨x,hx,ex⟩,fnd _ _ ex⟩
  exact absurd (hb i x hi hx) (by omega)
 ·have:=(fnd' i a e1).symm.trans (fnd' i b e2)
  exact v_ this
 have e:to[i]?=some to[i]:=a_ (by omega)
 exact⟨to[i],by rw[hl];exact lt _ (t_ e),fnd _ _ e⟩
def fA(n i:Nat):Option Nat:=if i < n then some i else none
def fB(n i:Nat):Option Nat:=if i < n then none else some (i - n)
structure Bes (R S:Rws):Prop where
 len:S.length=R.length + R.length
 tA:∀ i,i < R.length->tl S i=tl R i/\mkR S i=mkR R i
 tB:∀ i,i < R.length->tl S (i + R.length)=tl R i + 1000/\∀ y,(mkR S (i + R.length)).testBit y=true↔∃ x,(mkR R i).testBit x=true/\y=x + R.length
 bit:∀ i x,i < R.length->(mkR R i).testBit x=true->x < R.length
 few:∀ i,i < R.length->0<=tl R i/\tl R i < 1000
theorem Hf{R S:Rws}(B:Bes R S):MP S R (fA R.length) id where
 to:=fun i a hi e=>by
  unfold fA at e
  split at e
  ·rename_i z
   cases e
   refine⟨z,(B.tA i z).1.symm,fun y hy=>⟨y,by rw[(B.tA i z).2];exact hy,if_pos (B.bit i y z hy)⟩⟩
  cases e
 inj:=fun i j a _ _ e1 e2=>by
  unfold fA at e1 e2
  split at e1 <;> split at e2 <;> first | cases e1 | skip
  all_goals first | (cases e2;rfl) | cases e2
 sur:=fun a ha=>⟨a,by rw[B.len];omega,if_pos ha⟩
theorem GX{R S:Rws}(B:Bes R S):MP S R (fB R.length) (fun t=>t - 1000) where
 to:=fun i a hi e=>by
  unfold fB at e
  split at e
  ·cases e
  rename_i z
  cases e
  rw[B.len]at hi
  have h:=B.tB (i - R.length) (by omega)
  rw[show i - R.length + R.length=i by omega]at h
  refine⟨by omega,by rw[h.1];omega,fun y hy=>⟨y + R.length,(h.2 _).mpr ⟨y,hy,rfl⟩,?_⟩⟩
  unfold fB
  rw[if_neg (by omega),Lr]
 inj:=fun i j a _ _ e1 e2=>by
  unfold fB at e1 e2
  split at e1
  ·cases e1
  split at e2
  ·cases e2
  have h1:=v_ e1
  have h2:=v_ e2
  omega
 sur:=fun a ha=>⟨a + R.length,by rw[B.len];omega,by unfold fB;rw[if_neg (by omega),Lr]⟩
theorem pG{R S:Rws}(B:Bes R S):∀(o:List Nat) (t t1 t2:Option Int),(∀ i∈o,i < S.length)->(t=none/\t1=none/\t2=none\/(∃ a,a < 1000/\t=some a/\t1=some a)\/(∃ a,1000<=a/\t=some a/\t2=some (a - 1000)))->tkF R t1 (o.filterMap (fA R.length)) + tkF R t2 (o.filterMap (fB R.length))<=tkF S t o
 | [],_,_,_,_,_=>Ko _
 | i::o,t,t1,t2,h,rel=>by
  have hi:=h i r_
  have hr:=fun j m=>h j (l_ _ m)
  rw[tkF]
  by_cases z:i < R.length
  ·have ea:fA R.length i=some i:=if_pos z
   have eb:fB R.length i=none:=if_pos z
   have fw:=B.few i z
   rw[Jm ea,Jy eb,tkF,(B.tA i z).1]
   have ih:=pG B o (some (tl R i)) (some (tl R i)) t2 hr (.inr (.inl ⟨_,fw.2,rfl,rfl⟩))
   have c:cst t1 (tl R i)<=cst t (tl R i):=by
    rcases rel with⟨rfl,rfl,rfl⟩ | ⟨a,_,rfl,rfl⟩ | ⟨a,ha,rfl,rfl⟩
    ·exact Ko _
    ·exact Ko _
    rw[jE (t:=some a) (fun q=>by have:=v_ q;omega)]
    exact jm.2
   omega
  rw[B.len]at hi
  have ea:fA R.length i=none:=if_neg z
  have eb:fB R.length i=some (i - R.length):=if_neg z
  have hb:=B.tB (i - R.length) (by omega)
  rw[show i - R.length + R.length=i by omega]at hb
  have fw:=B.few (i - R.length) (by omega)
  rw[Jy ea,Jm eb,tkF,hb.1]
  have ih:=pG B o (some (tl R (i - R.length) + 1000)) t1 (some (tl R (i - R.length))) hr (.inr (.inr ⟨_,by omega,rfl,by rw[Int.add_sub_cancel]⟩))
  have c:cst t2 (tl R (i - R.length))<=cst t (tl R (i - R.length) + 1000):=by
   rcases rel with⟨rfl,rfl,rfl⟩ | ⟨a,ha,rfl,rfl⟩ | ⟨a,ha,rfl,rfl⟩
   ·exact Ko _
   ·rw[jE (t:=some a) (fun q=>by have:=v_ q;omega)]
    exact jm.2
   by_cases q:a=tl R (i - R.length) + 1000
   ·rw[q,mT,show tl R (i - R.length) + 1000 - 1000=tl R (i - R.length) by omega,mT]
    exact Ko _
   rw[jE (t:=some a) (fun w=>q (v_ w))]
   exact jm.2
  omega
theorem zo(R:Rws):∀(o p:List Nat) (t:Option Int),tkF R t (o++p)=tkF R t o + tkF R ((o.map fun i=>some (tl R i)).getLastD t) p
 | [],p,t=>by show _=0 + _;rw[Mn];rfl
 | i::o,p,t=>by
  rw[IV,tkF,tkF,zo R o p,k_,Mq]
  omega
theorem AR{R S:Rws}(B:Bes R S){L:Int}{o:List Nat}(h:aX R L o):aY S/\∀ L' o',aX S L' o'->L'=2 * L:=by
 have mo:=bc h.1
 have nd:=(lY o 0 h.1.1).1
 have key:Cmp S 0 (o++o.map (· + R.length)):=by
  refine⟨(cH _ 0).mpr fun p i e=>?_,?_⟩
  ·by_cases q:p < o.length
   ·rw[Jg q]at e
    rw[List.take_append_of_le_length (by omega)]
    obtain⟨a,b,c⟩:=cE.mp ((cH o 0).mp h.1.1 p i e)
    exact cE.mpr ⟨by rw[B.len];omega,b,by rw[(B.tA i a).2];exact c⟩
   rw[IT (by omega),B']at e
   cases ej:o[p - o.length]? with
   | none=>rw[ej]at e;cases e
   | some j=>
    rw[ej]at e
    cases e
    show j + R.length∈rdy S _
    obtain⟨a,b,c⟩:=cE.mp ((cH o 0).mp h.1.1 _ j ej)
    rw[List.take_append,IY (by omega)]
    refine cE.mpr ⟨by rw[B.len];omega,fy.mpr fun m=>?_,fun y hy=>?_⟩
    ·rcases D_.mp m with m | m
     ·have:=(mo _).mp m;omega
     rw[<-LA]at m
     obtain⟨x,mx,ex⟩:=B_.mp m
     have:x=j:=by omega
     subst this
     exact fy.mp b mx
    obtain⟨x,hx,rfl⟩:=((B.tB j a).2 y).mp hy
    refine aJ.mpr (n_ _ ?_)
    rw[<-LA]
    exact B_.mpr ⟨x,aJ.mp (c x hx),rfl⟩
  refine cA (zD fun i m=>?_) fun j hj=>?_
  ·rw[B.len]
   rcases D_.mp m with m | m
   ·have:=(mo i).mp m;omega
   obtain⟨x,mx,rfl⟩:=B_.mp m
   have:=(mo x).mp mx
   omega
  rw[bQ,decide_eq_true_iff,B.len]at hj
  refine aJ.mpr ?_
  by_cases q:j < R.length
  ·exact IG _ ((mo j).mpr q)
  exact n_ _ (B_.mpr ⟨j - R.length,(mo _).mpr (by omega),by omega⟩)
 have tA:∀(p:List Nat) (t:Option Int),(∀ i∈p,i < R.length)->tkF S t p=tkF R t p:=by
  intro p
  induction p with
  | nil=>intro t _;rfl
  | cons i p ih=>
   intro t hm
   rw[tkF,tkF,(B.tA i (hm i r_)).1,ih _ fun j m=>hm j (l_ _ m)]
 have tB:∀(p:List Nat) (t t':Option Int),(∀ i∈p,i < R.length)->(∀ u,0<=u->cst t (u + 1000)=cst t' u)->tkF S t (p.map (· + R.length))=tkF R t' p:=by
  intro p
  induction p with
  | nil=>intro t t' _ _;rfl
  | cons i p ih=>
   intro t t' hm hc
   have hi:=hm i r_
   rw[k_,tkF,tkF,(B.tB i hi).1,hc _ (B.few i hi).1,ih _ (some (tl R i)) (fun j m=>hm j (l_ _ m)) fun u _=>?_]
   unfold cst
   by_cases q:tl R i=u
   ·rw[q,if_pos rfl,if_pos rfl]
   rw[if_neg (fun z=>q (by have:=v_ z;omega)),if_neg fun z=>q (v_ z)]
 have up:tkF S none (o++o.map (· + R.length))=2 * L:=by
  rw[zo,tA o none fun i m=>(mo i).mp m,h.2.1,tB o _ none (fun i m=>(mo i).mp m) fun u hu=>?_,h.2.1]
  ·omega
  rw[jE (t:=none) (fun z=>nomatch z)]
  refine jE fun z=>?_
  cases e:o.map (fun i=>some (tl S i))with
  | nil=>rw[e]at z;cases z
  | cons a l=>
   have mz:(a::l).getLastD none∈a::l:=by rw[Mq];exact List.getLastD_mem_cons ..
   rw[e]at z
   rw[z,<-e]at mz
   obtain⟨i,mi,ei⟩:=B_.mp mz
   have il:=(mo i).mp mi
   have:=v_ ei
   rw[(B.tA i il).1]at this
   have:=(B.few i il).2
   omega
 refine⟨⟨_,key⟩,fun L' o' h'=>?_⟩
 have l1:=d3 h' key
 rw[up]at l1
 have s:=pG B o' none none none (fun i m=>(bc h'.1 i).mp m) (.inl ⟨rfl,rfl,rfl⟩)
 rw[h'.2.1]at s
 have a:=d3 h (oW (Hf B) h'.1)
 have b:=d3 h (oW (GX B) h'.1)
 omega
noncomputable def JOk(J:List Jb):Prop:=∀ j∈J,(j.a=false/\j.b=true/\0<=j.tool/\j.tool<=40)/\j.needs.length<=8/\∀ i∈j.needs,i < J.length
theorem fU{J:List Jb}(h:JOk J)(hl:J.length<=1000):∀ j∈J,∀ n∈j.needs,n<=1000:=fun j m n mn=>by
 have:=(h j m).2.2 n mn
 omega
def wJ(g:Nat)(j:Jb):Jb:=⟨j.tool,j.needs.map (fun x=>if g < x then x - 1 else x),false,true⟩
def rJ(to:List Nat)(j:Jb):Jb:=⟨j.tool,j.needs.map (fun x=>to.getD x 0),false,true⟩
theorem cn{J:List Jb}{i:Nat}{j:Jb}(h:J[i]?=some j):i < (aA J).length/\tl (aA J) i=j.tool/\mkR (aA J) i=sM j.needs:=by
 have hi:=(c_.mp h).1
 have e:(aA J)[i]?=some (j.tool,sM j.needs):=by unfold aA;rw[B',h];rfl
 have hl:i < (aA J).length:=(c_.mp e).1
 rw[yk hl]at e
 have:=v_ e
 exact⟨hl,congrArg (·.1) this,congrArg (·.2) this⟩
theorem aI{J:List Jb}:(aA J).length=J.length:=b_ ..
theorem yA{J:List Jb}(hj:JOk J):∀ i x,i < (aA J).length->(mkR (aA J) i).testBit x=true->x < (aA J).length:=fun i x hi hx=>by
 rw[aI]at hi ⊢
 have ej:J[i]?=some J[i]:=a_ hi
 rw[(cn ej).2.2]at hx
 exact(hj _ (I_ hi)).2.2 x (aJ.mp hx)
theorem yQ{to:List Nat}{n:Nat}(nd:to.Nodup)(hl:to.length=n)(lt:∀ a∈to,a < n)(a:Nat)(ha:a < n):∃ i,i < n/\to[i]?=some a:=by
 have:a∈to:=by
  by_cases z:a∈to
  ·exact z
  have:=dg (l:=a::to) (m:=m_ n) (E_.mpr ⟨z,nd⟩) fun b m=>IQ.mpr ((u_.mp m).elim (fun e=>by rw[e];exact ha) (lt b))
  rw[y_,o_]at this
  omega
 obtain⟨i,e⟩:=IH.mp this
 exact⟨i,by have:=(c_.mp e).1;omega,e⟩
theorem vO{J J':List Jb}{to:List Nat}(hj:JOk J)(nd:to.Nodup)(tl':to.length=J.length)(lt:∀ i∈to,i < J.length)(hl:J'.length=J.length)(h:∀(i a:Nat) (j:Jb),to[i]?=some a->J[i]?=some j->J'[a]?=some (rJ to j)){L:Int}{o:List Nat}(hf:aX (aA J) L o):aY (aA J')/\∀ L' o',aX (aA J') L' o'->L'=L:=by
 have M:=xt (R:=aA J) (S:=aA J') (to:=to) (by rw[aI,aI,hl]) (by rw[aI,tl']) nd (fun a m=>by rw[aI];exact lt a m) (yA hj) fun i a e=>by
  have hi:i < J.length:=by have:=(c_.mp e).1;omega
  have ej:J[i]?=some J[i]:=a_ hi
  have r1:=cn ej
  have r2:=cn (h i a _ e ej)
  refine⟨by rw[r1.2.1,r2.2.1];rfl,fun y=>?_⟩
  rw[r1.2.2,r2.2.2,aJ]
  show y∈J[i].needs.map _↔_
  rw[B_]
  have nb:=(hj _ (I_ hi)).2.2
  constructor
  ·rintro⟨x,m,rfl⟩
   have hx:x < to.length:=by rw[tl'];exact nb x m
   exact⟨x,aJ.mpr m,by rw[C_,a_ hx];rfl⟩
  rintro⟨x,m,e'⟩
  exact⟨x,aJ.mp m,by rw[C_,e'];rfl⟩
 obtain⟨M1,f,M2⟩:=M
 refine⟨uF M1 ⟨o,hf.1⟩,fun L' o' h'=>?_⟩
 have a:=xw M1 hf h'
 have b:=xw M2 h' hf
 omega
theorem qp{J:List Jb}{g:Nat}(hj:JOk J)(hg:g < J.length)(free:∀ j∈J,g ∉ j.needs){L:Int}{o:List Nat}(hf:aX (aA J) L o):aY (aA ((J.eraseIdx g).map (wJ g)))/\∀ L' o',aX (aA ((J.eraseIdx g).map (wJ g))) L' o'->L'<=L:=by
 have el:(J.eraseIdx g).length=J.length - 1:=by rw[Kl,if_pos hg]
 have M:=tL (R:=aA J) (S:=aA ((J.eraseIdx g).map (wJ g))) (gone:=g) (by rw[aI];exact hg) (by rw[aI,aI,b_,el]) fun i a hi e=>by
  obtain⟨z,ea⟩:=kE e
  rw[aI]at hi
  have ej:J[i]?=some J[i]:=a_ hi
  have r1:=cn ej
  have e2:((J.eraseIdx g).map (wJ g))[a]?=some (wJ g J[i]):=by
   rw[B',List.getElem?_eraseIdx,ea]
   split
   ·rw[if_neg (by omega),show i - 1 + 1=i by omega,ej];rfl
   rw[if_pos (by omega),ej];rfl
  have r2:=cn e2
  refine⟨by rw[r1.2.1,r2.2.1];rfl,fun y hy=>?_⟩
  rw[r2.2.2]at hy
  obtain⟨x,m,rfl⟩:=B_.mp (aJ.mp hy)
  refine⟨x,by rw[r1.2.2];exact aJ.mpr m,xX fun z=>?_⟩
  rw[z]at m
  exact free _ (I_ hi) m
 exact⟨uF M ⟨o,hf.1⟩,fun L' o' h'=>xw M hf h'⟩
def moT:Option Jb->T
 | none=>.non
 | some j=>joT j
theorem Fv{M:List (Option Jb)}(h:∀ a,a < M.length->∃ j,M[a]?=some (some j)):∃ J':List Jb,J'.length=M.length/\M=J'.map some:=by
 refine⟨M.map (·.getD ⟨0,[],false,true⟩),b_ ..,?_⟩
 rw[II]
 refine(L7 M).symm.trans (Ji fun x m=>?_)
 obtain⟨i,hi,e⟩:=Jk.mp m
 obtain⟨j,ej⟩:=h i hi
 rw[a_ hi,e]at ej
 cases ej
 rfl
theorem FQ{J:List Jb}{i g:Nat}{j:Jb}(h:J[i]?=some j):(J.take (i + 1)).eraseIdx g=if i=g then(J.take i).eraseIdx g else(J.take i).eraseIdx g++[j]:=by
 have hi:i < J.length:=(c_.mp h).1
 have tk:(J.take i).length=i:=by rw[D'];omega
 rw[Jn,h]
 show(J.take i++[j]).eraseIdx g=_
 rcases My i g with z | z | z
 ·rw[if_neg (by omega),Kn (by rw[j_,tk,JK];omega),Kn (by omega)]
 ·subst z
  rw[if_pos rfl,KY (by omega),Kn (l:=J.take i) (by omega),tk,KC]
  exact IP _
 rw[if_neg (by omega),List.eraseIdx_append_of_lt_length (by omega)]
theorem Ia{g:Nat}{j:Jb}:joT (wJ g j)=.tup [.int j.tool,.lst true (j.needs.map fun x=>nT (if g < x then x - 1 else x))]:=by
 show T.tup [.int j.tool,.lst true ((j.needs.map _).map nT)]=_
 rw[II];rfl
theorem HK{to:List Nat}{j:Jb}:moT (some (rJ to j))=.tup [.int j.tool,.lst true (j.needs.map fun x=>nT (to.getD x 0))]:=by
 show T.tup [.int j.tool,.lst true ((j.needs.map _).map nT)]=_
 rw[II];rfl
def frJ(J:List Jb):List Jb:=J.map fun j=>⟨j.tool,j.needs,false,j.b⟩
theorem Ef{o:Bool}{J:List Jb}:er (.lst o (J.map joT))=jsT false false (frJ J):=by
 show T.lst false (erL (J.map joT))=.lst false ((frJ J).map jbT)
 rw[fC]
 unfold frJ
 rw[II]
 exact congrArg _ (Ji fun j _=>lL)
theorem xB{J:List Jb}:aA (frJ J)=aA J:=by unfold aA frJ;rw[II];rfl
theorem Aa{J:List Jb}:(frJ J).length=J.length:=b_ ..
theorem BE{J:List Jb}{P:List Nat->Prop}(h:∀ j∈J,P j.needs):∀ j∈frJ J,P j.needs:=fun j m=>by
 obtain⟨i,mi,rfl⟩:=B_.mp m
 exact h i mi
theorem xf{o:Bool}{J:List Jb}{k:T->List T->Prop}(hl:J.length<=10)(hn:∀ j∈J,∀ n∈j.needs,n<=1000)(nr:aY (aA J))(q:∀(L:Int) (os:List Nat) z,aX (aA J) L os->k (.tup [.int L,.lst true (os.map nT)]) [z]):∃(t:T) (c:Bool) (J':List Jb),[T.lst o (J.map joT)]=[t]/\er t=jsT c false J'/\isAny t=false/\J'.length<=10/\(∀ j∈J',∀ n∈j.needs,n<=1000)/\aY (aA J')/\∀(L:Int) (os:List Nat) z,aX (aA J') L os->k (.tup [.int L,.lst true (os.map nT)]) [z]:=
 ⟨_,false,frJ J,rfl,Ef,rfl,by rw[Aa];exact hl,BE (P:=fun ns=>∀ n∈ns,n<=1000) hn,by rw[xB];exact nr,by rw[xB];exact q⟩
theorem eM{o:Bool}{J:List Jb}{k:T->List T->Prop}(hl:J.length<=10)(hn:∀ j∈J,∀ n∈j.needs,n<=1000)(nr:aY (aA J))(q:∀(L:Int) (os:List Nat) z,aX (aA J) L os->k (.tup [.int L,.lst true (os.map nT)]) [z]):∃(t:T) (c:Bool) (J':List Jb),[T.lst o (J.map fun x=>jbT x)]=[t]/\er t=jsT c false J'/\isAny t=false/\J'.length<=10/\(∀ j∈J',∀ n∈j.needs,n<=1000)/\aY (aA J')/\∀(L:Int) (os:List Nat) z,aX (aA J') L os->k (.tup [.int L,.lst true (os.map nT)]) [z]:=
 ⟨_,false,J,rfl,iS (c:=false) (o:=o),rfl,hl,hn,nr,q⟩
theorem Dn{a b:List Nat}(h:∀ x,x∈a↔x∈b):sM a=sM b:=by
 apply JR
 intro j
 rw[JI,aJ,aJ,h]
def oJ(j:Jb):Jb:=⟨100 - j.tool,j.needs.reverse++j.needs.take 1,false,true⟩
theorem HF{J:List Jb}:aA (J.map oJ)=(aA J).map fun r=>(100 - r.1,r.2):=by
 unfold aA
 rw[II,II]
 refine Ji fun j _=>?_
 show(100 - j.tool,sM (j.needs.reverse++j.needs.take 1))=(100 - j.tool,sM j.needs)
 rw[Dn fun x=>?_]
 rw[D_,Ke]
 exact⟨fun h=>h.elim id IX,.inl⟩
theorem xS{J:List Jb}{L:Int}{o:List Nat}(h:aX (aA J) L o):aX (aA (J.map oJ)) L o:=qd (g:=fun a=>100 - a) (fun a b e=>by omega) HF h
theorem qX{J:List Jb}{f:Jb->Jb}:(J.all fun x=>bE (joT (f x)))=true:=Kf.mpr fun _ _=>yO
def mJ(ne:Nat)(j:Jb):Jb:=⟨j.tool,j.needs++[ne],false,true⟩
theorem Am{J:List Jb}{nu ne:Nat}{j:Jb}:erL ((J.map fun x=>jbT x).set nu (T.tup [T.int j.tool,T.lst true (j.needs.map nT++[nT ne])]))=(J.set nu (mJ ne j)).map fun x=>jbT x:=by
 rw[iO,KI,KI,II]
 congr 1
 ·exact Ji fun _ _=>gx
 show er (T.tup [T.int j.tool,T.lst true (j.needs.map nT++[nT ne])])=T.tup [T.int j.tool,T.lst false ((j.needs++[ne]).map nT)]
 rw[show j.needs.map nT++[nT ne]=(j.needs++[ne]).map nT by rw[A'];rfl]
 simp only[er,erL,gq]
theorem yJ{J:List Jb}{nu ne:Nat}{j:Jb}(ej:J[nu]?=some j){L:Int}{o:List Nat}(h:aX (aA J) L o){p q:Nat}(hp:o[p]?=some nu)(hq:o[q]?=some ne)(pq:q < p):aY (aA (J.set nu (mJ ne j)))/\∀ L' o',aX (aA (J.set nu (mJ ne j))) L' o'->L'=L:=by
 have nl:nu < J.length:=(c_.mp ej).1
 have key:∀ i,i < (aA J).length->tl (aA (J.set nu (mJ ne j))) i=tl (aA J) i/\mkR (aA (J.set nu (mJ ne j))) i=if i=nu then mkR (aA J) i ||| 2 ^ ne else mkR (aA J) i:=fun i hi=>by
  rw[aI]at hi
  have ei:J[i]?=some J[i]:=a_ hi
  have r1:=cn ei
  by_cases z:i=nu
  ·subst z
   rw[ei]at ej
   cases ej
   have r2:=cn (J:=J.set i (mJ ne J[i])) (i:=i) (j:=mJ ne J[i]) (by rw[Jq hi])
   rw[r1.2.1,r1.2.2,r2.2.1,r2.2.2,if_pos rfl]
   exact⟨rfl,lj⟩
  have r2:=cn (J:=J.set nu (mJ ne j)) (i:=i) (j:=J[i]) (by rw[Jw (Oi z)];exact ei)
  rw[r1.2.1,r1.2.2,r2.2.1,r2.2.2,if_neg z]
  exact⟨rfl,rfl⟩
 exact sT (by rw[aI,aI,IE]) (fun i hi=>(key i hi).1) (fun i hi=>(key i hi).2) h hp hq pq
theorem zC{J:List Jb}{L:Int}{o:List Nat}(h:aX (aA J) L o)(hl:0 < J.length):∃ g,g < J.length/\∀ j∈J,g ∉ j.needs:=by
 have nd:=(lY o 0 h.1.1).1
 have ol:o.length=J.length:=by
  have q:=(tO nd fun i m=>(bc h.1 i).mp m).mpr h.1.2
  rw[q,aI]
 have eg:o[o.length - 1]?=some (o[o.length - 1]'(by omega)):=a_ _
 generalize o[o.length - 1]=g at eg
 have gl:g < J.length:=by have:=(bc h.1 g).mp (t_ eg);rwa[aI]at this
 refine⟨g,gl,fun j m mg=>?_⟩
 obtain⟨i,hi,rfl⟩:=Jk.mp m
 have ei:J[i]?=some J[i]:=a_ hi
 have mi:i∈o:=(bc h.1 i).mpr (by rw[aI];exact hi)
 obtain⟨p,ep⟩:=IH.mp mi
 obtain⟨_,_,sb⟩:=cE.mp ((cH o 0).mp h.1.1 p i ep)
 rw[(cn ei).2.2]at sb
 have:g∈o.take p:=aJ.mp (sb g (aJ.mpr mg))
 obtain⟨q,eq⟩:=IH.mp this
 have ql:q < p:=by
  have:=(c_.mp eq).1
  rw[D']at this
  omega
 rw[Jj ql]at eq
 have:=oS nd eq eg
 have:=(c_.mp ep).1
 omega
theorem yX{p:Nat->Bool}{i:Nat}:((m_ (i + 1)).filter p).map nT=((m_ i).filter p).map nT++if p i then [nT i]else []:=by
 rw[Kv,KA,A',LV,MJ]
 congr 1
 split <;> rfl
theorem DZ{α:Type}{l:List α}{g:α->Bool}:(l.map g).any id=l.any g:=by rw[K'];rfl
def frB(J:List Jb)(k:Nat):Bool:=!J.any fun j=>decide (k∈j.needs)
theorem uU{J:List Jb}{k:Nat}:frB J k=true↔∀ j∈J,k ∉ j.needs:=by
 unfold frB
 rw[KR,Mx]
 exact⟨fun h j m z=>h j m (decide_eq_true z),fun h j m z=>h j m (of_decide_eq_true z)⟩
def bJ(N:Nat)(j:Jb):Jb:=⟨j.tool + 1000,j.needs.map (· + N),false,true⟩
theorem F4{F:List Jb}(hj:JOk F):Bes (aA F) (aA (F++F.map (bJ F.length))) where
 len:=by rw[aI,aI,j_,b_]
 tA:=fun i hi=>by
  rw[aI]at hi
  have e:F[i]?=some F[i]:=a_ hi
  have r1:=cn e
  have r2:=cn (J:=F++F.map (bJ F.length)) (i:=i) (j:=F[i]) (by rw[Jg hi];exact e)
  rw[r1.2.1,r1.2.2,r2.2.1,r2.2.2]
  exact⟨rfl,rfl⟩
 tB:=fun i hi=>by
  rw[aI]at hi ⊢
  have e:F[i]?=some F[i]:=a_ hi
  have r1:=cn e
  have r2:=cn (J:=F++F.map (bJ F.length)) (i:=i + F.length) (j:=bJ F.length F[i]) (by rw[IT (by omega),Lr,B',e];rfl)
  rw[r1.2.1,r1.2.2,r2.2.1,r2.2.2]
  refine⟨rfl,fun y=>?_⟩
  rw[aJ]
  show y∈F[i].needs.map _↔_
  rw[B_]
  exact⟨fun⟨x,m,e⟩=>⟨x,aJ.mpr m,e.symm⟩,fun⟨x,m,e⟩=>⟨x,aJ.mp m,e.symm⟩⟩
 bit:=yA hj
 few:=fun i hi=>by
  rw[aI]at hi
  have:=hj _ (I_ hi)
  rw[(cn (a_ hi)).2.1]
  omega
theorem tX{J:List Jb}(hl:0 < J.length){L:Int}{o:List Nat}(h:aX (aA J) L o)(h9:∀ j∈J,j.tool=9):L=1:=by
 have t9:∀ i,i < (aA J).length->tl (aA J) i=9:=fun i hi=>by
  rw[aI]at hi
  rw[(cn (a_ hi)).2.1]
  exact h9 _ (I_ hi)
 have:=qV t9 o none fun i m=>(bc h.1 i).mp m
 rw[h.2.1,if_neg ?_]at this
 ·exact this
 rintro(z | z)
 ·have:=(bc h.1 0).mpr (by rw[aI];exact hl)
  rw[z]at this
  cases this
 cases z
def nJ(j:Jb):Jb:=⟨9,j.needs,false,j.b⟩
theorem wq{J:List Jb}(h:aY (aA J)):aY (aA (J.map nJ)):=by
 obtain⟨o,c⟩:=h
 have rl:(aA (J.map nJ)).length=(aA J).length:=by rw[aI,aI,b_]
 refine⟨o,(cH o 0).mpr fun p i e=>?_,by rw[rl];exact c.2⟩
 obtain⟨a,b,d⟩:=cE.mp ((cH o 0).mp c.1 p i e)
 refine cE.mpr ⟨by omega,b,?_⟩
 rw[aI]at a
 have r1:=cn (a_ a)
 have r2:=cn (J:=J.map nJ) (i:=i) (j:=nJ J[i]) (by rw[B',a_ a];rfl)
 rw[r2.2.2]
 rw[r1.2.2]at d
 exact d
theorem v8{R:Rws}(nr:aY R):∀(k d:Nat) (t:Option Int),2 ^ R.length - d<=k->d < 2 ^ R.length->TS R t->∃ o,sZ R (Lv R) d t o
 | 0,d,t,hk,hd,_=>by omega
 | k + 1,d,t,hk,hd,ht=>by
  by_cases z:d=2 ^ R.length - 1
  ·subst z
   exact⟨[],qj (rz R) ht⟩
  obtain⟨i,l,_,mi,vi,fi⟩:=rn nr hd z ht
  have g1:=uX (dj mi)
  have g2:=jA hd (bF mi)
  obtain⟨o,B⟩:=v8 nr k (d ||| 2 ^ i) (some (tl R i)) (by omega) g2 (.inr ⟨i,bF mi,rfl⟩)
  exact⟨i::o,mR (rz R) hd ht mi vi fi B⟩
theorem yn{R:Rws}(nr:aY R):∃ L o,aX R L o:=by
 obtain⟨o,B⟩:=v8 nr _ 0 none (d_ _) (Jo _) (.inl rfl)
 exact⟨_,o,rK (rz R) B⟩
theorem IC{N:Nat}{j:Jb}:joT (bJ N j)=.tup [.int (j.tool + 1000),.lst true (j.needs.map fun x=>nT (x + N))]:=by
 show T.tup [.int (j.tool + 1000),.lst true ((j.needs.map _).map nT)]=_
 rw[II];rfl
def hdJ(j:Jb):Jb:=⟨j.tool,j.needs,true,true⟩
def hoT(j:Jb):T:=.lst true [.int j.tool,.lst true (j.needs.map nT)]
theorem oX{j:Jb}:er (hoT j)=jbT (hdJ j):=by
 show er (.lst true [.int j.tool,.lst true (j.needs.map nT)])=.lst false [.int j.tool,.lst false (j.needs.map nT)]
 simp only[er,erL,gq]
theorem gJ{j:Jb}:bE (hoT j)=true:=by
 show bE (.lst true [.int j.tool,.lst true (j.needs.map nT)])=true
 simp only[bE,bD,eA,LB]
theorem yj{J:List Jb}:aA (J.map hdJ)=aA J:=by unfold aA;rw[II];rfl
end Mp
local macro_rules | `(tactic| walk_at "go")=>do
 let l<-("!Mp.B9 !PL.vq !PL.uI !PL.k7 !PL.jM !PL.gZ !PL.kS !PL.jL !PL.jN !PL.kg !PL.jZ !PL.gG !PL.jY !PL.kP !PL.jK !PL.vf !PL.ip !PL.kC PL.fq PL.eZ PL.fD PL.er PL.erL PL.aV PL.bI PL.bE PL.bD PL.lend PL.back PL.outs PL.frA PL.yq o_ K8 KO JV Mk Lp w_ IV Ku List.zipWith_cons_cons PL.Th.v if_true if_false Mp.jW Nat.reduceAdd Nat.reduceSub Nat.reduceLeDiff Mp.AI Mp.e9 Mp.qh Mp.oN Mp.pJ Mp.kO Mp.pD Mp.gE Mp.eW Mp.eY !Mp.jU !Mp.jJ Mp.bOr Mp.AD Mp.BP !PL.kF !PL.fg !PL.hX !PL.oh PL.gK !PL.kh Mp.dP Mp.d9 Mp.da Mp.gx Mp.f6 Mp.f9 !Mp.k8 !Mp.jO Mp.iS Mp.d5 Mp.eP Mp.eX Mp.hU Mp.kx Mp.kH Mp.uO Mp.pA Mp.vv Mp.iF Mp.iw Mp.kL !Mp.vn !Mp.u9 Mp.iD Mp.oV Mp.lD Mp.kj !Mp.ik !Mp.kN Mp.lL !Mp.iu !PL.jI !PL.oO !Mp.kJ Mp.oX Mp.gJ !PL.eS Mp.fx".splitOn " ").toArray.mapM fun s=>let i:Lean.Ident:=Lean.mkIdent (s.replace "!" "").toName;if s.front=='!' then `(Lean.Parser.Tactic.simpLemma|↓$i:ident) else `(Lean.Parser.Tactic.simpLemma|$i:ident)
 `(tactic| simp only[$l,*])
local macro_rules | `(tactic| walk_at "take")=>`(tactic| refine⟨_,_,_,rfl,by lia,by first | decide | lia,by first | decide | lia,?_⟩)
namespace Mp
open PySem L2 PL
noncomputable def lu:FP:=fun ts k=>∃(t:T) (ns:List Nat),ts=[t]/\er t=t/\isAny t=false/\items t=some (ns.map nT)/\(∀ n∈ns,n<=1000)/\k (.int (sM ns:Int)) [t]
section
variable{P:Nl}{w:Nq}{K:M8}{mg:Str->Option M7}{base:Nr}
theorem mU:FnScope ["numbers","found","number"] ["numbers"] (ak lE):=⟨rfl,rfl,rfl,by decide +kernel,rfl,by decide +kernel,by decide +kernel⟩
set_option maxHeartbeats 4000000 in
theorem wF{f:M9}{fd:NB}(F:Fun K "set_of" "set_of" lE f fd)(TX:Txt mg)  :FnOk P w K mg base CX0 1 f fd ["numbers"] (aK K 1 lu):=by
 refine cp F mU [true] rfl (fun cdv A outer s H E hr=>?_)
 have sc:=@mU
 refine⟨_,(ag (aE (i:=1) sc.nd (by rfl) (f' rfl) (by rfl) ge_int) (ag (gc Oh (by rfl) (bS (bh 0)) (au (i:=2) sc.nd (by rfl) (f' rfl) (by rfl)) (ax (sL (i:=1) sc.nd (by rfl) (f' rfl) (by rfl) (aQ (aP gL ge_int (ab 2))) tI))) (ax (b9 (nD 1))))),fun ts kk hl hp=>?_⟩
 clear hl
 obtain⟨t,ns,rfl,e1,e2,e3,hn,q⟩:=hp
 walk_at "go"
 rw[e1]
 refine⟨e2,aF e3 ?_⟩
 walk_at "go"
 refine cO (fun i env=>∃ z,env=[t,.int (sM (ns.take i):Int),z]) ⟨_,rfl⟩ ?_ ?_
 ·rintro i u _ ⟨z,rfl⟩ ei
  obtain⟨n,en,rfl⟩:=bO ei
  walk_at "go"
  exact⟨rA (by have:=hn n (t_ en);omega),_,by rw[Bb en]⟩
 rintro _ ⟨z,rfl⟩
 rw[b_,IK]
 walk_at "go"
 exact q
end
noncomputable def nv:FP:=fun ts k=>∃(c o:Bool) (J:List Jb),ts=[jsT c o J]/\J.length<=50/\(∀ j∈J,∀ n∈j.needs,n<=1000)/\∀ z,k (.lst true ((aA J).map rwT)) [z]
section
variable{P:Nl}{w:Nq}{K:M8}{mg:Str->Option M7}{base:Nr}
theorem lJ:FnScope ["jobs"] ["jobs"] (ak iQ):=⟨rfl,rfl,rfl,by decide +kernel,rfl,by decide +kernel,by decide +kernel⟩
set_option maxHeartbeats 4000000 in
theorem sH{f:M9}{fd:NB}(F:Fun K "rows_of" "rows_of" iQ f fd)(TX:Txt mg)  (G_set_of:Cal P w K mg base 1 "set_of" ["numbers"] (aK K 1 lu)):FnOk P w K mg base CX0 2 f fd ["jobs"] (aK K 1 nv):=by
 refine cp F lJ [true] rfl (fun cdv A outer s H E hr=>?_)
 have sc:=@lJ
 have nd1:(["job"]:List Str).Nodup:=by decide +kernel
 refine⟨_,(ax (b9 (aQ (dC sc ["job"] [none] nd1 (by decide +kernel) (bS (ab 0)) (fun _ _ _=>(au (i:=0) nd1 (by rfl) (f' rfl) (by rfl) (hf:=(i_ rfl)))) (fun _ _ _=>bB) (fun _ _ _=>(bW (ae (aM hr (ab 0) ge_int) (ae (ai G_set_of hr (by rfl) (af (aM hr (ab 0) ge_int) aj)) ah)))))))),fun ts kk hl hp=>?_⟩
 clear hl
 obtain⟨c,o,J,rfl,hl,hn,q⟩:=hp
 walk_at "go"
 refine aW (by rw[b_,NI];omega) (fun i acc ie=>∃ z1,acc=(J.take i).map (fun j=>rwT (j.tool,sM j.needs))/\ie=[z1]) ⟨_,rfl,rfl⟩ ?_ ?_
 ·rintro i t _ _ ⟨z1,rfl,rfl⟩ ei
  obtain⟨j,ej,rfl⟩:=bO ei
  walk_at "go"
  refine⟨_,_,rfl,dP,d9,da,hn j (t_ ej),?_⟩
  walk_at "go"
  exact⟨_,by rw[map_take ej];rfl,rfl⟩
 rintro _ _ ⟨z1,rfl,rfl⟩
 rw[b_,IK]
 walk_at "go"
 have:=q (jsT c o J)
 unfold aA at this
 rw[II]at this
 exact this
end
noncomputable def dw:FP:=fun ts k=>∃(o:Bool) (R:Rws),ts=[.lst o (R.map rwT)]/\R.length<=50/\∀ z,k (.int ((2 ^ R.length - 1:Nat):Int)) [z]
section
variable{P:Nl}{w:Nq}{K:M8}{mg:Str->Option M7}{base:Nr}
theorem jB:FnScope ["rows"] ["rows"] (ak fS):=⟨rfl,rfl,rfl,by decide +kernel,rfl,by decide +kernel,by decide +kernel⟩
set_option maxHeartbeats 4000000 in
theorem qA{f:M9}{fd:NB}(F:Fun K "whole_of" "whole_of" fS f fd)(TX:Txt mg)  :FnOk P w K mg base CX0 1 f fd ["rows"] (aK K 1 dw):=by
 refine cp F jB [true] rfl (fun cdv A outer s H E hr=>?_)
 have sc:=@jB
 refine⟨_,(ax (b9 (aQ (aP kI (aP gL ge_int (bK bA (by rfl) TX.len (by decide +kernel) (ae (ab 0) ah))) ge_int)))),fun ts kk hl hp=>?_⟩
 clear hl
 obtain⟨o,R,rfl,hl,q⟩:=hp
 walk_at "go"
 rw[sD]
 exact⟨rA (by omega),q _⟩
end
def mO:FP:=fun ts k=>∃(a b:Nat),ts=[.int (a:Int),.int (b:Int)]/\k (.bl (a &&& b == a)) [.int (a:Int),.int (b:Int)]
section
variable{P:Nl}{w:Nq}{K:M8}{mg:Str->Option M7}{base:Nr}
theorem lh:FnScope ["some","other"] ["some","other"] (ak iM):=⟨rfl,rfl,rfl,by decide +kernel,rfl,by decide +kernel,by decide +kernel⟩
set_option maxHeartbeats 4000000 in
theorem tj{f:M9}{fd:NB}(F:Fun K "is_part" "is_part" iM f fd)(TX:Txt mg)  :FnOk P w K mg base CX0 1 f fd ["some","other"] (aK K 2 mO):=by
 refine cp F lh [true,true] rfl (fun cdv A outer s H E hr=>?_)
 have sc:=@lh
 refine⟨_,(ax (b9 (aQ (pQ (nR hr) (aP uu (ab 0) (ab 1)) (ab 0) (b7 _))))),fun ts kk hl hp=>?_⟩
 clear hl
 obtain⟨a,b,rfl,q⟩:=hp
 walk_at "go"
 rw[Fd]
 exact q
end
noncomputable def kR:FP:=fun ts k=>∃(o:Bool) (R:Rws) (d:Nat),ts=[.lst o (R.map rwT),.int (d:Int)]/\R.length<=50/\∀ z,k (.lst true ((rdy R d).map nT)) [z,.int (d:Int)]
section
variable{P:Nl}{w:Nq}{K:M8}{mg:Str->Option M7}{base:Nr}
theorem pV:FnScope ["rows","done"] ["rows","done"] (ak pC):=⟨rfl,rfl,rfl,by decide +kernel,rfl,by decide +kernel,by decide +kernel⟩
set_option maxHeartbeats 4000000 in
theorem yc{f:M9}{fd:NB}(F:Fun K "ready" "ready" pC f fd)(TX:Txt mg)  (G_is_part:Cal P w K mg base 1 "is_part" ["some","other"] (aK K 2 mO)):FnOk P w K mg base CX0 2 f fd ["rows","done"] (aK K 2 kR):=by
 refine cp F pV [true,true] rfl (fun cdv A outer s H E hr=>?_)
 have sc:=@pV
 have nd1:(["number","row","done"]:List Str).Nodup:=by decide +kernel
 refine⟨_,(ax (b9 (aQ (dC sc ["number","row","done"] [none,none,some 1] nd1 (by decide +kernel) (jV (by rfl) TX.enumerate (ae (ab 0) ah)) (fun _ _ _=>(cF (n:=2) (by rfl) (aC (au (i:=0) nd1 (by rfl) (f' rfl) (by rfl) (hf:=(i_ rfl))) (aC (au (i:=1) nd1 (by rfl) (f' rfl) (by rfl) (hf:=(i_ rfl))) bZ)))) (fun _ _ _=>(oR (FF (Em (lN (fV (aP uu (ab 2) (aP gL ge_int (ab 0))))) (By (fV (ai G_is_part hr (by rfl) (af (aM hr (ab 1) ge_int) (af (ab 2) aj))))))))) (fun _ _ _=>(ab 0)))))),fun ts kk hl hp=>?_⟩
 clear hl
 obtain⟨o,R,d,rfl,hl,q⟩:=hp
 walk_at "go"
 refine aW (by rw[dX,NI];omega) (fun i acc ie=>∃ z1 z2,acc=((m_ i).filter (rdB R d)).map nT/\ie=[z1,z2,.int (d:Int)]) ⟨_,_,rfl,rfl⟩ ?_ ?_
 ·rintro i t _ _ ⟨z1,z2,rfl,rfl⟩ ei
  obtain⟨r,er,rfl⟩:=jP ei
  have hi:i < R.length:=(c_.mp er).1
  walk_at "go"
  refine⟨rA (by omega),?_⟩
  rw[Il,AK er]
  refine oI (fun h=>?_) (fun h=>?_)
  ·walk_at "go"
   exact⟨_,_,by rw[h];exact(IP _).symm,rfl⟩
  walk_at "go"
  refine⟨_,_,rfl,?_⟩
  walk_at "go"
  rw[h]
  refine oI (fun h2=>?_) (fun h2=>?_)
  ·walk_at "go"
   exact⟨_,_,by rw[h2];rfl,rfl⟩
  walk_at "go"
  exact⟨_,_,by rw[h2];exact(IP _).symm,rfl⟩
 rintro _ _ ⟨z1,z2,rfl,rfl⟩
 rw[dX]
 walk_at "go"
 exact q _
end
noncomputable def lA:FP:=fun ts k=>∃(o:Bool) (R:Rws),ts=[.lst o (R.map rwT)]/\R.length<=50/\∀(ms:List Int) z,ms.Pairwise (· < ·)->(∀ x,x∈ms↔∃ r∈R,x=r.1)->k (.lst true (ms.map T.int)) [z]
section
variable{P:Nl}{w:Nq}{K:M8}{mg:Str->Option M7}{base:Nr}
theorem jv:FnScope ["rows"] ["rows"] (ak fR):=⟨rfl,rfl,rfl,by decide +kernel,rfl,by decide +kernel,by decide +kernel⟩
set_option maxHeartbeats 4000000 in
theorem ra{f:M9}{fd:NB}(F:Fun K "tools_in" "tools_in" fR f fd)(TX:Txt mg)  :FnOk P w K mg base CX0 1 f fd ["rows"] (aK K 1 lA):=by
 refine cp F jv [true] rfl (fun cdv A outer s H E hr=>?_)
 have sc:=@jv
 have nd1:(["row"]:List Str).Nodup:=by decide +kernel
 refine⟨_,(ax (b9 (aQ (oB (by rfl) (by rfl) TX.sorted (by rfl) TX.set (dC sc ["row"] [none] nd1 (by decide +kernel) (bS (ab 0)) (fun _ _ _=>(au (i:=0) nd1 (by rfl) (f' rfl) (by rfl) (hf:=(i_ rfl)))) (fun _ _ _=>bB) (fun _ _ _=>(aM hr (ab 0) ge_int))))))),fun ts kk hl hp=>?_⟩
 clear hl
 obtain⟨o,R,rfl,hl,q⟩:=hp
 walk_at "go"
 refine aW (by rw[b_,NI];omega) (fun i acc ie=>∃ z1,acc=(R.take i).map (fun r=>T.int r.1)/\ie=[z1]) ⟨_,rfl,rfl⟩ ?_ ?_
 ·rintro i t _ _ ⟨z1,rfl,rfl⟩ ei
  obtain⟨r,er,rfl⟩:=bO ei
  walk_at "go"
  exact⟨_,by rw[map_take er],rfl⟩
 rintro _ _ ⟨z1,rfl,rfl⟩
 rw[b_,IK]
 walk_at "go"
 refine aF zk ?_
 walk_at "go"
 refine⟨by omega,fun ms h1 h2=>?_⟩
 refine q ms _ h1 fun x=>?_
 rw[h2 x,B_]
 exact⟨fun⟨r,m,e⟩=>⟨r,m,e.symm⟩,fun⟨r,m,e⟩=>⟨r,m,e.symm⟩⟩
end
def eI:FP:=fun ts k=>∃(o:Bool) (R:Rws),ts=[.lst o (R.map rwT)]/\R.length<=50/\aY R/\∀ z,k .non [z]
section
variable{P:Nl}{w:Nq}{K:M8}{mg:Str->Option M7}{base:Nr}
theorem dH:FnScope ["rows","done","more"] ["rows"] (ak cJ):=⟨rfl,rfl,rfl,by decide +kernel,rfl,by decide +kernel,by decide +kernel⟩
set_option maxHeartbeats 4000000 in
theorem jF{f:M9}{fd:NB}(F:Fun K "refuse_rings" "refuse_rings" cJ f fd)(TX:Txt mg)  (G_set_of:Cal P w K mg base 1 "set_of" ["numbers"] (aK K 1 lu))(G_whole_of:Cal P w K mg base 1 "whole_of" ["rows"] (aK K 1 dw))(G_ready:Cal P w K mg base 2 "ready" ["rows","done"] (aK K 2 kR)):FnOk P w K mg base CX0 3 f fd ["rows"] (aK K 1 eI):=by
 refine cp F dH [true] rfl (fun cdv A outer s H E hr=>?_)
 have sc:=@dH
 refine⟨_,(ag (aE (i:=1) sc.nd (by rfl) (f' rfl) (by rfl) ge_int) (ag (aE (i:=2) sc.nd (by rfl) (f' rfl) (by rfl) (aQ (ai G_ready hr (by rfl) (af (ab 0) (af (ab 1) aj))))) (ag (qE Oh (mB (fV (ab 2))) (ag (sL (i:=1) sc.nd (by rfl) (f' rfl) (by rfl) (aQ (ai G_set_of hr (by rfl) (af (ab 2) aj))) tI) (ax (aE (i:=2) sc.nd (by rfl) (f' rfl) (by rfl) (aQ (ai G_ready hr (by rfl) (af (ab 0) (af (ab 1) aj)))))))) (ax (l9 (mB (cK (iR hr) (ab 1) (ai G_whole_of hr (by rfl) (af (ab 0) aj)) (b7 _))) (ax AF) dA))))),fun ts kk hl hp=>?_⟩
 clear hl
 obtain⟨o,R,rfl,hl,nr,q⟩:=hp
 walk_at "go"
 refine⟨false,R,0,rfl,hl,fun z=>?_⟩
 walk_at "go"
 refine mP (fun m env=>∃ d:Nat,d < 2 ^ R.length/\m=2 ^ R.length - d/\env=[.lst o (R.map rwT),.int (d:Int),.lst true ((rdy R d).map nT)]) _ ⟨0,Jo _,rfl,rfl⟩ ?_
 rintro m _ ⟨d,hd,rfl,rfl⟩
 walk_at "go"
 refine oI (fun h=>?_) (fun h=>?_)
 ·have e:rdy R d=[]:=List.map_eq_nil_iff.mp (List.isEmpty_iff.mp h)
  have ew:d=2 ^ R.length - 1:=Uk fun z=>yt nr hd z e
  walk_at "go"
  refine⟨false,R,rfl,hl,fun z=>?_⟩
  walk_at "go"
  refine B7 (decide_eq_true (by rw[ew])) ?_
  walk_at "go"
  exact q _
 have ne:rdy R d≠[]:=fun z=>by rw[z]at h;cases h
 obtain⟨g1,g2⟩:=Ar hd ne
 walk_at "go"
 refine⟨_,rdy R d,rfl,by rw[er,gq],rfl,rfl,fun n m=>by have:=bF m;omega,?_⟩
 walk_at "go"
 refine⟨false,R,d ||| sM (rdy R d),rfl,hl,fun z=>?_⟩
 walk_at "go"
 exact⟨_,by omega,_,g2,rfl,rfl⟩
end
noncomputable def gu:FP:=fun ts k=>∃(o o2:Bool) (R:Rws) (D:List Ent) (d i:Nat) (t:Option Int),ts=[.lst o (R.map rwT),.dT o2 (dM D),.int (d:Int),tT t,.int (i:Int)]/\i < R.length/\R.length<=50/\DOk R D/\(d ||| 2 ^ i,some (tl R i))∈D.map (·.1)/\∀ z1 z2,k (.int (Lv R (d ||| 2 ^ i) (some (tl R i)) + cst t (tl R i))) [z1,z2,.int (d:Int),tT t,.int (i:Int)]
section
variable{P:Nl}{w:Nq}{K:M8}{mg:Str->Option M7}{base:Nr}
theorem jC:FnScope ["rows","least","done","tool","number","taken"] ["rows","least","done","tool","number"] (ak fX):=⟨rfl,rfl,rfl,by decide +kernel,rfl,by decide +kernel,by decide +kernel⟩
set_option maxHeartbeats 4000000 in
theorem qG{f:M9}{fd:NB}(F:Fun K "takes_by" "takes_by" fX f fd)(TX:Txt mg)  :FnOk P w K mg base CX0 1 f fd ["rows","least","done","tool","number"] (aK K 5 gu):=by
 refine cp F jC [true,true,true,true,true] rfl (fun cdv A outer s H E hr=>?_)
 have sc:=@jC
 refine⟨_,(ag (aE (i:=5) sc.nd (by rfl) (f' rfl) (by rfl) (aQ (aM hr (aM hr (ab 0) (ab 4)) ge_int))) (ax (b9 (aQ (aP bN (aM hr (ab 1) (bW (ae (aP Du (ab 2) (aP gL ge_int (ab 4))) (ae (ab 5) ah)))) (ge_if (cK (nR hr) (ab 3) (ab 5) (b7 _)) ge_int ge_int)))))),fun ts kk hl hp=>?_⟩
 clear hl
 obtain⟨o,o2,R,D,d,i,t,rfl,hi,hl,ok,mem,q⟩:=hp
 obtain⟨m,em⟩:=yi hi
 walk_at "go"
 refine aF (cV em) ?_
 walk_at "go"
 refine⟨rA (by omega),aF (sW ok mem) ?_⟩
 walk_at "go"
 refine dv (fun h=>?_) (fun h=>?_)
 ·walk_at "go"
  have:=q (.lst o (R.map rwT)) (.dT o2 (dM D))
  unfold cst at this
  rw[if_pos h]at this
  exact this
 walk_at "go"
 have:=q (.lst o (R.map rwT)) (.dT o2 (dM D))
 unfold cst at this
 rw[if_neg h]at this
 exact this
end
noncomputable def cW:FP:=fun ts k=>∃(o:Bool) (R:Rws),ts=[.lst o (R.map rwT)]/\R.length<=10/\∀(D:List Ent) z,DOk R D->(∀ d t,d < 2 ^ R.length->TS R t->(d,t)∈D.map (·.1))->k (.dT true (dM D)) [z]
section
variable{P:Nl}{w:Nq}{K:M8}{mg:Str->Option M7}{base:Nr}
theorem cP:FnScope ["rows","least","done","numbers","tool","takes"] ["rows"] (ak cf):=⟨rfl,rfl,rfl,by decide +kernel,rfl,by decide +kernel,by decide +kernel⟩
set_option maxHeartbeats 4000000 in
theorem gC{f:M9}{fd:NB}(F:Fun K "takes_from_all" "takes_from_all" cf f fd)(TX:Txt mg)  (G_whole_of:Cal P w K mg base 1 "whole_of" ["rows"] (aK K 1 dw))(G_ready:Cal P w K mg base 2 "ready" ["rows","done"] (aK K 2 kR))(G_tools_in:Cal P w K mg base 1 "tools_in" ["rows"] (aK K 1 lA))(G_takes_by:Cal P w K mg base 1 "takes_by" ["rows","least","done","tool","number"] (aK K 5 gu)):FnOk P w K mg base CX0 3 f fd ["rows"] (aK K 1 cW):=by
 refine cp F cP [true] rfl (fun cdv A outer s H E hr=>?_)
 have sc:=@cP
 have nd1:(["number","tool","done","least","rows"]:List Str).Nodup:=by decide +kernel
 refine⟨_,(ag (aE (i:=1) sc.nd (by rfl) (i_ rfl) (by rfl) (aQ Ff)) (ag (gc Oh (by rfl) (vV (by rfl) TX.range (ae (aQ (ai G_whole_of hr (by rfl) (af (ab 0) aj))) (ae (aQ (yG ge_int)) (ae (aQ (yG ge_int)) ah)))) (au (i:=2) sc.nd (by rfl) (i_ rfl) (by rfl)) (ag (aE (i:=3) sc.nd (by rfl) (f' rfl) (by rfl) (aQ (ai G_ready hr (by rfl) (af (ab 0) (af (ab 2) aj))))) (ax (gc Oh (by rfl) (bS (aQ (aP bN (bY (ae nS ah)) (ai G_tools_in hr (by rfl) (af (ab 0) aj))))) (au (i:=4) sc.nd (by rfl) (i_ rfl) (by rfl)) (ag (eK sc (i:=5) ["number","tool","done","least","rows"] [none,some 4,some 2,some 1,some 0] nd1 (by decide +kernel) (by rfl) (f' rfl) (by rfl) (bS (ab 3)) (fun _ _ _=>(au (i:=0) nd1 (by rfl) (f' rfl) (by rfl) (hf:=(i_ rfl)))) (fun _ _ _=>bB) (fun _ _ _=>(ai G_takes_by hr (by rfl) (af (ab 4) (af (ab 3) (af (ab 2) (af (ab 1) (af (ab 0) aj))))))) (by rfl)) (ax (pN (aQ (Bo (by rfl) (by rfl) TX.min (ab 5))) (pf (i:=1) hr (aQ (bW (ae (ab 2) (ae (ab 4) ah)))))))))))) (ax (b9 (nD 1))))),fun ts kk hl hp=>?_⟩
 clear hl
 obtain⟨o,R,rfl,hl,q⟩:=hp
 have hW:2 ^ R.length<=1024:=Lf (n:=2) (by decide) hl
 have hp:0 < 2 ^ R.length:=Jo _
 walk_at "go"
 refine⟨_,R,rfl,by omega,fun z=>?_⟩
 walk_at "go"
 refine⟨⟨by omega,by omega,by decide,by decide⟩,?_⟩
 refine cO (fun s env=>∃(D:List Ent) (z2 z3 z4 z5:T),Hld R D s []/\D.length<=s * 11/\env=[.lst o (R.map rwT),.dT true (dM D),z2,z3,z4,z5]) ⟨[],_,_,_,_,GN R,F_ _,rfl⟩ ?_ ?_
 ·rintro s u _ ⟨D,z2,z3,z4,z5,H,hD,rfl⟩ ei
  obtain⟨hs,rfl⟩:=GD ei
  have hs:s < 2 ^ R.length:=by omega
  have e0:((2 ^ R.length - 1:Nat):Int) - (s:Int)=((2 ^ R.length - 1 - s:Nat):Int):=by omega
  rw[e0]
  have hd:2 ^ R.length - 1 - s < 2 ^ R.length:=by omega
  walk_at "go"
  refine⟨_,R,_,rfl,by omega,fun z=>?_⟩
  walk_at "go"
  refine⟨_,R,rfl,by omega,fun ms z u1 u2=>?_⟩
  walk_at "go"
  have tl1:=Av u1 u2
  have tl2:ms.length + 1<=R.length + 1:=by rw[o_,b_]at tl1;exact tl1
  have nd:=Fx u1
  have mem:=EJ u2
  rw[Aq]
  generalize none::ms.map some=l at tl1 nd mem
  refine⟨by omega,cO (fun j env=>∃(D:List Ent) (z4 z5:T),Hld R D s (l.take j)/\D.length<=s * 11 + j/\env=[.lst o (R.map rwT),.dT true (dM D),.int ((2 ^ R.length - 1 - s:Nat):Int),.lst true ((rdy R (2 ^ R.length - 1 - s)).map nT),z4,z5]) ⟨D,_,_,H,hD,rfl⟩ ?_ ?_⟩
  ·clear H hD D
   rintro j u _ ⟨D,z4,z5,H,hD,rfl⟩ ej
   obtain⟨t,et,rfl⟩:=bO ej
   have hj:j < l.length:=(c_.mp et).1
   walk_at "go"
   have rl:(rdy R (2 ^ R.length - 1 - s)).length<=50:=by
    have:=Kb (rdB R (2 ^ R.length - 1 - s)) (m_ R.length)
    rw[y_]at this
    unfold rdy
    omega
   refine aW (by rw[b_,NI];omega) (fun a acc ie=>∃ z1,acc=((rdy R (2 ^ R.length - 1 - s)).take a).map (fun i=>T.int (Lv R ((2 ^ R.length - 1 - s) ||| 2 ^ i) (some (tl R i)) + cst t (tl R i)))/\ie=[z1,tT t,.int ((2 ^ R.length - 1 - s:Nat):Int),.dT false (dM D),.lst false (R.map rwT)]) ⟨_,rfl,rfl⟩ ?_ ?_
   ·rintro a u _ _ ⟨z1,rfl,rfl⟩ ea
    obtain⟨i,ei',rfl⟩:=bO ea
    have mi:=t_ ei'
    walk_at "go"
    refine⟨_,_,R,D,_,i,t,rfl,bF mi,by omega,H.1,Dv hs H mi,fun z1 z2=>?_⟩
    walk_at "go"
    exact⟨_,by rw[map_take ei'],rfl⟩
   rintro _ _ ⟨z1,rfl,rfl⟩
   rw[b_,IK]
   walk_at "go"
   refine aF zI (fun m hm=>?_)
   have em:=DX hm
   rw[<-CI hd]at em
   subst em
   walk_at "go"
   have nm:(2 ^ R.length - 1 - s,t) ∉ D.map (·.1):=fun m=>by
    rcases(H.2 _ _).mp m with m | m
    ·omega
    exact gD nd et m.2
   refine⟨by unfold dM;rw[b_];omega,_,_,_,?_,?_,by rw[show([QM ((2 ^ R.length - 1 - s:Nat):Int),tK t]:List Key)=kD (2 ^ R.length - 1 - s) t from rfl,Df nm]⟩
   ·rw[Jn,et]
    exact BK H
   rw[j_,JK]
   omega
  rintro _ ⟨D,z4,z5,H,hD,rfl⟩
  rw[b_]at H hD
  rw[IK]at H
  exact⟨D,_,_,_,_,xE hs H mem,by omega,rfl⟩
 rintro _ ⟨D,z2,z3,z4,z5,H,hD,rfl⟩
 rw[xZ]at H
 walk_at "go"
 refine q D _ H.1 fun d t hd ht=>(H.2 d t).mpr (.inl ⟨by omega,hd,ht⟩)
end
noncomputable def cj:FP:=fun ts k=>∃(t:T) (c:Bool) (J:List Jb),ts=[t]/\er t=jsT c false J/\isAny t=false/\J.length<=10/\(∀ j∈J,∀ n∈j.needs,n<=1000)/\aY (aA J)/\∀(L:Int) (os:List Nat) z,aX (aA J) L os->k (.tup [.int L,.lst true (os.map nT)]) [z]
section
variable{P:Nl}{w:Nq}{K:M8}{mg:Str->Option M7}{base:Nr}
theorem eB:FnScope ["jobs","rows","least","order","done","tool","takes","good"] ["jobs"] (ak cR):=⟨rfl,rfl,rfl,by decide +kernel,rfl,by decide +kernel,by decide +kernel⟩
set_option maxHeartbeats 4000000 in
theorem ma{f:M9}{fd:NB}(F:Fun K "least_takes" "least_takes" cR f fd)(TX:Txt mg)  (G_rows_of:Cal P w K mg base 2 "rows_of" ["jobs"] (aK K 1 nv))(G_whole_of:Cal P w K mg base 1 "whole_of" ["rows"] (aK K 1 dw))(G_ready:Cal P w K mg base 2 "ready" ["rows","done"] (aK K 2 kR))(G_refuse_rings:Cal P w K mg base 3 "refuse_rings" ["rows"] (aK K 1 eI))(G_takes_from_all:Cal P w K mg base 3 "takes_from_all" ["rows"] (aK K 1 cW))(G_takes_by:Cal P w K mg base 1 "takes_by" ["rows","least","done","tool","number"] (aK K 5 gu)):FnOk P w K mg base CX0 4 f fd ["jobs"] (aK K 1 cj):=by
 refine cp F eB [true] rfl (fun cdv A outer s H E hr=>?_)
 have sc:=@eB
 have nd1:(["number","tool","done","least","rows","takes"]:List Str).Nodup:=by decide +kernel
 refine⟨_,(ag (aE (i:=1) sc.nd (by rfl) (i_ rfl) (by rfl) (aQ (ai G_rows_of hr (by rfl) (af (ab 0) aj)))) (ag (dq (ai G_refuse_rings hr (by rfl) (af (bh 1) aj))) (ag (aE (i:=2) sc.nd (by rfl) (i_ rfl) (by rfl) (aQ (ai G_takes_from_all hr (by rfl) (af (ab 1) aj)))) (ag (aE (i:=3) sc.nd (by rfl) (f' rfl) (by rfl) (aQ (bY ah))) (ag (aE (i:=4) sc.nd (by rfl) (i_ rfl) (by rfl) ge_int) (ag (aE (i:=5) sc.nd (by rfl) (i_ rfl) (by rfl) nS) (ag (qE Oh (mB (cK (iR hr) (ab 4) (ai G_whole_of hr (by rfl) (af (ab 1) aj)) (b7 _))) (ag (aE (i:=6) sc.nd (by rfl) (i_ rfl) (by rfl) (aQ (aM hr (ab 2) (bW (ae (ab 4) (ae (ab 5) ah)))))) (ag (eK sc (i:=7) ["number","tool","done","least","rows","takes"] [none,some 5,some 4,some 2,some 1,some 6] nd1 (by decide +kernel) (by rfl) (f' rfl) (by rfl) (bS (ai G_ready hr (by rfl) (af (ab 1) (af (ab 4) aj)))) (fun _ _ _=>(au (i:=0) nd1 (by rfl) (f' rfl) (by rfl) (hf:=(i_ rfl)))) (fun _ _ _=>(oR (cK (nR hr) (ai G_takes_by hr (by rfl) (af (ab 4) (af (ab 3) (af (ab 2) (af (ab 1) (af (ab 0) aj)))))) (ab 5) (b7 _)))) (fun _ _ _=>(ab 0)) (by rfl)) (ag (dq (hZ 3 O7 O8 dh (ae (aQ (aM hr (ab 7) ge_int)) ah))) (ag (sL (i:=4) sc.nd (by rfl) (i_ rfl) (by rfl) (aQ (aP gL ge_int (aM hr (ab 7) ge_int))) tI) (ax (aE (i:=5) sc.nd (by rfl) (i_ rfl) (by rfl) (aQ (aM hr (aM hr (ab 1) (aM hr (ab 7) ge_int)) ge_int))))))))) (ax (b9 (bW (ae (aQ (aM hr (ab 2) (bW (ae ge_int (ae nS ah))))) (ae (nD 3) ah)))))))))))),fun ts kk hl hp=>?_⟩
 clear hl
 obtain⟨t0,c,J,rfl,et,ia,hl,hn,nr,q⟩:=hp
 have hL:(aA J).length=J.length:=b_ ..
 walk_at "go"
 rw[et]
 refine⟨d5,c,false,J,rfl,by omega,hn,fun z=>?_⟩
 walk_at "go"
 generalize aA J=R at *
 refine⟨_,R,rfl,by omega,nr,fun z=>?_⟩
 walk_at "go"
 refine⟨_,R,rfl,by omega,fun D z dk dm=>?_⟩
 walk_at "go"
 have V:=rz R
 have hW:2 ^ R.length<=1024:=Lf (n:=2) (by decide) (by omega:R.length<=10)
 refine mP (fun m env=>∃(d:Nat) (t:Option Int) (os:List Nat) (z6 z7:T),d < 2 ^ R.length/\TS R t/\m=2 ^ R.length - d/\os.length<=d/\(∀ o2,sZ R (Lv R) d t o2->sZ R (Lv R) 0 none (os++o2))/\env=[t0,.lst false (R.map rwT),.dT true (dM D),.lst true (os.map nT),.int (d:Int),tT t,z6,z7]) _ ⟨0,none,[],_,_,Jo _,.inl rfl,rfl,F_ _,fun o2 h=>h,rfl⟩ ?_
 rintro m _ ⟨d,t,os,z6,z7,hd,ht,rfl,hos,hb,rfl⟩
 walk_at "go"
 refine⟨_,R,rfl,by omega,fun z=>?_⟩
 walk_at "go"
 refine dv (fun h=>?_) (fun h=>?_)
 ·have ew:d=2 ^ R.length - 1:=by omega
  have B:=hb [] (by rw[ew];exact qj V ht)
  rw[IP]at B
  walk_at "go"
  refine aF (sW dk (dm 0 none (Jo _) (.inl rfl))) ?_
  walk_at "go"
  exact q _ _ _ (rK V B)
 obtain⟨i,l,eg,mi,vi,fi⟩:=rn nr hd (fun z=>h (by rw[z])) ht
 have il:=bF mi
 have ig:=uX (dj mi)
 have it:=jA hd il
 walk_at "go"
 refine aF (sW dk (dm d t hd ht)) ?_
 walk_at "go"
 refine⟨_,R,d,rfl,by omega,fun z=>?_⟩
 walk_at "go"
 have rl:(rdy R d).length<=50:=by
  have:=Kb (rdB R d) (m_ R.length)
  rw[y_]at this
  unfold rdy
  omega
 refine aW (by rw[b_,NI];omega) (fun a acc ie=>∃ z1,acc=(((rdy R d).take a).filter fun i=>decide (Lv R (d ||| 2 ^ i) (some (tl R i)) + cst t (tl R i)=Lv R d t)).map nT/\ie=[z1,tT t,.int (d:Int),.dT false (dM D),.lst false (R.map rwT),.int (Lv R d t)]) ⟨_,rfl,rfl⟩ ?_ ?_
 ·rintro a u _ _ ⟨z1,rfl,rfl⟩ ea
  obtain⟨j,ej,rfl⟩:=bO ea
  have mj:=t_ ej
  walk_at "go"
  refine⟨_,_,R,D,_,j,t,rfl,bF mj,by omega,dk,dm _ _ (jA hd (bF mj)) (.inr ⟨j,bF mj,rfl⟩),fun z1 z2=>?_⟩
  walk_at "go"
  rw[wN ej]
  refine dv (fun g=>?_) (fun g=>?_)
  ·walk_at "go"
   exact⟨_,by rw[if_pos g],rfl⟩
  walk_at "go"
  exact⟨_,by rw[if_neg g];exact(IP _).symm,rfl⟩
 rintro _ _ ⟨z1,rfl,rfl⟩
 rw[b_,IK]
 have eg':((rdy R d).filter fun i=>decide (Lv R (d ||| 2 ^ i) (some (tl R i)) + cst t (tl R i)=Lv R d t))=i::l:=eg
 rw[eg']
 walk_at "go"
 obtain⟨mk,em⟩:=yi il
 refine⟨by omega,rA (by omega),aF (cV em) ?_⟩
 walk_at "go"
 refine⟨_,?_,d ||| 2 ^ i,some (tl R i),os++[i],_,_,it,.inr ⟨i,il,rfl⟩,rfl,?_,fun o2 B=>?_,by rw[A'];rfl⟩
 ·omega
 ·rw[j_,JK];omega
 rw[h_]
 exact hb _ (mR V hd ht mi vi fi B)
end
noncomputable def ye:FP:=fun ts k=>∃(c:Cells) (n:Nat) (m u:Nat),ts=[stT c n,.int (m:Int),.int (u:Int)]/\n < 2 ^ 30/\m<=10/\1<=u/\u<=5/\∀(c':Cells) (n':Nat) (J:List Jb) z1 z2,n'<=n + 1000->J.length=m->JOk J->aY (aA J)->k (.lst true (J.map jbT)) [stT c' n',z1,z2]
section
variable{P:Nl}{w:Nq}{K:M8}{mg:Str->Option M7}{base:Nr}
theorem uY:FnScope ["_law_state","_law_many","_law_tools","_law_left","_law_turn","_law_order","_law_names","_law_jobs_here","_law_most","_law_place","_law_number","_law_needs"] ["_law_state","_law_many","_law_tools"] (ak sE):=⟨rfl,rfl,rfl,by decide +kernel,rfl,by decide +kernel,by decide +kernel⟩
set_option maxHeartbeats 4000000 in
theorem BD{f:M9}{fd:NB}(F:Fun K "_law_jobs" "_law_jobs" sE f fd)(TX:Txt mg)  (G_take:Cal P w K mg base 1 "_law_take" ["_law_state","_law_many"] (aK K 2 jd)):FnOk P w K mg base CX0 2 f fd ["_law_state","_law_many","_law_tools"] (aK K 3 ye):=by
 refine cp F uY [true,true,true] rfl (fun cdv A outer s H E hr=>?_)
 have sc:=@uY
 have nd1:(["_law_turn","_law_left","_law_state"]:List Str).Nodup:=by decide +kernel
 refine⟨_,(@ag _ _ _ _ _ _ (@aE _ _ _ _ _ 3 _ _ sc.nd (by rfl) (i_ rfl) (by rfl) (@aQ _ _ _ (@fH _ _ _ _ _ _ _ (by rfl) (by rfl) TX.list (by rfl) TX.range (@ae _ _ _ _ _ (@ab _ _ 1 _ (by rfl) (by first | exact f' rfl | exact i_ (f' rfl) | exact i_ (i_ rfl)) (by decide) (by decide)) (@ah _) (by rfl)) (by rfl) (by rfl))) (by rfl) (by first | exact .inl rfl | exact .inr rfl)) (@ag _ _ _ _ _ _ (@Az _ _ _ _ _ sc 5 _ _ _ ["_law_turn","_law_left","_law_state"] [none,some 3,some 0] nd1 _ _ _ _ _ _ _ _ _ _ (by decide +kernel) (by rfl) (f' rfl) (by rfl) (@fu _ _ _ _ _ _ (by rfl) TX.range (@ae _ _ _ _ _ (@bh _ _ 1 _ (by rfl) (by first | exact f' rfl | exact i_ (f' rfl) | exact i_ (i_ rfl)) (by decide) (by decide)) (@ah _) (by rfl)) (by rfl)) (fun _ _ _=>(@au _ _ _ 0 _ nd1 (by rfl) (f' rfl) (by rfl) (i_ rfl))) (fun _ _ _=>(@bB _)) (fun _ _ _=>(@hZ _ _ _ _ _ _ _ _ _ 1 _ _ Rv Rw mX (@ae _ _ _ _ _ (@ai _ _ _ _ _ _ _ _ _ _ _ _ G_take hr (by rfl) (@bo _ _ _ 2 _ _ (@af _ _ _ _ _ (@aQ _ _ _ (@bK _ _ _ _ _ _ _ _ _ bA (by rfl) TX.len (by decide +kernel) (@ae _ _ _ _ _ (@ab _ _ 1 _ (by rfl) (by first | exact f' rfl | exact i_ (f' rfl) | exact i_ (i_ rfl)) (by decide) (by decide)) (@ah _) (by rfl)) (by decide) (by decide) (by rfl) (by rfl))) (@aj _) (by rfl)) (by rfl) (by first | exact f' rfl | exact i_ (f' rfl) | exact i_ (i_ rfl)) (by decide) (by decide) (by rfl)) (by omega) (by decide) (by rfl) (by rfl)) (@ah _) (by rfl)) (by rfl) (by first | exact f' rfl | exact i_ (f' rfl) | exact i_ (i_ rfl)) (by decide) (by decide) (by rfl) (by rfl) (by rfl) (by rfl) (by rfl))) (by rfl) (by rfl) (by rfl) (by rfl) (by rfl) (by intro _;rfl)) (@ag _ _ _ _ _ _ (@aE _ _ _ _ _ 6 _ _ sc.nd (by rfl) (f' rfl) (by rfl) (@aM _ _ _ _ _ _ _ hr (@aQ _ _ _ (@bY _ _ _ _ (@ae _ _ _ _ _ (@bY _ _ _ _ (@ae _ _ _ _ _ (@ge_int _ _ _ _) (@ae _ _ _ _ _ (@ge_int _ _ _ _) (@ae _ _ _ _ _ (@ge_int _ _ _ _) (@ae _ _ _ _ _ (@ge_int _ _ _ _) (@ae _ _ _ _ _ (@ge_int _ _ _ _) (@ah _) (by rfl)) (by rfl)) (by rfl)) (by rfl)) (by rfl))) (@ae _ _ _ _ _ (@bY _ _ _ _ (@ae _ _ _ _ _ (@ge_int _ _ _ _) (@ae _ _ _ _ _ (@ge_int _ _ _ _) (@ae _ _ _ _ _ (@ge_int _ _ _ _) (@ae _ _ _ _ _ (@ge_int _ _ _ _) (@ae _ _ _ _ _ (@ge_int _ _ _ _) (@ah _) (by rfl)) (by rfl)) (by rfl)) (by rfl)) (by rfl))) (@ae _ _ _ _ _ (@bY _ _ _ _ (@ae _ _ _ _ _ (@ge_int _ _ _ _) (@ae _ _ _ _ _ (@ge_int _ _ _ _) (@ae _ _ _ _ _ (@ge_int _ _ _ _) (@ae _ _ _ _ _ (@ge_int _ _ _ _) (@ae _ _ _ _ _ (@ge_int _ _ _ _) (@ah _) (by rfl)) (by rfl)) (by rfl)) (by rfl)) (by rfl))) (@ah _) (by rfl)) (by rfl)) (by rfl)))) (@ai _ _ _ _ _ _ _ _ _ _ _ _ G_take hr (by rfl) (@bo _ _ _ 0 _ _ (@af _ _ _ _ _ (@ge_int _ _ _ _) (@aj _) (by rfl)) (by rfl) (by first | exact f' rfl | exact i_ (f' rfl) | exact i_ (i_ rfl)) (by decide) (by decide) (by rfl)) (by omega) (by decide) (by rfl) (by rfl)) (by intro _ _;rfl)) (by rfl) (by first | exact .inl rfl | exact .inr rfl)) (@ag _ _ _ _ _ _ (@aE _ _ _ _ _ 7 _ _ sc.nd (by rfl) (f' rfl) (by rfl) (@aP _ _ _ _ _ _ _ _ qr (@aQ _ _ _ (@bY _ _ _ _ (@ae _ _ _ _ _ (@bW _ _ _ _ _ (@ae _ _ _ _ _ (@ge_int _ _ _ _) (@ae _ _ _ _ _ (@bY _ _ _ _ (@ah _)) (@ah _) (by rfl)) (by rfl))) (@ah _) (by rfl)))) (@bh _ _ 1 _ (by rfl) (by first | exact f' rfl | exact i_ (f' rfl) | exact i_ (i_ rfl)) (by decide) (by decide))) (by rfl) (by first | exact .inl rfl | exact .inr rfl)) (@ag _ _ _ _ _ _ (@aE _ _ _ _ _ 8 _ _ sc.nd (by rfl) (f' rfl) (by rfl) (@aM _ _ _ _ _ _ _ hr (@aQ _ _ _ (@bY _ _ _ _ (@ae _ _ _ _ _ (@ge_int _ _ _ _) (@ae _ _ _ _ _ (@ge_int _ _ _ _) (@ae _ _ _ _ _ (@ge_int _ _ _ _) (@ae _ _ _ _ _ (@ge_int _ _ _ _) (@ah _) (by rfl)) (by rfl)) (by rfl)) (by rfl)))) (@ai _ _ _ _ _ _ _ _ _ _ _ _ G_take hr (by rfl) (@bo _ _ _ 0 _ _ (@af _ _ _ _ _ (@ge_int _ _ _ _) (@aj _) (by rfl)) (by rfl) (by first | exact f' rfl | exact i_ (f' rfl) | exact i_ (i_ rfl)) (by decide) (by decide) (by rfl)) (by omega) (by decide) (by rfl) (by rfl)) (by intro _ _;rfl)) (by rfl) (by first | exact .inl rfl | exact .inr rfl)) (@ag _ _ _ _ _ _ (@gc _ _ _ _ _ _ _ _ _ Oh (by rfl) (@jV _ _ _ _ _ _ _ _ (by rfl) TX.enumerate (@ae _ _ _ _ _ (@bh _ _ 5 _ (by rfl) (by first | exact f' rfl | exact i_ (f' rfl) | exact i_ (i_ rfl)) (by decide) (by decide)) (@ah _) (by rfl)) (by rfl)) (@cF _ _ _ _ _ _ 2 (by rfl) (@aC _ _ _ _ _ _ (@au _ _ _ 9 _ sc.nd (by rfl) (f' rfl) (by rfl) (by first | exact .inl rfl | exact .inr rfl)) (@aC _ _ _ _ _ _ (@au _ _ _ 10 _ sc.nd (by rfl) (f' rfl) (by rfl) (by first | exact .inl rfl | exact .inr rfl)) (@bZ _ _) (by rfl)) (by rfl)) (by rfl) (by rfl)) (@ag _ _ _ _ _ _ (@aE _ _ _ _ _ 11 _ _ sc.nd (by rfl) (f' rfl) (by rfl) (@aQ _ _ _ (@bY _ _ _ _ (@ah _))) (by rfl) (by first | exact .inl rfl | exact .inr rfl)) (@ag _ _ _ _ _ _ (@gc _ _ _ _ _ _ _ _ _ Oh (by rfl) (@fu _ _ _ _ _ _ (by rfl) TX.range (@ae _ _ _ _ _ (@ge_if _ _ _ _ _ _ _ _ (@mB _ _ _ (@cK _ _ _ _ _ _ _ _ zN (@ab _ _ 9 _ (by rfl) (by first | exact f' rfl | exact i_ (f' rfl) | exact i_ (i_ rfl)) (by decide) (by decide)) (@ge_int _ _ _ _) (b7 _))) (@ai _ _ _ _ _ _ _ _ _ _ _ _ G_take hr (by rfl) (@bo _ _ _ 0 _ _ (@af _ _ _ _ _ (@aQ _ _ _ (@aP _ _ _ _ _ _ _ _ bN (@ab _ _ 8 _ (by rfl) (by first | exact f' rfl | exact i_ (f' rfl) | exact i_ (i_ rfl)) (by decide) (by decide)) (@ge_int _ _ _ _))) (@aj _) (by rfl)) (by rfl) (by first | exact f' rfl | exact i_ (f' rfl) | exact i_ (i_ rfl)) (by decide) (by decide) (by rfl)) (by omega) (by decide) (by rfl) (by rfl)) (@ge_int _ _ _ _)) (@ah _) (by rfl)) (by rfl)) (@au _ _ _ 4 _ sc.nd (by rfl) (f' rfl) (by rfl) (by first | exact .inl rfl | exact .inr rfl)) (@ax _ _ _ _ (@dq _ _ _ _ _ (@hZ _ _ _ _ _ _ _ _ _ 11 _ _ O7 O8 dh (@ae _ _ _ _ _ (@aM _ _ _ _ _ _ _ hr (@bh _ _ 5 _ (by rfl) (by first | exact f' rfl | exact i_ (f' rfl) | exact i_ (i_ rfl)) (by decide) (by decide)) (@ai _ _ _ _ _ _ _ _ _ _ _ _ G_take hr (by rfl) (@bo _ _ _ 0 _ _ (@af _ _ _ _ _ (@bh _ _ 9 _ (by rfl) (by first | exact f' rfl | exact i_ (f' rfl) | exact i_ (i_ rfl)) (by decide) (by decide)) (@aj _) (by rfl)) (by rfl) (by first | exact f' rfl | exact i_ (f' rfl) | exact i_ (i_ rfl)) (by decide) (by decide) (by rfl)) (by omega) (by decide) (by rfl) (by rfl)) (by intro _ _;rfl)) (@ah _) (by rfl)) (by rfl) (by first | exact f' rfl | exact i_ (f' rfl) | exact i_ (i_ rfl)) (by decide) (by decide) (by rfl) (by rfl) (by rfl) (by rfl) (by rfl)) (by rfl))) (by intro _;rfl)) (@ax _ _ _ _ (@pN _ _ _ _ _ _ _ (@bW _ _ _ _ _ (@ae _ _ _ _ _ (@aM _ _ _ _ _ _ _ hr (@bh _ _ 6 _ (by rfl) (by first | exact f' rfl | exact i_ (f' rfl) | exact i_ (i_ rfl)) (by decide) (by decide)) (@ai _ _ _ _ _ _ _ _ _ _ _ _ G_take hr (by rfl) (@bo _ _ _ 0 _ _ (@af _ _ _ _ _ (@bh _ _ 2 _ (by rfl) (by first | exact f' rfl | exact i_ (f' rfl) | exact i_ (i_ rfl)) (by decide) (by decide)) (@aj _) (by rfl)) (by rfl) (by first | exact f' rfl | exact i_ (f' rfl) | exact i_ (i_ rfl)) (by decide) (by decide) (by rfl)) (by omega) (by decide) (by rfl) (by rfl)) (by intro _ _;rfl)) (@ae _ _ _ _ _ (@bh _ _ 11 _ (by rfl) (by first | exact f' rfl | exact i_ (f' rfl) | exact i_ (i_ rfl)) (by decide) (by decide)) (@ah _) (by rfl)) (by rfl))) (@pf _ _ _ _ 7 _ _ _ _ hr (@bh _ _ 10 _ (by rfl) (by first | exact f' rfl | exact i_ (f' rfl) | exact i_ (i_ rfl)) (by decide) (by decide)) (by rfl) (by first | exact f' rfl | exact i_ (f' rfl) | exact i_ (i_ rfl)) (by decide) (by decide) (by intro _;rfl)) (by rfl) (by rfl) (by rfl))))) (by intro _;rfl)) (@ax _ _ _ _ (@b9 _ _ _ _ _ (@nD _ _ 7 _ (by rfl) (by first | exact f' rfl | exact i_ (f' rfl) | exact i_ (i_ rfl)) (by decide) (by decide)))))))))),fun ts kk hl hp=>?_⟩
 clear hl
 obtain⟨c,n,m,u,rfl,hn,hm,u0,u1,q⟩:=hp
 walk_at "go"
 rw[F',xP]
 refine⟨⟨by omega,by omega⟩,eA,⟨by omega,by omega⟩,?_⟩
 refine aW (by rw[b_,y_,NI];omega) (fun i acc ie=>∃(c':Cells) (l os:List Nat) (z1:T),(os++l).Perm (m_ m)/\os.length=i/\acc=os.map nT/\ie=[z1,.lst true (l.map nT),stT c' (n + i)]) ⟨c,m_ m,[],_,.refl _,rfl,rfl,rfl⟩ ?_ ?_
 ·rintro i t _ _ ⟨c',l,os,z1,pm,hos,rfl,rfl⟩ ei
  have hi:i < m:=by
   have:=(c_.mp ei).1
   rwa[b_,y_]at this
  have hl:os.length + l.length=m:=by
   have:=pm.length_eq
   rwa[j_,y_]at this
  walk_at "go"
  refine⟨_,_,_,rfl,by omega,by omega,by omega,?_⟩
  intro r c1 a1 b1
  have hr:r.toNat < l.length:=by omega
  have ex:l[r.toNat]?=some l[r.toNat]:=a_ hr
  walk_at "go"
  refine⟨⟨a1,by omega⟩,aF (by rw[B',ex];rfl) ?_⟩
  walk_at "go"
  rw[qu]
  refine⟨c1,l.eraseIdx r.toNat,os++[l[r.toNat]],_,?_,by rw[j_,hos];rfl,by rw[A'];rfl,rfl⟩
  rw[h_]
  exact((lO ex).symm.append_left os).trans pm
 rintro _ _ ⟨c',l,os,z1,pm,hos,rfl,rfl⟩
 rw[b_,y_]at hos ⊢
 have hl:l=[]:=by
  have:=pm.length_eq
  rw[j_,y_]at this
  exact IW (by omega)
 subst hl
 rw[IP]at pm
 have nd:os.Nodup:=pm.nodup_iff.mpr LW
 have mem:∀ i,i∈os↔i < m:=fun i=>pm.mem_iff.trans IQ
 walk_at "go"
 walk_at "take"
 intro r c1 a1 b1
 walk_at "go"
 obtain⟨ns,hns,nsb,en⟩:=zO a1 b1
 refine aF en ?_
 walk_at "go"
 refine⟨⟨by omega,by omega⟩,?_⟩
 walk_at "take"
 intro r2 c2 a2 b2
 walk_at "go"
 obtain⟨v,v0,v1,ev⟩:=C0 a2 b2
 refine aF ev ?_
 walk_at "go"
 rw[F',E1]
 refine cO (fun p env=>∃(c':Cells) (n':Nat) (J:List Jb) (o6:Bool) (z4 z9 z10 z11:T),n'<=n + m + 2 + p * 10/\JP os m p J/\env=[stT c' n',.int (m:Int),.int (u:Int),.lst true [],z4,.lst false (os.map nT),.lst o6 (ns.map T.int),.lst true (J.map jbT),.int (v:Int),z9,z10,z11]) ⟨c2,_,_,true,_,_,_,_,by omega,Iz,rfl⟩ ?_ ?_
 ·rintro p t _ ⟨c',n',J,o6,z4,z9,z10,z11,hn',hJ,rfl⟩ ei
  obtain⟨i,ej,rfl⟩:=jP ei
  have hp:p < os.length:=(c_.mp ej).1
  have im:i < m:=(mem i).mp (t_ ej)
  walk_at "go"
  refine dv (fun g=>?_) (fun g=>?_)
  ·walk_at "go"
   refine⟨_,_,_,rfl,by omega,by omega,by omega,?_⟩
   intro r3 c3 a3 b3
   walk_at "go"
   refine⟨⟨by omega,by omega⟩,cO (fun a env=>∃(c3:Cells) (n3:Nat) (nds:List Nat) (z4:T),n3<=n' + 1 + a/\nds.length=a/\(∀ x∈nds,x∈os.take p)/\env=[stT c3 n3,.int (m:Int),.int (u:Int),.lst true [],z4,.lst false (os.map nT),.lst o6 (ns.map T.int),.lst true (J.map jbT),.int (v:Int),.int (p:Int),.int (i:Int),.lst true (nds.map nT)]) ⟨c3,n' + 1,[],_,by omega,rfl,(fun x z=>by cases z),rfl⟩ ?_ ?_⟩
   ·rintro a t _ ⟨c5,n5,nds,z4,hn5,hnd,hx,rfl⟩ ea
    have ha:=se ea
    walk_at "go"
    refine⟨_,_,_,rfl,by omega,by omega,by omega,?_⟩
    intro r5 c6 a5 b5
    have h5:r5.toNat < os.length:=by omega
    have e5:os[r5.toNat]?=some os[r5.toNat]:=a_ h5
    walk_at "go"
    refine aF (u:=nT os[r5.toNat]) (by have:=cV (g:=nT) e5;rwa[Jl a5]at this) ?_
    walk_at "go"
    refine⟨by omega,c6,n5 + 1,nds++[os[r5.toNat]],_,by omega,by rw[j_,hnd];rfl,fun x hx'=>?_,by rw[A'];rfl⟩
    rcases D_.mp hx' with hx' | hx'
    ·exact hx x hx'
    rw[C'.mp hx']
    exact IH.mpr ⟨r5.toNat,by rw[Jj (by omega)];exact e5⟩
   rintro _ ⟨c5,n5,nds,z4,hn5,hnd,hx,rfl⟩
   rw[eh]at hn5 hnd
   walk_at "go"
   refine⟨_,_,_,rfl,by omega,by omega,by omega,?_⟩
   intro r4 c4 a4 b4
   walk_at "go"
   obtain⟨tv,etv,htv⟩:=ni (fun v=>0<=v/\v<=40) (ns:=ns) (i:=r4) a4 (by omega) nsb
   refine aF etv ?_
   walk_at "go"
   refine aF (uG (by rw[hJ.1];exact im)) ?_
   walk_at "go"
   exact⟨c4,n5 + 1,J.set i ⟨tv,nds,false,true⟩,false,_,_,_,_,by omega,ya htv nd mem hJ ej (by omega) hx,by rw[KI];rfl⟩
  walk_at "go"
  refine⟨⟨by decide,by decide⟩,cO (fun a env=>∃(c3:Cells) (n3:Nat) (nds:List Nat) (z4:T),n3<=n' + 1 + a/\nds.length=a/\(∀ x∈nds,x∈os.take p)/\env=[stT c3 n3,.int (m:Int),.int (u:Int),.lst true [],z4,.lst false (os.map nT),.lst o6 (ns.map T.int),.lst true (J.map jbT),.int (v:Int),.int (p:Int),.int (i:Int),.lst true (nds.map nT)]) ⟨c',n',[],_,by omega,rfl,(fun x z=>by cases z),rfl⟩ (fun a t _ _ ea=>absurd (se ea) (La _)) ?_⟩
  rintro _ ⟨c5,n5,nds,z4,hn5,hnd,hx,rfl⟩
  rw[eh]at hn5 hnd
  walk_at "go"
  refine⟨_,_,_,rfl,by omega,by omega,by omega,?_⟩
  intro r4 c4 a4 b4
  walk_at "go"
  obtain⟨tv,etv,htv⟩:=ni (fun v=>0<=v/\v<=40) (ns:=ns) (i:=r4) a4 (by omega) nsb
  refine aF etv ?_
  walk_at "go"
  refine aF (uG (by rw[hJ.1];exact im)) ?_
  walk_at "go"
  exact⟨c4,n5 + 1,J.set i ⟨tv,nds,false,true⟩,false,_,_,_,_,by omega,ya htv nd mem hJ ej (by omega) hx,by rw[KI];rfl⟩
 rintro _ ⟨c',n',J,o6,z4,z9,z10,z11,hn',hJ,rfl⟩
 rw[dX,hos]at hn' hJ
 walk_at "go"
 exact q c' n' J _ _ (by omega) hJ.1 (by unfold JOk;rw[hJ.1];exact hJ.2.1) (AZ nd mem hos hJ)
end
noncomputable def lM:FP:=fun ts k=>∃(c:Cells) (n:Nat) (m:Nat),ts=[stT c n,.int (m:Int)]/\n < 2 ^ 30/\m<=10/\∀(c':Cells) (n':Nat) (os:List Nat) z,n'<=n + 100->os.Nodup->(∀ i,i∈os↔i < m)->os.length=m->k (.lst true (os.map nT)) [stT c' n',z]
section
variable{P:Nl}{w:Nq}{K:M8}{mg:Str->Option M7}{base:Nr}
theorem jt:FnScope ["_law_state","_law_many","_law_left"] ["_law_state","_law_many"] (ak fY):=⟨rfl,rfl,rfl,by decide +kernel,rfl,by decide +kernel,by decide +kernel⟩
set_option maxHeartbeats 4000000 in
theorem qD{f:M9}{fd:NB}(F:Fun K "_law_order_of" "_law_order_of" fY f fd)(TX:Txt mg)  (G_take:Cal P w K mg base 1 "_law_take" ["_law_state","_law_many"] (aK K 2 jd)):FnOk P w K mg base CX0 2 f fd ["_law_state","_law_many"] (aK K 2 lM):=by
 refine cp F jt [true,true] rfl (fun cdv A outer s H E hr=>?_)
 have sc:=@jt
 have nd1:(["_law_turn","_law_left","_law_state"]:List Str).Nodup:=by decide +kernel
 refine⟨_,(ag (aE (i:=2) sc.nd (by rfl) (i_ rfl) (by rfl) (aQ (fH (by rfl) (by rfl) TX.list (by rfl) TX.range (ae (ab 1) ah)))) (ax (b9 (dC sc ["_law_turn","_law_left","_law_state"] [none,some 2,some 0] nd1 (by decide +kernel) (fu (by rfl) TX.range (ae (bh 1) ah)) (fun _ _ _=>(au (i:=0) nd1 (by rfl) (f' rfl) (by rfl) (hf:=(i_ rfl)))) (fun _ _ _=>bB) (fun _ _ _=>(hZ 1 Rv Rw mX (ae (ai G_take hr (by rfl) (bo 2 (af (aQ (bK bA (by rfl) TX.len (by decide +kernel) (ae (ab 1) ah))) aj))) ah))))))),fun ts kk hl hp=>?_⟩
 clear hl
 obtain⟨c,n,m,rfl,hn,hm,q⟩:=hp
 walk_at "go"
 rw[F',xP]
 refine⟨⟨by omega,by omega⟩,eA,⟨by omega,by omega⟩,?_⟩
 refine aW (by rw[b_,y_,NI];omega) (fun i acc ie=>∃(c':Cells) (l os:List Nat) (z1:T),(os++l).Perm (m_ m)/\os.length=i/\acc=os.map nT/\ie=[z1,.lst true (l.map nT),stT c' (n + i)]) ⟨c,m_ m,[],_,.refl _,rfl,rfl,rfl⟩ ?_ ?_
 ·rintro i t _ _ ⟨c',l,os,z1,pm,hos,rfl,rfl⟩ ei
  have hi:i < m:=by
   have:=(c_.mp ei).1
   rwa[b_,y_]at this
  have hl:os.length + l.length=m:=by
   have:=pm.length_eq
   rwa[j_,y_]at this
  walk_at "go"
  refine⟨_,_,_,rfl,by omega,by omega,by omega,?_⟩
  intro r c1 a1 b1
  have hr:r.toNat < l.length:=by omega
  have ex:l[r.toNat]?=some l[r.toNat]:=a_ hr
  walk_at "go"
  refine⟨⟨a1,by omega⟩,aF (by rw[B',ex];rfl) ?_⟩
  walk_at "go"
  rw[qu]
  refine⟨c1,l.eraseIdx r.toNat,os++[l[r.toNat]],_,?_,by rw[j_,hos];rfl,by rw[A'];rfl,rfl⟩
  rw[h_]
  exact((lO ex).symm.append_left os).trans pm
 rintro _ _ ⟨c',l,os,z1,pm,hos,rfl,rfl⟩
 rw[b_,y_]at hos ⊢
 have hl:l=[]:=by
  have:=pm.length_eq
  rw[j_,y_]at this
  exact IW (by omega)
 subst hl
 rw[IP]at pm
 have nd:os.Nodup:=pm.nodup_iff.mpr LW
 have mem:∀ i,i∈os↔i < m:=fun i=>pm.mem_iff.trans IQ
 walk_at "go"
 exact q c' _ os _ (by omega) nd mem hos
end
noncomputable def iA:FP:=fun ts k=>∃(o o2:Bool) (J:List Jb) (to:List Nat),ts=[.lst o (J.map jbT),.lst o2 (to.map nT)]/\J.length<=10/\JOk J/\to.Nodup/\to.length=J.length/\(∀ i∈to,i < J.length)/\∀(J':List Jb) z1 z2,J'.length=J.length->(∀(i a:Nat) (j:Jb),to[i]?=some a->J[i]?=some j->J'[a]?=some (rJ to j))->k (.lst true (J'.map joT)) [z1,z2]
section
variable{P:Nl}{w:Nq}{K:M8}{mg:Str->Option M7}{base:Nr}
theorem fI:FnScope ["_law_jobs_here","_law_to","_law_made","_law_number","_law_tool","_law_needs"] ["_law_jobs_here","_law_to"] (ak df):=⟨rfl,rfl,rfl,by decide +kernel,rfl,by decide +kernel,by decide +kernel⟩
set_option maxHeartbeats 4000000 in
theorem ml{f:M9}{fd:NB}(F:Fun K "_law_renumbered" "_law_renumbered" df f fd)(TX:Txt mg)  :FnOk P w K mg base CX0 1 f fd ["_law_jobs_here","_law_to"] (aK K 2 iA):=by
 refine cp F fI [true,true] rfl (fun cdv A outer s H E hr=>?_)
 have sc:=@fI
 have nd1:(["_law_need","_law_to"]:List Str).Nodup:=by decide +kernel
 refine⟨_,(ag (aE (i:=2) sc.nd (by rfl) (f' rfl) (by rfl) (aP qr (aQ (bY (ae nS ah))) (aQ (bK bA (by rfl) TX.len (by decide +kernel) (ae (ab 0) ah))))) (ag (gc Oh (by rfl) (jV (by rfl) TX.enumerate (ae (bh 0) ah)) (cF (n:=2) (by rfl) (aC (au (i:=3) sc.nd (by rfl) (f' rfl) (by rfl)) (aC (cF (n:=2) (by rfl) (aC (au (i:=4) sc.nd (by rfl) (f' rfl) (by rfl)) (aC (au (i:=5) sc.nd (by rfl) (f' rfl) (by rfl)) bZ))) bZ))) (ax (pN (bW (ae (bh 4) (ae (aQ (dC sc ["_law_need","_law_to"] [none,some 1] nd1 (by decide +kernel) (bS (ab 5)) (fun _ _ _=>(au (i:=0) nd1 (by rfl) (f' rfl) (by rfl) (hf:=(i_ rfl)))) (fun _ _ _=>bB) (fun _ _ _=>(aM hr (ab 1) (ab 0))))) ah))) (pf (i:=2) hr (aQ (aM hr (ab 1) (ab 3))))))) (ax (b9 (nD 2))))),fun ts kk hl hp=>?_⟩
 clear hl
 obtain⟨o,o2,J,to,rfl,hl,hj,nd,tl',lt,q⟩:=hp
 walk_at "go"
 rw[F',show w_ J.length T.non=(w_ J.length none).map moT by rw[KJ];rfl]
 refine⟨⟨by omega,by omega⟩,cO (fun i env=>∃(M:List (Option Jb)) (z3 z4 z5:T),M.length=J.length/\(∀(p a:Nat) (j:Jb),p < i->to[p]?=some a->J[p]?=some j->M[a]?=some (some (rJ to j)))/\env=[.lst false (J.map jbT),.lst o2 (to.map nT),.lst true (M.map moT),z3,z4,z5]) ⟨_,_,_,_,JJ ..,fun p a j h=>absurd h (La _),rfl⟩ ?_ ?_⟩
 ·rintro i u _ ⟨M,z3,z4,z5,hM,mem,rfl⟩ ei
  obtain⟨j,ej,rfl⟩:=jP ei
  have hi:i < J.length:=(c_.mp ej).1
  have et:to[i]?=some (to[i]'(by omega)):=a_ _
  have tm:=lt _ (t_ et)
  obtain⟨⟨ja,jb,_⟩,jn,jl⟩:=hj j (t_ ej)
  rw[fN ja]
  walk_at "go"
  refine aW (by rw[b_,NI];omega) (fun a acc ie=>∃ z1,acc=(j.needs.take a).map (fun x=>nT (to.getD x 0))/\ie=[z1,.lst false (to.map nT)]) ⟨_,rfl,rfl⟩ ?_ ?_
  ·rintro a u _ _ ⟨z1,rfl,rfl⟩ ea
   obtain⟨x,ex,rfl⟩:=bO ea
   have hx:x < to.length:=by rw[tl'];exact jl x (t_ ex)
   have e2:to[x]?=some (to.getD x 0):=by rw[C_,a_ hx];rfl
   walk_at "go"
   refine aF (cV e2) ?_
   walk_at "go"
   exact⟨_,by rw[map_take ex],rfl⟩
  rintro _ _ ⟨z1,rfl,rfl⟩
  rw[b_,IK]
  walk_at "go"
  refine aF (cV et) ?_
  walk_at "go"
  refine aF (uG (by omega)) ?_
  walk_at "go"
  refine⟨M.set to[i] (some (rJ to j)),_,_,_,by rw[IE,hM],fun p a j' hp ea ej'=>?_,by rw[KI,HK]⟩
  by_cases z:p=i
  ·subst z
   rw[et]at ea
   rw[ej]at ej'
   cases ea
   cases ej'
   rw[Jq (by omega)]
  rw[Jw (fun w=>z (oS nd ea (by rw[<-w];exact et)))]
  exact mem p a j' (by omega) ea ej'
 rintro _ ⟨M,z3,z4,z5,hM,mem,rfl⟩
 rw[dX]at mem
 obtain⟨J',l1,rfl⟩:=Fv (M:=M) fun a ha=>by
  obtain⟨i,hi,e⟩:=yQ nd tl' lt a (by omega)
  exact⟨_,mem i a _ hi e (a_ hi)⟩
 walk_at "go"
 rw[II]
 refine q J' _ _ (by rw[l1]at *;rw[<-hM,b_]) fun i a j ea ej=>?_
 have hi:i < J.length:=(c_.mp ej).1
 have:=mem i a j hi ea ej
 rw[B']at this
 cases e:J'[a]? with
 | none=>rw[e]at this;cases this
 | some x=>rw[e]at this;exact v_ this
end
noncomputable def nL:FP:=fun ts k=>∃(o:Bool) (J:List Jb) (g:Nat),ts=[.lst o (J.map jbT),.int (g:Int)]/\J.length<=10/\JOk J/\g < J.length/\∀(J':List Jb) z1 z2,J'=(J.eraseIdx g).map (wJ g)->k (.lst true (J'.map joT)) [z1,z2]
section
variable{P:Nl}{w:Nq}{K:M8}{mg:Str->Option M7}{base:Nr}
theorem lV:FnScope ["_law_jobs_here","_law_gone","_law_made","_law_number","_law_tool","_law_needs"] ["_law_jobs_here","_law_gone"] (ak j8):=⟨rfl,rfl,rfl,by decide +kernel,rfl,by decide +kernel,by decide +kernel⟩
set_option maxHeartbeats 4000000 in
theorem rY{f:M9}{fd:NB}(F:Fun K "_law_without" "_law_without" j8 f fd)(TX:Txt mg)  :FnOk P w K mg base CX0 1 f fd ["_law_jobs_here","_law_gone"] (aK K 2 nL):=by
 refine cp F lV [true,true] rfl (fun cdv A outer s H E hr=>?_)
 have sc:=@lV
 have nd1:(["_law_need","_law_gone"]:List Str).Nodup:=by decide +kernel
 refine⟨_,(ag (aE (i:=2) sc.nd (by rfl) (f' rfl) (by rfl) (aQ (bY ah))) (ag (gc Oh (by rfl) (jV (by rfl) TX.enumerate (ae (bh 0) ah)) (cF (n:=2) (by rfl) (aC (au (i:=3) sc.nd (by rfl) (f' rfl) (by rfl)) (aC (cF (n:=2) (by rfl) (aC (au (i:=4) sc.nd (by rfl) (f' rfl) (by rfl)) (aC (au (i:=5) sc.nd (by rfl) (f' rfl) (by rfl)) bZ))) bZ))) (ax (l9 (mB (cK (iR hr) (ab 3) (ab 1) (b7 _))) (ax (dq (hZ 2 O7 O8 dh (ae (aQ (bW (ae (ab 4) (ae (dC sc ["_law_need","_law_gone"] [none,some 1] nd1 (by decide +kernel) (bS (ab 5)) (fun _ _ _=>(au (i:=0) nd1 (by rfl) (f' rfl) (by rfl) (hf:=(i_ rfl)))) (fun _ _ _=>bB) (fun _ _ _=>(aP kI (ab 0) (iY vW (by rfl) TX.int (by decide +kernel) (ae (pQ zN (ab 0) (ab 1) (b7 _)) ah))))) ah)))) ah)))) dA))) (ax (b9 (nD 2))))),fun ts kk hl hp=>?_⟩
 clear hl
 obtain⟨o,J,g,rfl,hl,hj,hg,q⟩:=hp
 walk_at "go"
 refine cO (fun i env=>∃ z3 z4 z5,env=[.lst false (J.map jbT),.int (g:Int),.lst true ((((J.take i).eraseIdx g).map (wJ g)).map joT),z3,z4,z5]) ⟨_,_,_,by rw[MM,List.eraseIdx_nil];rfl⟩ ?_ ?_
 ·rintro i u _ ⟨z3,z4,z5,rfl⟩ ei
  obtain⟨j,ej,rfl⟩:=jP ei
  have hi:i < J.length:=(c_.mp ej).1
  obtain⟨⟨ja,jb,_⟩,jn,jl⟩:=hj j (t_ ej)
  rw[fN ja,FQ ej]
  walk_at "go"
  refine dv (fun h=>?_) (fun h=>?_)
  ·walk_at "go"
   rw[if_pos (by omega)]
   exact⟨_,_,_,rfl⟩
  walk_at "go"
  rw[if_neg (by omega)]
  refine aW (by rw[b_,NI];omega) (fun a acc ie=>∃ z1,acc=(j.needs.take a).map (fun x=>nT (if g < x then x - 1 else x))/\ie=[z1,.int (g:Int)]) ⟨_,rfl,rfl⟩ ?_ ?_
  ·rintro a u _ _ ⟨z1,rfl,rfl⟩ ea
   obtain⟨x,ex,rfl⟩:=bO ea
   walk_at "go"
   refine⟨_,?_,rfl⟩
   rw[map_take ex]
   congr 2
   by_cases z:g < x
   ·rw[if_pos z,if_pos (by omega)]
    show T.int _=T.int _
    congr 1
    omega
   rw[if_neg z,if_neg (by omega),Mm]
  rintro _ _ ⟨z1,rfl,rfl⟩
  rw[b_,IK]
  walk_at "go"
  refine⟨?_,_,_,_,by rw[A',A',<-Ia];rfl⟩
  have:=List.length_eraseIdx_le (J.take i) g
  rw[D']at this
  omega
 rintro _ ⟨z3,z4,z5,rfl⟩
 rw[dX,IK]
 walk_at "go"
 exact q _ _ _ rfl
end
noncomputable def vB:FP:=fun ts k=>∃(c:Cells) (n:Nat) (o o2:Bool) (J:List Jb) (L:Int) (os:List Nat),ts=[stT c n,.lst o (J.map jbT),.tup [.int L,.lst o2 (os.map nT)]]/\n < 2 ^ 29/\J.length<=10/\JOk J/\aX (aA J) L os/\∀(c':Cells) (n':Nat) z1 z2,n'<=n + 1000->k (.bl true) [stT c' n',z1,z2]
section
variable{P:Nl}{w:Nq}{K:M8}{mg:Str->Option M7}{base:Nr}
theorem qf:FnScope ["_law_state","_law_jobs_here","_law_found","_law_to","_law_others"] ["_law_state","_law_jobs_here","_law_found"] (ak pE):=⟨rfl,rfl,rfl,by decide +kernel,rfl,by decide +kernel,by decide +kernel⟩
set_option maxHeartbeats 4000000 in
theorem xu{f:M9}{fd:NB}(F:Fun K "_law_alike" "_law_alike" pE f fd)(TX:Txt mg)  (G_least_takes:Cal P w K mg base 4 "least_takes" ["jobs"] (aK K 1 cj))(G_same:Cal P w K mg base 4 "_law_same" ["_law_found","_law_due"] (aK K 2 (ji 4)))(G_renumbered:Cal P w K mg base 1 "_law_renumbered" ["_law_jobs_here","_law_to"] (aK K 2 iA))(G_order_of:Cal P w K mg base 2 "_law_order_of" ["_law_state","_law_many"] (aK K 2 lM)):FnOk P w K mg base CX0 5 f fd ["_law_state","_law_jobs_here","_law_found"] (aK K 3 vB):=by
 refine cp F qf [true,true,true] rfl (fun cdv A outer s H E hr=>?_)
 have sc:=@qf
 have nd1:(["_law_tool","_law_needs"]:List Str).Nodup:=by decide +kernel
 refine⟨_,(ag (aE (i:=3) sc.nd (by rfl) (f' rfl) (by rfl) (ai G_order_of hr (by rfl) (bo 0 (af (aQ (bK bA (by rfl) TX.len (by decide +kernel) (ae (ab 1) ah))) aj)))) (ag (l9 (mB (cK (iR hr) (aM hr (ai G_least_takes hr (by rfl) (af (ai G_renumbered hr (by rfl) (af (ab 1) (af (ab 3) aj))) aj)) ge_int) (aM hr (ab 2) ge_int) (b7 _))) (ax (b9 qJ)) dA) (ag (eK sc (i:=4) ["_law_tool","_law_needs"] [none,none] nd1 (by decide +kernel) (by rfl) (f' rfl) (by rfl) (bS (ab 1)) (fun _ _ _=>(cF (n:=2) (by rfl) (aC (au (i:=0) nd1 (by rfl) (f' rfl) (by rfl) (hf:=(i_ rfl))) (aC (au (i:=1) nd1 (by rfl) (f' rfl) (by rfl) (hf:=(i_ rfl))) bZ)))) (fun _ _ _=>bB) (fun _ _ _=>(bW (ae (aP kI ge_int (ab 0)) (ae (aP bN (tM (by rfl) (by rfl) TX.list (by rfl) TX.reversed (ab 1)) (xm (ab 1) AM (B6 ge_int))) ah)))) (by rfl)) (ax (b9 (aQ (ai G_same hr (by rfl) (af (ai G_least_takes hr (by rfl) (af (ab 4) aj)) (af (ab 2) aj))))))))),fun ts kk hl hp=>?_⟩
 clear hl
 obtain⟨c,n,o,o2,J,L,os,rfl,hn,hl,hj,hf,q⟩:=hp
 walk_at "go"
 refine⟨c,n,J.length,rfl,by omega,hl,fun c' n' to z hn' nd mem hto=>?_⟩
 walk_at "go"
 refine⟨_,_,J,to,rfl,hl,hj,nd,hto,fun i m=>(mem i).mp m,fun J' z1 z2 l1 hJ'=>?_⟩
 obtain⟨nr,un⟩:=vO hj nd hto (fun i m=>(mem i).mp m) l1 hJ' hf
 walk_at "go"
 refine xf (by omega) (fun j m x mx=>?_) nr (fun L' os' z h'=>?_)
 ·obtain⟨a,ha,ea⟩:=Jk.mp m
  obtain⟨i,hi,e⟩:=yQ nd hto (fun i m=>(mem i).mp m) a (by omega)
  have:=hJ' i a _ e (a_ hi)
  rw[a_ ha,ea]at this
  cases this
  obtain⟨y,my,rfl⟩:=B_.mp mx
  have hy:y < to.length:=by rw[hto];exact(hj _ (I_ hi)).2.2 y my
  rw[C_,a_ hy]
  have:=(mem _).mp (I_ hy)
  show to[y]<=1000
  omega
 have eL:=un L' os' h'
 subst eL
 walk_at "go"
 refine aW (by rw[b_,NI];omega) (fun i acc ie=>∃ z1 z2,acc=(J.take i).map (fun j=>joT (oJ j))/\ie=[z1,z2]) ⟨_,_,rfl,rfl⟩ ?_ ?_
 ·rintro i u _ _ ⟨z1,z2,rfl,rfl⟩ ei
  obtain⟨j,ej,rfl⟩:=bO ei
  obtain⟨⟨ja,jb,_⟩,jn,jl⟩:=hj j (t_ ej)
  rw[fN ja,jb,show ndT true j.needs=.lst false (j.needs.map nT)from rfl]
  walk_at "go"
  have ec:mC (j.needs.map nT) none (some 1)=(j.needs.take 1).map nT:=(wK (j.needs.map nT) 1).trans (LA ..).symm
  rw[ec,<-List.map_reverse]
  refine⟨by rw[b_,b_,Jp,D'];omega,_,_,?_,rfl⟩
  rw[map_take ej,<-A']
  rfl
 rintro _ _ ⟨z1,z2,rfl,rfl⟩
 rw[b_,IK]
 walk_at "go"
 refine⟨qX,?_⟩
 have e1:(J.map fun x=>jbT ⟨(oJ x).tool,(oJ x).needs,false,(oJ x).b⟩)=(J.map oJ).map fun x=>jbT x:=by rw[II];rfl
 have f2:=xS hf
 rw[e1]
 refine eM (by rw[b_];omega) (fun j m x mx=>?_) ⟨_,f2.1⟩ (fun L2 os2 z h2=>?_)
 ·obtain⟨i,mi,rfl⟩:=B_.mp m
  have hx:x∈i.needs:=(D_.mp mx).elim Ke.mp IX
  have:=(hj i mi).2.2 x hx
  omega
 obtain⟨rfl,rfl⟩:=dD h2 f2
 have ol:=yM hf.1.1
 rw[aI]at ol
 walk_at "go"
 refine pO (n:=2) (kX (o:=false) (by omega)) (by decide) (kX (by omega)).1 ?_ ?_
 ·simp only[dt,dtL]
 walk_at "go"
 exact q _ _ _ _ (by omega)
end
noncomputable def dI:FP:=fun ts k=>∃(c:Cells) (n:Nat) (o o2:Bool) (J:List Jb) (L:Int) (os:List Nat),ts=[stT c n,.lst o (J.map jbT),.tup [.int L,.lst o2 (os.map nT)]]/\n < 2 ^ 29/\2<=J.length/\J.length<=10/\JOk J/\aX (aA J) L os/\∀(c':Cells) (n':Nat) z1 z2,n'<=n + 1000->k (.bl true) [stT c' n',z1,z2]
section
variable{P:Nl}{w:Nq}{K:M8}{mg:Str->Option M7}{base:Nr}
theorem d4:FnScope ["_law_state","_law_jobs_here","_law_found","_law_order","_law_at","_law_number","_law_need","_law_more","_law_free","_law_gone"] ["_law_state","_law_jobs_here","_law_found"] (ak cu):=⟨rfl,rfl,rfl,by decide +kernel,rfl,by decide +kernel,by decide +kernel⟩
set_option maxHeartbeats 4000000 in
theorem j6{f:M9}{fd:NB}(F:Fun K "_law_more_and_less" "_law_more_and_less" cu f fd)(TX:Txt mg)  (G_least_takes:Cal P w K mg base 4 "least_takes" ["jobs"] (aK K 1 cj))(G_take:Cal P w K mg base 1 "_law_take" ["_law_state","_law_many"] (aK K 2 jd))(G_without:Cal P w K mg base 1 "_law_without" ["_law_jobs_here","_law_gone"] (aK K 2 nL)):FnOk P w K mg base CX0 5 f fd ["_law_state","_law_jobs_here","_law_found"] (aK K 3 dI):=by
 refine cp F d4 [true,true,true] rfl (fun cdv A outer s H E hr=>?_)
 have sc:=@d4
 have nd1:(["_law_k","_law_jobs_here"]:List Str).Nodup:=by decide +kernel
 have nd2:(["_law_tool","_law_needs","_law_k"]:List Str).Nodup:=by decide +kernel
 refine⟨_,(ag (aE (i:=3) sc.nd (by rfl) (f' rfl) (by rfl) (aM hr (bh 2) ge_int)) (ag (aE (i:=4) sc.nd (by rfl) (f' rfl) (by rfl) (aP bN ge_int (ai G_take hr (by rfl) (bo 0 (af (aQ (aP kI (bK bA (by rfl) TX.len (by decide +kernel) (ae (ab 3) ah)) ge_int)) aj))))) (ag (D6 (i:=5) (j:=6) (by rfl) sc.nd (by rfl) (by rfl) (by decide) (by rfl) (by rfl) (by rfl) (by rfl) (ae (aQ (aM hr (ab 3) (ab 4))) (ae (aM hr (bh 3) (ai G_take hr (by rfl) (bo 0 (af (bh 4) aj)))) ah)) (by rfl)) (ag (aE (i:=7) sc.nd (by rfl) (f' rfl) (by rfl) (iY l8 (by rfl) TX.list (by decide +kernel) (ae (bh 1) ah))) (ag (pN (bW (ae (aQ (aM hr (aM hr (ab 1) (ab 5)) ge_int)) (ae (aQ (aP bN (aM hr (aM hr (ab 1) (ab 5)) ge_int) (bY (ae (ab 6) ah)))) ah))) (pf (i:=7) hr (bh 5))) (ag (l9 (mB (cK (iR hr) (aM hr (ai G_least_takes hr (by rfl) (af (ab 7) aj)) ge_int) (aM hr (ab 2) ge_int) (b7 _))) (ax (b9 qJ)) dA) (ag (vJ sc (i:=8) ["_law_k","_law_jobs_here"] [none,some 1] nd1 (by decide +kernel) (by rfl) (f' rfl) (by rfl) (fu (by rfl) TX.range (ae (bK bA (by rfl) TX.len (by decide +kernel) (ae (ab 1) ah)) ah)) (fun _ _ _=>(au (i:=0) nd1 (by rfl) (i_ rfl) (by rfl) (hf:=(f' rfl)))) (fun _ _ _=>(oR (lN (fV (bK (w6 rfl) (by rfl) TX.any (by decide +kernel) (ae (rT ["_law_tool","_law_needs","_law_k"] [none,none,some 0] nd2 (by rfl) (by rfl) (by rfl) (bS (ab 1)) (fun _ _ _=>(cF (n:=2) (by rfl) (aC (au (i:=0) nd2 (by rfl) (f' rfl) (by rfl) (hf:=(i_ rfl))) (aC (au (i:=1) nd2 (by rfl) (f' rfl) (by rfl) (hf:=(i_ rfl))) bZ)))) (fun _ _ _=>bB) (fun _ _ _=>(pQ (EG hr) (ab 2) (ab 1) (by with_unfolding_all rfl)))) ah)))))) (fun _ _ _=>(ab 0)) (by rfl)) (ag (aE (i:=9) sc.nd (by rfl) (f' rfl) (by rfl) (aM hr (bh 8) (ai G_take hr (by rfl) (bo 0 (af (aQ (bK bA (by rfl) TX.len (by decide +kernel) (ae (ab 8) ah))) aj))))) (ax (b9 (aQ (pQ Dz (aM hr (ai G_least_takes hr (by rfl) (af (ai G_without hr (by rfl) (af (ab 1) (af (ab 9) aj))) aj)) ge_int) (aM hr (ab 2) ge_int) (b7 _))))))))))))),fun ts kk hl hp=>?_⟩
 clear hl
 obtain⟨c,n,o,o2,J,L,os,rfl,hn,hl0,hl,hj,hf,q⟩:=hp
 have ol:os.length=J.length:=by
  have h:=(tO (lY os 0 hf.1.1).1 fun i m=>(bc hf.1 i).mp m).mpr hf.1.2
  rw[h,aI]
 walk_at "go"
 refine⟨_,_,_,rfl,by omega,by omega,by omega,?_⟩
 intro r c1 a1 b1
 walk_at "go"
 have h1:(1 + r).toNat < os.length:=by omega
 have e1:os[(1 + r).toNat]?=some os[(1 + r).toNat]:=a_ h1
 refine aF (u:=nT os[(1 + r).toNat]) (by have:=cV (g:=nT) e1;rwa[Jl (by omega)]at this) ?_
 walk_at "go"
 refine⟨_,_,_,rfl,by omega,by omega,by omega,?_⟩
 intro r2 c2 a2 b2
 have h2:r2.toNat < os.length:=by omega
 have e2:os[r2.toNat]?=some os[r2.toNat]:=a_ h2
 walk_at "go"
 refine aF (u:=nT os[r2.toNat]) (by have:=cV (g:=nT) e2;rwa[Jl a2]at this) ?_
 walk_at "go"
 have pq:r2.toNat < (1 + r).toNat:=by omega
 generalize os[(1 + r).toNat]=nu at e1
 generalize os[r2.toNat]=ne at e2
 have nl:nu < J.length:=by have:=(bc hf.1 nu).mp (t_ e1);rwa[aI]at this
 have nel:ne < J.length:=by have:=(bc hf.1 ne).mp (t_ e2);rwa[aI]at this
 have ej:J[nu]?=some J[nu]:=a_ nl
 generalize J[nu]=j at ej
 obtain⟨⟨ja,jb,_⟩,jn,jl⟩:=hj j (t_ ej)
 refine aF (cV ej) ?_
 walk_at "go"
 refine aF (cV ej) ?_
 walk_at "go"
 rw[jb,show ndT true j.needs=.lst false (j.needs.map nT)from rfl]
 walk_at "go"
 refine⟨by omega,aF (uG nl) ?_⟩
 walk_at "go"
 rw[Am]
 obtain⟨nr,un⟩:=yJ ej hf e1 e2 pq
 refine eM (by rw[IE];omega) (fun i m x mx=>?_) nr (fun L2 os2 z h2=>?_)
 ·rcases LG m with m | rfl
  ·exact fU hj (by omega) i m x mx
  rcases D_.mp mx with mx | mx
  ·have:=jl x mx;omega
  rw[C'.mp mx];omega
 have eL:=un L2 os2 h2
 subst eL
 walk_at "go"
 rw[F']
 refine⟨⟨by omega,by omega⟩,aW (by rw[eh,NI];omega) (fun i acc ie=>∃ z1,acc=((m_ i).filter (frB J)).map nT/\ie=[z1,.lst false (J.map jbT)]) ⟨_,rfl,rfl⟩ ?_ ?_⟩
 ·rintro i u _ _ ⟨z1,rfl,rfl⟩ ei
  have et:=EY ei
  subst et
  rw[Mn,yX]
  walk_at "go"
  refine aW (by rw[b_,NI];omega) (fun a acc ie=>∃ z1 z2,acc=(J.take a).map (fun j=>T.bl (decide (i∈j.needs)))/\ie=[z1,z2,.int (i:Int)]) ⟨_,_,rfl,rfl⟩ ?_ ?_
  ·rintro a u _ _ ⟨z1,z2,rfl,rfl⟩ ea
   obtain⟨x,ex,rfl⟩:=bO ea
   obtain⟨⟨xa,xb,_⟩,xn,xl⟩:=hj x (t_ ex)
   rw[fN xa,xb,show ndT true x.needs=.lst false (x.needs.map nT)from rfl]
   walk_at "go"
   exact⟨_,_,by rw[map_take ex],rfl⟩
  rintro _ _ ⟨z1,z2,rfl,rfl⟩
  rw[b_,IK]
  walk_at "go"
  rw[DZ]
  refine oI (fun g=>?_) (fun g=>?_)
  ·walk_at "go"
   exact⟨_,by rw[show frB J i=false by unfold frB;rw[g];rfl];exact(IP _).symm,rfl⟩
  walk_at "go"
  exact⟨_,by rw[show frB J i=true by unfold frB;rw[g];rfl];rfl,rfl⟩
 rintro _ _ ⟨z1,rfl,rfl⟩
 rw[eh]
 have ne0:0 < ((m_ J.length).filter (frB J)).length:=by
  obtain⟨g,gl,gf⟩:=zC hf (by omega)
  exact L8 (Jd.mpr ⟨IQ.mpr gl,uU.mpr gf⟩)
 have le0:((m_ J.length).filter (frB J)).length<=10:=by
  have:=Kb (frB J) (m_ J.length)
  rw[y_]at this
  omega
 have mf:∀ g∈(m_ J.length).filter (frB J),g < J.length/\∀ j∈J,g ∉ j.needs:=fun g m=>⟨IQ.mp (Jd.mp m).1,uU.mp (Jd.mp m).2⟩
 generalize (m_ J.length).filter (frB J)=fr at ne0 le0 mf
 walk_at "go"
 refine⟨_,_,_,rfl,by omega,by omega,by omega,?_⟩
 intro r3 c3 a3 b3
 have h3:r3.toNat < fr.length:=by omega
 have e3:fr[r3.toNat]?=some fr[r3.toNat]:=a_ h3
 walk_at "go"
 refine aF (u:=nT fr[r3.toNat]) (by have:=cV (g:=nT) e3;rwa[Jl a3]at this) ?_
 obtain⟨gl,gf⟩:=mf _ (t_ e3)
 generalize fr[r3.toNat]=g at gl gf
 walk_at "go"
 refine⟨_,J,g,rfl,hl,hj,gl,fun J' z1 z2 eJ=>?_⟩
 obtain⟨nr3,un3⟩:=qp hj gl gf hf
 rw[<-eJ]at nr3 un3
 walk_at "go"
 refine xf (by rw[eJ,b_,Kl,if_pos gl];omega) (fun j m x mx=>?_) nr3 (fun L3 os3 z h3=>?_)
 ·rw[eJ]at m
  obtain⟨i,mi,rfl⟩:=B_.mp m
  obtain⟨y,my,rfl⟩:=B_.mp mx
  have:=(hj i (List.mem_of_mem_eraseIdx mi)).2.2 y my
  show(if g < y then y - 1 else y)<=1000
  split <;> omega
 have l3:=un3 L3 os3 h3
 walk_at "go"
 rw[decide_eq_true l3]
 exact q _ _ _ _ (by omega)
end
section
variable{P:Nl}{w:Nq}{K:M8}{mg:Str->Option M7}{base:Nr}
theorem xQ:FnScope ["_law_script","_law_state","_law_many","_law_jobs_here","_law_found","_law_few","_law_beside","_law_handed","_law_again","_law_job"] ["_law_script"] (ak dY):=⟨rfl,rfl,rfl,by decide +kernel,rfl,by decide +kernel,by decide +kernel⟩
set_option maxHeartbeats 4000000 in
theorem D5{f:M9}{fd:NB}(F:Fun K "law" "law" dY f fd)(TX:Txt mg)  (G_least_takes:Cal P w K mg base 4 "least_takes" ["jobs"] (aK K 1 cj))(G_begin:Cal P w K mg base 1 "_law_begin" ["_law_script"] (aK K 1 (ox K)))(G_take:Cal P w K mg base 1 "_law_take" ["_law_state","_law_many"] (aK K 2 jd))(G_same:Cal P w K mg base 4 "_law_same" ["_law_found","_law_due"] (aK K 2 (ji 4)))(G_jobs:Cal P w K mg base 2 "_law_jobs" ["_law_state","_law_many","_law_tools"] (aK K 3 ye))(G_alike:Cal P w K mg base 5 "_law_alike" ["_law_state","_law_jobs_here","_law_found"] (aK K 3 vB))(G_more_and_less:Cal P w K mg base 5 "_law_more_and_less" ["_law_state","_law_jobs_here","_law_found"] (aK K 3 dI)):FnOk P w K mg base CX0 6 f fd ["_law_script"] (aK K 1 (yK K)):=by
 refine cp F xQ [true] rfl (fun cdv A outer s H E hr=>?_)
 have sc:=@xQ
 have nd1:(["_law_tool","_law_needs","_law_few"]:List Str).Nodup:=by decide +kernel
 have nd2:(["_law_need","_law_few"]:List Str).Nodup:=by decide +kernel
 have nd3:(["_law_tool","_law_needs"]:List Str).Nodup:=by decide +kernel
 have nd4:(["_law_tool","_law_needs"]:List Str).Nodup:=by decide +kernel
 refine⟨_,(bM (aE (i:=1) sc.nd (by rfl) (f' rfl) (by rfl) (aQ (ai G_begin hr (by rfl) (af (ab 0) aj)))) (bM (aE (i:=2) sc.nd (by rfl) (f' rfl) (by rfl) (ge_if (cK (nR hr) (ai G_take hr (by rfl) (bo 1 (af ge_int aj))) ge_int (b7 _)) (aP bN ge_int (ai G_take hr (by rfl) (bo 1 (af ge_int aj)))) (aP bN ge_int (ai G_take hr (by rfl) (bo 1 (af ge_int aj)))))) (bM (aE (i:=3) sc.nd (by rfl) (f' rfl) (by rfl) (ai G_jobs hr (by rfl) (bo 1 (af (bh 2) (af (aP bN ge_int (ai G_take hr (by rfl) (bo 1 (af ge_int aj)))) aj))))) (bM (aE (i:=4) sc.nd (by rfl) (f' rfl) (by rfl) (aQ (ai G_least_takes hr (by rfl) (af (ab 3) aj)))) (bM (l9 (FF (FD (lN (fV (ai G_alike hr (by rfl) (bo 1 (af (bh 3) (af (bh 4) aj)))))) (Dp (lN (fV (ai G_more_and_less hr (by rfl) (bo 1 (af (bh 3) (af (bh 4) aj))))))))) (ax (b9 qJ)) dA) (bM (aE (i:=5) sc.nd (by rfl) (i_ rfl) (by rfl) (ge_if (mB (cK Eu (ab 2) ge_int (b7 _))) (bh 3) (ai G_jobs hr (by rfl) (bo 1 (af ge_int (af ge_int aj)))))) (bM (eK sc (i:=6) ["_law_tool","_law_needs","_law_few"] [none,none,some 5] nd1 (by decide +kernel) (by rfl) (f' rfl) (by rfl) (bS (ab 5)) (fun _ _ _=>(cF (n:=2) (by rfl) (aC (au (i:=0) nd1 (by rfl) (f' rfl) (by rfl) (hf:=(i_ rfl))) (aC (au (i:=1) nd1 (by rfl) (f' rfl) (by rfl) (hf:=(i_ rfl))) bZ)))) (fun _ _ _=>bB) (fun _ _ _=>(bW (ae (aP bN (ab 0) ge_int) (ae (rT ["_law_need","_law_few"] [none,some 2] nd2 (by rfl) (by rfl) (by rfl) (bS (ab 1)) (fun _ _ _=>(au (i:=0) nd2 (by rfl) (f' rfl) (by rfl) (hf:=(i_ rfl)))) (fun _ _ _=>bB) (fun _ _ _=>(aP bN (ab 0) (bK bA (by rfl) TX.len (by decide +kernel) (ae (ab 1) ah))))) ah)))) (by rfl)) (bM (l9 (mB (cK (iR hr) (aM hr (ai G_least_takes hr (by rfl) (af (aP bN (ab 5) (ab 6)) aj)) ge_int) (aP Cd ge_int (aM hr (ai G_least_takes hr (by rfl) (af (ab 5) aj)) ge_int)) (b7 _))) (ax (b9 qJ)) dA) (bM (l9 (mB (lN (fV (ai G_same hr (by rfl) (af (aM hr (ai G_least_takes hr (by rfl) (af (dC sc ["_law_tool","_law_needs"] [none,none] nd3 (by decide +kernel) (bS (ab 3)) (fun _ _ _=>(cF (n:=2) (by rfl) (aC (au (i:=0) nd3 (by rfl) (f' rfl) (by rfl) (hf:=(i_ rfl))) (aC (au (i:=1) nd3 (by rfl) (f' rfl) (by rfl) (hf:=(i_ rfl))) bZ)))) (fun _ _ _=>bB) (fun _ _ _=>(bW (ae ge_int (ae (ab 1) ah))))) aj)) ge_int) (af ge_int aj)))))) (ax (b9 qJ)) dA) (bM (eK sc (i:=7) ["_law_tool","_law_needs"] [none,none] nd4 (by decide +kernel) (by rfl) (f' rfl) (by rfl) (bS (ab 3)) (fun _ _ _=>(cF (n:=2) (by rfl) (aC (au (i:=0) nd4 (by rfl) (f' rfl) (by rfl) (hf:=(i_ rfl))) (aC (au (i:=1) nd4 (by rfl) (f' rfl) (by rfl) (hf:=(i_ rfl))) bZ)))) (fun _ _ _=>bB) (fun _ _ _=>(bY (ae (ab 0) (ae (iY l8 (by rfl) TX.list (by decide +kernel) (ae (ab 1) ah)) ah)))) (by rfl)) (bM (aE (i:=8) sc.nd (by rfl) (f' rfl) (by rfl) (aQ (ai G_least_takes hr (by rfl) (af (ab 7) aj)))) (bM (BI 7 Oh (by rfl) (au (i:=9) sc.nd (by rfl) (f' rfl) (by rfl)) (ag (dq (wV 9 O7 O8 dh (ae ge_int ah))) (ax (dq (rG 9 Q2 Q3 mH))))) (ag (dq (rG 7 Q2 Q3 mH)) (ax (b9 (aQ (Ej (ai G_same hr (by rfl) (af (ab 8) (af (ab 4) aj))) (F0 (ai G_same hr (by rfl) (af (ai G_least_takes hr (by rfl) (af (ab 3) aj)) (af (ab 4) aj))))))))))))))))))))),fun ts kk hl hp=>?_⟩
 clear hl
 obtain⟨t,ns,rfl,hs,hn,q⟩:=hp
 refine cx (fun env=>∃ z c,env=[z,stT c 0,.any,.any,.any,.any,.any,.any,.any,.any]) ?_ ?_
 ·walk_at "go"
  obtain⟨e,i⟩:=EW hs
  rw[e]
  exact⟨i,t,ns,rfl,hs,hn,fun c=>⟨e9,_,c,rfl⟩⟩
 rintro _ ⟨z,c,rfl⟩
 refine cx (fun env=>∃(c:Cells) (m:Nat),2<=m/\m<=10/\env=[z,stT c 2,.int (m:Int),.any,.any,.any,.any,.any,.any,.any]) ?_ ?_
 ·walk_at "go"
  walk_at "take"
  intro r c1 a1 b1
  walk_at "go"
  refine dv (fun g=>?_) (fun g=>?_)
  ·walk_at "go"
   walk_at "take"
   intro r2 c2' a2 b2
   walk_at "go"
   exact⟨_,(7 + r2).toNat,by omega,by omega,by rw[Jl (by omega)]⟩
  walk_at "go"
  walk_at "take"
  intro r2 c2' a2 b2
  walk_at "go"
  exact⟨_,(2 + r2).toNat,by omega,by omega,by rw[Jl (by omega)]⟩
 clear c
 rintro _ ⟨c,m,m0,m1,rfl⟩
 refine cx (fun env=>∃(c:Cells) (n:Nat) (J:List Jb),n<=2000/\J.length=m/\JOk J/\aY (aA J)/\env=[z,stT c n,.int (m:Int),.lst true (J.map jbT),.any,.any,.any,.any,.any,.any]) ?_ ?_
 ·walk_at "go"
  walk_at "take"
  intro r c1 a1 b1
  walk_at "go"
  refine⟨c1,_,m,(1 + r).toNat,by rw[Jl (by omega)],by omega,m1,by omega,by omega,fun c3 n3 J z1 z2 h1 h2 h3 h4=>?_⟩
  walk_at "go"
  exact⟨c3,n3,J,by omega,h2,h3,h4,rfl⟩
 clear c
 rintro _ ⟨c,n,J,hn2,hJ,hj,nr,rfl⟩
 refine cx (fun env=>∃(L:Int) (os:List Nat),aX (aA J) L os/\env=[z,stT c n,.int (m:Int),.lst true (J.map jbT),.tup [.int L,.lst true (os.map nT)],.any,.any,.any,.any,.any]) ?_ ?_
 ·walk_at "go"
  refine eM (by omega) (fU hj (by omega)) nr (fun L os z h=>?_)
  walk_at "go"
  exact⟨L,os,h,rfl⟩
 rintro _ ⟨L,os,hf,rfl⟩
 refine cx (fun env=>∃(c:Cells) (n:Nat),n<=5000/\env=[z,stT c n,.int (m:Int),.lst false (J.map jbT),.tup [.int L,.lst false (os.map nT)],.any,.any,.any,.any,.any]) ?_ ?_
 ·walk_at "go"
  refine⟨c,n,_,_,J,L,os,rfl,by omega,by omega,hj,hf,fun c1 n1 z1 z2 h1=>?_⟩
  walk_at "go"
  refine⟨c1,n1,_,_,J,L,os,rfl,by omega,by omega,by omega,hj,hf,fun c2 n2 z1 z2 h2=>?_⟩
  walk_at "go"
  exact⟨c2,n2,by omega,rfl⟩
 clear c n hn2
 rintro _ ⟨c,n,hn2,rfl⟩
 refine cx (fun env=>∃(c:Cells) (n:Nat) (o5:Bool) (F:List Jb),F.length<=5/\JOk F/\aY (aA F)/\env=[z,stT c n,.int (m:Int),.lst false (J.map jbT),.tup [.int L,.lst false (os.map nT)],.lst o5 (F.map jbT),.any,.any,.any,.any]) ?_ ?_
 ·walk_at "go"
  refine dv (fun g=>?_) (fun g=>?_)
  ·walk_at "go"
   exact⟨c,n,false,J,by omega,hj,nr,rfl⟩
  walk_at "go"
  refine⟨c,n,4,3,rfl,by omega,by omega,by omega,by omega,fun c3 n3 F z1 z2 h1 h2 h3 h4=>?_⟩
  walk_at "go"
  exact⟨c3,n3,true,F,by omega,h3,h4,rfl⟩
 clear c n hn2
 rintro _ ⟨c,n,o5,F,hF,fj,fr,rfl⟩
 refine cx (fun env=>env=[z,stT c n,.int (m:Int),.lst false (J.map jbT),.tup [.int L,.lst false (os.map nT)],.lst o5 (F.map jbT),.lst true (F.map fun j=>joT (bJ F.length j)),.any,.any,.any]) ?_ ?_
 ·walk_at "go"
  refine aW (by rw[b_,NI];omega) (fun i acc ie=>∃ z1 z2,acc=(F.take i).map (fun j=>joT (bJ F.length j))/\ie=[z1,z2,.lst false (F.map jbT)]) ⟨_,_,rfl,rfl⟩ ?_ ?_
  ·rintro i u _ _ ⟨z1,z2,rfl,rfl⟩ ei
   obtain⟨j,ej,rfl⟩:=bO ei
   obtain⟨⟨ja,jb,_⟩,jn,jl⟩:=fj j (t_ ej)
   rw[fN ja,jb,show ndT true j.needs=.lst false (j.needs.map nT)from rfl]
   walk_at "go"
   refine aW (by rw[b_,NI];omega) (fun a acc ie=>∃ z1,acc=(j.needs.take a).map (fun x=>nT (x + F.length))/\ie=[z1,.lst false (F.map jbT)]) ⟨_,rfl,rfl⟩ ?_ ?_
   ·rintro a u _ _ ⟨z1,rfl,rfl⟩ ea
    obtain⟨x,ex,rfl⟩:=bO ea
    walk_at "go"
    exact⟨_,by rw[map_take ex];rfl,rfl⟩
   rintro _ _ ⟨z1,rfl,rfl⟩
   rw[b_,IK]
   walk_at "go"
   exact⟨_,_,by rw[map_take ej,IC],rfl⟩
  rintro _ _ ⟨z1,z2,rfl,rfl⟩
  rw[b_,IK]
  walk_at "go"
  exact qX
 rintro _ rfl
 refine cx (fun env=>env=[z,stT c n,.int (m:Int),.lst false (J.map jbT),.tup [.int L,.lst false (os.map nT)],.lst o5 (F.map jbT),.lst true (F.map fun j=>joT (bJ F.length j)),.any,.any,.any]) ?_ ?_
 ·obtain⟨LF,oF,hF1⟩:=yn fr
  obtain⟨nrS,unS⟩:=AR (F4 fj) hF1
  walk_at "go"
  rw[show(F.map fun x=>jbT x)++(F.map fun x=>jbT ⟨(bJ F.length x).tool,(bJ F.length x).needs,false,(bJ F.length x).b⟩)=(F++F.map (bJ F.length)).map fun x=>jbT x by rw[A',II];rfl]
  refine⟨by omega,eM (by rw[j_,b_];omega) (fun j m x mx=>?_) nrS (fun L2 os2 z h2=>?_)⟩
  ·rcases D_.mp m with m | m
   ·exact fU fj (by omega) j m x mx
   obtain⟨i,mi,rfl⟩:=B_.mp m
   obtain⟨y,my,rfl⟩:=B_.mp mx
   have:=(fj i mi).2.2 y my
   show y + F.length<=1000
   omega
  have e2:=unS L2 os2 h2
  subst e2
  walk_at "go"
  refine eM (by omega) (fU fj (by omega)) fr (fun L3 os3 z h3=>?_)
  obtain⟨rfl,rfl⟩:=dD h3 hF1
  walk_at "go"
  exact .inl ⟨by decide,by decide⟩
 rintro _ rfl
 refine cx (fun env=>env=[z,stT c n,.int (m:Int),.lst false (J.map jbT),.tup [.int L,.lst false (os.map nT)],.lst o5 (F.map jbT),.lst true (F.map fun j=>joT (bJ F.length j)),.any,.any,.any]) ?_ ?_
 ·walk_at "go"
  refine aW (by rw[b_,NI];omega) (fun i acc ie=>∃ z1 z2,acc=((J.take i).map nJ).map (fun x=>jbT x)/\ie=[z1,z2]) ⟨_,_,rfl,rfl⟩ ?_ ?_
  ·rintro i u _ _ ⟨z1,z2,rfl,rfl⟩ ei
   obtain⟨j,ej,rfl⟩:=bO ei
   obtain⟨⟨ja,jb,_⟩,jn,jl⟩:=hj j (t_ ej)
   rw[fN ja]
   walk_at "go"
   exact⟨_,_,by rw[map_take ej,A'];rfl,rfl⟩
  rintro _ _ ⟨z1,z2,rfl,rfl⟩
  rw[b_,IK]
  walk_at "go"
  refine eM (by rw[b_];omega) (fun j m x mx=>?_) (wq nr) (fun L2 os2 z h2=>?_)
  ·obtain⟨i,mi,rfl⟩:=B_.mp m
   exact fU hj (by omega) i mi x mx
  have e2:=tX (by rw[b_];omega) h2 fun j m=>by obtain⟨i,mi,rfl⟩:=B_.mp m;rfl
  subst e2
  walk_at "go"
  refine same_self (n:=0) Dy (by decide) ?_
  walk_at "go"
 rintro _ rfl
 refine cx (fun env=>env=[z,stT c n,.int (m:Int),.lst false (J.map jbT),.tup [.int L,.lst false (os.map nT)],.lst o5 (F.map jbT),.lst true (F.map fun j=>joT (bJ F.length j)),.lst true (J.map hoT),.any,.any]) ?_ ?_
 ·walk_at "go"
  refine aW (by rw[b_,NI];omega) (fun i acc ie=>∃ z1 z2,acc=(J.take i).map hoT/\ie=[z1,z2]) ⟨_,_,rfl,rfl⟩ ?_ ?_
  ·rintro i u _ _ ⟨z1,z2,rfl,rfl⟩ ei
   obtain⟨j,ej,rfl⟩:=bO ei
   obtain⟨⟨ja,jb,_⟩,jn,jl⟩:=hj j (t_ ej)
   rw[fN ja]
   walk_at "go"
   exact⟨_,_,by rw[map_take ej];rfl,rfl⟩
  rintro _ _ ⟨z1,z2,rfl,rfl⟩
  rw[b_,IK]
  walk_at "go"
 rintro _ rfl
 refine cx (fun env=>env=[z,stT c n,.int (m:Int),.lst false (J.map jbT),.tup [.int L,.lst false (os.map nT)],.lst o5 (F.map jbT),.lst true (F.map fun j=>joT (bJ F.length j)),.lst true (J.map hoT),.tup [.int L,.lst true (os.map nT)],.any]) ?_ ?_
 ·walk_at "go"
  rw[show(J.map fun x=>jbT (hdJ x))=(J.map hdJ).map fun x=>jbT x by rw[II];rfl]
  refine eM (by rw[b_];omega) (fun j m x mx=>?_) (by rw[yj];exact nr) (fun L2 os2 z h2=>?_)
  ·obtain⟨i,mi,rfl⟩:=B_.mp m
   exact fU hj (by omega) i mi x mx
  rw[yj]at h2
  obtain⟨rfl,rfl⟩:=dD h2 hf
  walk_at "go"
 rintro _ rfl
 refine cx (fun env=>∃ u z9,env=[z,stT c n,.int (m:Int),.lst false (J.map jbT),.tup [.int L,.lst false (os.map nT)],.lst o5 (F.map jbT),.lst true (F.map fun j=>joT (bJ F.length j)),.lst true u,.tup [.int L,.lst true (os.map nT)],z9]) ?_ ?_
 ·walk_at "go"
  refine BJ (us:=J.map hoT) (fun i env=>∃ z9,env=[z,stT c n,.int (m:Int),.lst false (J.map jbT),.tup [.int L,.lst false (os.map nT)],.lst o5 (F.map jbT),.lst true (F.map fun j=>joT (bJ F.length j)),.any,.tup [.int L,.lst true (os.map nT)],z9]) rfl ⟨_,rfl⟩ ?_ ?_
  ·rintro i u _ ⟨z9,rfl⟩ ei
   obtain⟨j,ej,rfl⟩:=bO ei
   obtain⟨⟨ja,jb,_⟩,jn,jl⟩:=hj j (t_ ej)
   rw[show hoT j=T.lst true [.int j.tool,.lst true (j.needs.map nT)]from rfl]
   walk_at "go"
   refine⟨_,1,_,rfl,rfl,rfl,rfl,?_⟩
   walk_at "go"
   exact⟨by omega,_,rfl⟩
  rintro e hs ⟨z9,rfl⟩ _
  exact⟨hs,z9,rfl⟩
 rintro _ ⟨u,z9,rfl⟩
 have ol:=yM hf.1.1
 rw[aI]at ol
 walk_at "go"
 refine same_self (n:=2) (kX (by omega)) (by decide) ?_
 walk_at "go"
 refine eM (by omega) (fU hj (by omega)) nr (fun L2 os2 z h2=>?_)
 obtain⟨rfl,rfl⟩:=dD h2 hf
 walk_at "go"
 refine pO (n:=2) (kX (o:=false) (by omega)) (by decide) (kX (by omega)).1 ?_ ?_
 ·simp only[dt,dtL]
 walk_at "go"
 exact q _
end
theorem ar0{α:Type}{P:List α->Prop}(h:P []):∀ us:List α,us.length=0->P us:=fun us e=>by
 cases us with
 | nil=>exact h
 | cons a r=>cases e
theorem ar1{α:Type}{P:List α->Prop}(h:∀ a0,P [a0]):∀ us:List α,us.length=1->P us:=fun us e=>by
 cases us with
 | nil=>cases e
 | cons a0 r=>exact ar0 (P:=fun r=>P (a0::r)) (h a0) r (JT e)
theorem ar2{α:Type}{P:List α->Prop}(h:∀ a0 a1,P [a0,a1]):∀ us:List α,us.length=2->P us:=fun us e=>by
 cases us with
 | nil=>cases e
 | cons a0 r=>exact ar1 (P:=fun r=>P (a0::r)) (h a0) r (JT e)
theorem ar3{α:Type}{P:List α->Prop}(h:∀ a0 a1 a2,P [a0,a1,a2]):∀ us:List α,us.length=3->P us:=fun us e=>by
 cases us with
 | nil=>cases e
 | cons a0 r=>exact ar2 (P:=fun r=>P (a0::r)) (h a0) r (JT e)
theorem ar4{α:Type}{P:List α->Prop}(h:∀ a0 a1 a2 a3,P [a0,a1,a2,a3]):∀ us:List α,us.length=4->P us:=fun us e=>by
 cases us with
 | nil=>cases e
 | cons a0 r=>exact ar3 (P:=fun r=>P (a0::r)) (h a0) r (JT e)
theorem ar5{α:Type}{P:List α->Prop}(h:∀ a0 a1 a2 a3 a4,P [a0,a1,a2,a3,a4]):∀ us:List α,us.length=5->P us:=fun us e=>by
 cases us with
 | nil=>cases e
 | cons a0 r=>exact ar4 (P:=fun r=>P (a0::r)) (h a0) r (JT e)
theorem walk{l:Q8}{q:Nl}{loose:List Str}{XP:(Str->Option M7)->Nr->Prop}{YP:Nq->Nr->Prop}{d:DefRec}{K:QT->M8}(hn:l.most=some 63)(hdf:d.params.defaults=[])
  (hY:∀(w:Nq) (h:Nr),YP w h->(K w.params).In h)
  (F:∀(w:Nq) (mg:Str->Option M7) (fa:M9) (h:Nr),(K w.params).In h->h.Ns N9 mg->mg d.name=some (.ref fa)->
   ∃ fd:NB,(∀(s:M_) (u:M7),Rm s fd ⟨[u],[]⟩ [("_law_script",u)])/\∀ base:Nr,(K w.params).In base->base.Ns N9 mg->FnOk l.prog w (K w.params) mg base CX0 6 fa fd ["_law_script"] (tZ (K w.params))) :
  TU q loose XP YP l.row.toRowW d [] (fun f vs=>SU f vs):=
 L2.Bm (n:=63) (k:=6) (x:="_law_script") (CX:=fun _=>CX0) (sp:=fun w=>tZ (K w.params)) hn (by decide) hdf ⟨rfl,by decide,by decide,rfl⟩ hY F (fun _ _ a ns hl _ hS=>⟨a,ns,rfl,hS,hl,fun _=>rfl⟩) fun _ _ _ _ _ z=>z
noncomputable def kd(P:QT) (x:Str) (t:Tok) (v:M7):Tw:=⟨PyData.keyHash P x,.str x t,v⟩
noncomputable def kf(n:Str) (s:NN) (m:M7) (c:M9):Obj:=⟨.type "function",none,.func (OG n n (cM s) (cg s) (ak s) .none .none .none m none (.ref c) .none),#[]⟩
noncomputable def KK(P:QT):M8:=[(3,⟨.type "dict",none,.dict #[kd P "__name__" 165 (.str "law_millpath_k64_jobs_put_otherwise" 302),kd P "__doc__" 166 (.none),kd P "__package__" 167 (.none),kd P "__loader__" 168 (.builtin "__main__.__loader__#opaque"),kd P "__spec__" 169 (.none),kd P "__annotations__" 170 (.ref 6),kd P "__builtins__" 171 (.ref 4),kd P "__file__" 173 (.str "/claim/cut.py" 172),kd P "__cached__" 174 (.none),kd P "MillError" 206 (.ref 24),kd P "Round" 222 (.ref 37),kd P "rows_of" 230 (.ref 44),kd P "set_of" 239 (.ref 51),kd P "whole_of" 246 (.ref 58),kd P "is_part" 254 (.ref 65),kd P "ready" 260 (.ref 70),kd P "tools_in" 266 (.ref 75),kd P "least_takes" 274 (.ref 80),kd P "refuse_rings" 283 (.ref 87),kd P "takes_from_all" 289 (.ref 92),kd P "takes_by" 301 (.ref 99),kd P "_law_begin" 311 (.ref 106),kd P "_law_take" 324 (.ref 113),kd P "_law_same" 330 (.ref 118),kd P "_law_jobs" 336 (.ref 123),kd P "_law_renumbered" 342 (.ref 128),kd P "_law_without" 348 (.ref 133),kd P "_law_order_of" 354 (.ref 138),kd P "_law_alike" 360 (.ref 143),kd P "_law_more_and_less" 366 (.ref 148),kd P "law" 372 (.ref 153)] 31,#[]⟩),(44,kf "rows_of" iQ (.str "millpath.jobsets" 223) 43),(43,⟨.type "code",none,.fields #[.str "rows_of" 225,.str "rows_of" 226,.str "/claim/cut.py" 227,.int (7) 0,.int (1) 0,.int (0) 0,.int (0) 0,.int (3) 0,.ref 40,.bool true,.int (181) 0,.ref 41,.none,.none,.none,.ref 42,.int (228) 0,.int (7) 0,.str "/claim/cut.py" 229],#[]⟩),(51,kf "set_of" lE (.str "millpath.jobsets" 223) 50),(50,⟨.type "code",none,.fields #[.str "set_of" 231,.str "set_of" 232,.str "/claim/cut.py" 233,.int (9) 0,.int (1) 0,.int (0) 0,.int (0) 0,.int (3) 0,.ref 45,.bool true,.int (181) 0,.ref 46,.none,.ref 47,.ref 48,.ref 49,.int (237) 0,.int (9) 0,.str "/claim/cut.py" 238],#[]⟩),(58,kf "whole_of" fS (.str "millpath.jobsets" 223) 57),(57,⟨.type "code",none,.fields #[.str "whole_of" 240,.str "whole_of" 241,.str "/claim/cut.py" 242,.int (14) 0,.int (1) 0,.int (0) 0,.int (0) 0,.int (3) 0,.ref 52,.bool true,.int (181) 0,.ref 53,.none,.ref 54,.ref 55,.ref 56,.int (244) 0,.int (14) 0,.str "/claim/cut.py" 245],#[]⟩),(65,kf "is_part" iM (.str "millpath.jobsets" 223) 64),(64,⟨.type "code",none,.fields #[.str "is_part" 247,.str "is_part" 248,.str "/claim/cut.py" 249,.int (16) 0,.int (2) 0,.int (0) 0,.int (0) 0,.int (3) 0,.ref 59,.bool true,.int (181) 0,.ref 60,.none,.ref 61,.ref 62,.ref 63,.int (252) 0,.int (16) 0,.str "/claim/cut.py" 253],#[]⟩),(70,kf "ready" pC (.str "millpath.jobsets" 223) 69),(69,⟨.type "code",none,.fields #[.str "ready" 255,.str "ready" 256,.str "/claim/cut.py" 257,.int (18) 0,.int (2) 0,.int (0) 0,.int (0) 0,.int (3) 0,.ref 66,.bool true,.int (181) 0,.ref 67,.none,.none,.none,.ref 68,.int (258) 0,.int (18) 0,.str "/claim/cut.py" 259],#[]⟩),(75,kf "tools_in" fR (.str "millpath.jobsets" 223) 74),(74,⟨.type "code",none,.fields #[.str "tools_in" 261,.str "tools_in" 262,.str "/claim/cut.py" 263,.int (20) 0,.int (1) 0,.int (0) 0,.int (0) 0,.int (3) 0,.ref 71,.bool true,.int (181) 0,.ref 72,.none,.none,.none,.ref 73,.int (264) 0,.int (20) 0,.str "/claim/cut.py" 265],#[]⟩),(80,kf "least_takes" cR (.str "millpath.jobs" 267) 79),(79,⟨.type "code",none,.fields #[.str "least_takes" 269,.str "least_takes" 270,.str "/claim/cut.py" 271,.int (23) 0,.int (1) 0,.int (0) 0,.int (0) 0,.int (3) 0,.ref 76,.bool true,.int (181) 0,.ref 77,.none,.none,.none,.ref 78,.int (272) 0,.int (23) 0,.str "/claim/cut.py" 273],#[]⟩),(87,kf "refuse_rings" cJ (.str "millpath.jobs" 267) 86),(86,⟨.type "code",none,.fields #[.str "refuse_rings" 275,.str "refuse_rings" 276,.str "/claim/cut.py" 277,.int (37) 0,.int (1) 0,.int (0) 0,.int (0) 0,.int (3) 0,.ref 81,.bool true,.int (181) 0,.ref 82,.none,.ref 83,.ref 84,.ref 85,.int (281) 0,.int (37) 0,.str "/claim/cut.py" 282],#[]⟩),(92,kf "takes_from_all" cf (.str "millpath.jobs" 267) 91),(91,⟨.type "code",none,.fields #[.str "takes_from_all" 284,.str "takes_from_all" 285,.str "/claim/cut.py" 286,.int (45) 0,.int (1) 0,.int (0) 0,.int (0) 0,.int (3) 0,.ref 88,.bool true,.int (181) 0,.ref 89,.none,.none,.none,.ref 90,.int (287) 0,.int (45) 0,.str "/claim/cut.py" 288],#[]⟩),(99,kf "takes_by" fX (.str "millpath.jobs" 267) 98),(98,⟨.type "code",none,.fields #[.str "takes_by" 290,.str "takes_by" 291,.str "/claim/cut.py" 292,.int (53) 0,.int (5) 0,.int (0) 0,.int (0) 0,.int (3) 0,.ref 93,.bool true,.int (181) 0,.ref 94,.none,.ref 95,.ref 96,.ref 97,.int (299) 0,.int (53) 0,.str "/claim/cut.py" 300],#[]⟩),(106,kf "_law_begin" jS (.str "law_millpath_k64_jobs_put_otherwise" 302) 105),(105,⟨.type "code",none,.fields #[.str "_law_begin" 304,.str "_law_begin" 305,.str "/claim/cut.py" 306,.int (57) 0,.int (1) 0,.int (0) 0,.int (0) 0,.int (3) 0,.ref 100,.bool true,.int (181) 0,.ref 101,.none,.ref 102,.ref 103,.ref 104,.int (309) 0,.int (57) 0,.str "/claim/cut.py" 310],#[]⟩),(113,kf "_law_take" pF (.str "law_millpath_k64_jobs_put_otherwise" 302) 112),(112,⟨.type "code",none,.fields #[.str "_law_take" 312,.str "_law_take" 313,.str "/claim/cut.py" 314,.int (62) 0,.int (2) 0,.int (0) 0,.int (0) 0,.int (3) 0,.ref 107,.bool true,.int (181) 0,.ref 108,.none,.ref 109,.ref 110,.ref 111,.int (322) 0,.int (62) 0,.str "/claim/cut.py" 323],#[]⟩),(118,kf "_law_same" s_same (.str "law_millpath_k64_jobs_put_otherwise" 302) 117),(117,⟨.type "code",none,.fields #[.str "_law_same" 325,.str "_law_same" 326,.str "/claim/cut.py" 327,.int (73) 0,.int (2) 0,.int (0) 0,.int (0) 0,.int (3) 0,.ref 114,.bool true,.int (181) 0,.ref 115,.none,.none,.none,.ref 116,.int (328) 0,.int (73) 0,.str "/claim/cut.py" 329],#[]⟩),(123,kf "_law_jobs" sE (.str "law_millpath_k64_jobs_put_otherwise" 302) 122),(122,⟨.type "code",none,.fields #[.str "_law_jobs" 331,.str "_law_jobs" 332,.str "/claim/cut.py" 333,.int (89) 0,.int (3) 0,.int (0) 0,.int (0) 0,.int (3) 0,.ref 119,.bool true,.int (181) 0,.ref 120,.none,.none,.none,.ref 121,.int (334) 0,.int (89) 0,.str "/claim/cut.py" 335],#[]⟩),(128,kf "_law_renumbered" df (.str "law_millpath_k64_jobs_put_otherwise" 302) 127),(127,⟨.type "code",none,.fields #[.str "_law_renumbered" 337,.str "_law_renumbered" 338,.str "/claim/cut.py" 339,.int (101) 0,.int (2) 0,.int (0) 0,.int (0) 0,.int (3) 0,.ref 124,.bool true,.int (181) 0,.ref 125,.none,.none,.none,.ref 126,.int (340) 0,.int (101) 0,.str "/claim/cut.py" 341],#[]⟩),(133,kf "_law_without" j8 (.str "law_millpath_k64_jobs_put_otherwise" 302) 132),(132,⟨.type "code",none,.fields #[.str "_law_without" 343,.str "_law_without" 344,.str "/claim/cut.py" 345,.int (106) 0,.int (2) 0,.int (0) 0,.int (0) 0,.int (3) 0,.ref 129,.bool true,.int (181) 0,.ref 130,.none,.none,.none,.ref 131,.int (346) 0,.int (106) 0,.str "/claim/cut.py" 347],#[]⟩),(138,kf "_law_order_of" fY (.str "law_millpath_k64_jobs_put_otherwise" 302) 137),(137,⟨.type "code",none,.fields #[.str "_law_order_of" 349,.str "_law_order_of" 350,.str "/claim/cut.py" 351,.int (112) 0,.int (2) 0,.int (0) 0,.int (0) 0,.int (3) 0,.ref 134,.bool true,.int (181) 0,.ref 135,.none,.none,.none,.ref 136,.int (352) 0,.int (112) 0,.str "/claim/cut.py" 353],#[]⟩),(143,kf "_law_alike" pE (.str "law_millpath_k64_jobs_put_otherwise" 302) 142),(142,⟨.type "code",none,.fields #[.str "_law_alike" 355,.str "_law_alike" 356,.str "/claim/cut.py" 357,.int (115) 0,.int (3) 0,.int (0) 0,.int (0) 0,.int (3) 0,.ref 139,.bool true,.int (181) 0,.ref 140,.none,.none,.none,.ref 141,.int (358) 0,.int (115) 0,.str "/claim/cut.py" 359],#[]⟩),(148,kf "_law_more_and_less" cu (.str "law_millpath_k64_jobs_put_otherwise" 302) 147),(147,⟨.type "code",none,.fields #[.str "_law_more_and_less" 361,.str "_law_more_and_less" 362,.str "/claim/cut.py" 363,.int (121) 0,.int (3) 0,.int (0) 0,.int (0) 0,.int (3) 0,.ref 144,.bool true,.int (181) 0,.ref 145,.none,.none,.none,.ref 146,.int (364) 0,.int (121) 0,.str "/claim/cut.py" 365],#[]⟩),(153,kf "law" dY (.str "law_millpath_k64_jobs_put_otherwise" 302) 152),(152,⟨.type "code",none,.fields #[.str "law" 367,.str "law" 368,.str "/claim/cut.py" 369,.int (132) 0,.int (1) 0,.int (0) 0,.int (0) 0,.int (3) 0,.ref 149,.bool true,.int (181) 0,.ref 150,.none,.none,.none,.ref 151,.int (370) 0,.int (132) 0,.str "/claim/cut.py" 371],#[]⟩)]
noncomputable def kas:List M9:=[3,44,43,51,50,58,57,65,64,70,69,75,74,80,79,87,86,92,91,99,98,106,105,113,112,118,117,123,122,128,127,133,132,138,137,143,142,148,147,153,152]
theorem tH(P:QT):kas=(KK P).map (·.1):=by kernel_rfl
noncomputable def VW:Nl:=PySem.W.view PySem.Challenge.pw_millpath_k64_jobs_put_otherwise [1,2,4,5,6,7,8,9,11,12,13,14,16,17,18,19,20,21,22,23,24,25]
def Fe(s:NN):Pos:=match s with
 | .FunctionDef _ _ _ _ _ _ _ _ _ p=>p
 | _=>⟨0,0,0,0⟩
theorem dfn{h:Nr}{mg:Str->Option M7}{P:QT}{x:Str}{st:NN}{ps:List Str}(X:(KK P).In h)(G:h.Ns N9 mg)(f c:M9)(m:M7)(l:(KK P).lookup f=some (kf x st m c):=by kernel_rfl)(a:R4 (KK P) N9 x=some (some (.ref f)):=by kernel_rfl)(cd:Ql (KK P) (.ref c) x=true:=by kernel_rfl)(kp:PR (KK P) (.ref f)=true:=by kernel_rfl)
  (hb:∀(kV doc pm:M7) (an:Option M9) (cdv ct:M7) (us:List M7),us.length=ps.length->UC (OG x x (cM st) (cg st) (ak st) .none kV doc pm an cdv ct) ⟨us,[]⟩=pure (ps.zip us):=by intro _ _ _ _ _ _ us;revert us;first | (apply ar1;intros;rfl) | (apply ar2;intros;rfl) | (apply ar3;intros;rfl) | (apply ar5;intros;rfl)):Dfn (KK P) mg x st ps:=⟨f,_,tJ (st:=st) l cd kp,T5 X G a,(tJ (st:=st) l cd kp).binds hb⟩
def mo0:M7:=.str "millpath.jobsets" 223
def mo1:M7:=.str "millpath.jobs" 267
def mo2:M7:=.str "law_millpath_k64_jobs_put_otherwise" 302
set_option maxHeartbeats 0 in
theorem all_mk{l:Q8}{w:Nq}{h:Nr}{mg:Str->Option M7}{fa:M9}(X:(KK w.params).In h)(G:h.Ns N9 mg)(hfa:mg "law"=some (.ref fa)):∃ fd:NB,(∀(s:M_) (v:M7),Rm s fd ⟨[v],[]⟩ [("_law_script",v)])/\∀ base:Nr,(KK w.params).In base->base.Ns N9 mg->FnOk l.prog w (KK w.params) mg base CX0 6 fa fd ["_law_script"] (tZ (KK w.params)):=by
 have e:=hfa.symm.trans (T5 X G (show R4 (KK w.params) N9 "law"=some (some (.ref 153)) by kernel_rfl))
 cases e
 have z:∀ {x:Str},R4 (KK w.params) N9 x=some none->mg x=none:=fun h=>PySem.W.mg_none_of X G h
 have T:Txt mg:=⟨z (by kernel_rfl),z (by kernel_rfl),z (by kernel_rfl),z (by kernel_rfl),z (by kernel_rfl),z (by kernel_rfl),z (by kernel_rfl),z (by kernel_rfl),z (by kernel_rfl),z (by kernel_rfl),z (by kernel_rfl),z (by kernel_rfl),z (by kernel_rfl),z (by kernel_rfl),z (by kernel_rfl),z (by kernel_rfl),z (by kernel_rfl),z (by kernel_rfl),z (by kernel_rfl),z (by kernel_rfl),z (by kernel_rfl)⟩
 have F:=tJ (st:=dY) (K:=KK w.params) (x:="law") (qual:="law") (f:=153) (oc:=.type "function") (od:=none) (an:=none) (osl:=#[]) (kV:=.none) (doc:=.none) (pm:=mo2) (cdv:=.ref 152) (ct:=.none) (by kernel_rfl) (by kernel_rfl) (by kernel_rfl)
 refine⟨OG "law" "law" (cM dY) (cg dY) (ak dY) .none .none .none mo2 none (.ref 152) .none,fun s v=>.of_eq rfl,fun base _ _=>?_⟩
 have G_take:Cal l.prog w (KK w.params) mg base 1 "_law_take" ["_law_state","_law_many"] (aK (KK w.params) 2 jd):=yT (dfn X G 113 112 mo2) T
 have G_begin:Cal l.prog w (KK w.params) mg base 1 "_law_begin" ["_law_script"] (aK (KK w.params) 1 (ox (KK w.params))):=vR (dfn X G 106 105 mo2) T
 have G_same:Cal l.prog w (KK w.params) mg base 4 "_law_same" ["_law_found","_law_due"] (aK (KK w.params) 2 (ji 4)):=zW (dfn X G 118 117 mo2) 4 (pW (dfn X G 118 117 mo2) T 4)
 have G_set_of:=(dfn X G 51 50 mo0).cal (base:=base) (P:=l.prog) (w:=w) fun _ _ F=>wF F T
 have G_rows_of:=(dfn X G 44 43 mo0).cal (base:=base) (P:=l.prog) (w:=w) fun _ _ F=>sH F T G_set_of
 have G_whole_of:=(dfn X G 58 57 mo0).cal (base:=base) (P:=l.prog) (w:=w) fun _ _ F=>qA F T
 have G_is_part:=(dfn X G 65 64 mo0).cal (base:=base) (P:=l.prog) (w:=w) fun _ _ F=>tj F T
 have G_ready:=(dfn X G 70 69 mo0).cal (base:=base) (P:=l.prog) (w:=w) fun _ _ F=>yc F T G_is_part
 have G_tools_in:=(dfn X G 75 74 mo0).cal (base:=base) (P:=l.prog) (w:=w) fun _ _ F=>ra F T
 have G_refuse_rings:=(dfn X G 87 86 mo1).cal (base:=base) (P:=l.prog) (w:=w) fun _ _ F=>jF F T G_set_of G_whole_of G_ready
 have G_takes_by:=(dfn X G 99 98 mo1).cal (base:=base) (P:=l.prog) (w:=w) fun _ _ F=>qG F T
 have G_takes_from_all:=(dfn X G 92 91 mo1).cal (base:=base) (P:=l.prog) (w:=w) fun _ _ F=>gC F T G_whole_of G_ready G_tools_in G_takes_by
 have G_least_takes:=(dfn X G 80 79 mo1).cal (base:=base) (P:=l.prog) (w:=w) fun _ _ F=>ma F T G_rows_of G_whole_of G_ready G_refuse_rings G_takes_from_all G_takes_by
 have G_jobs:=(dfn X G 123 122 mo2).cal (base:=base) (P:=l.prog) (w:=w) fun _ _ F=>BD F T G_take
 have G_order_of:=(dfn X G 138 137 mo2).cal (base:=base) (P:=l.prog) (w:=w) fun _ _ F=>qD F T G_take
 have G_renumbered:=(dfn X G 128 127 mo2).cal (base:=base) (P:=l.prog) (w:=w) fun _ _ F=>ml F T
 have G_without:=(dfn X G 133 132 mo2).cal (base:=base) (P:=l.prog) (w:=w) fun _ _ F=>rY F T
 have G_alike:=(dfn X G 143 142 mo2).cal (base:=base) (P:=l.prog) (w:=w) fun _ _ F=>xu F T G_least_takes G_same G_renumbered G_order_of
 have G_more_and_less:=(dfn X G 148 147 mo2).cal (base:=base) (P:=l.prog) (w:=w) fun _ _ F=>j6 F T G_least_takes G_take G_without
 exact Dj (D5 F T G_least_takes G_begin G_take G_same G_jobs G_alike G_more_and_less)
end Mp
open PySem PySem.W PyProof.Rows
set_option maxRecDepth 100000 in
set_option maxHeartbeats 0 in
theorem Mp.FA:PySem.Challenge.rw_millpath_k64_jobs_put_otherwise.wellSaid=true:=by kernel_rfl
set_option maxRecDepth 100000 in
theorem Mp.left:PySem.W.LeftO PySem.Challenge.rw_millpath_k64_jobs_put_otherwise.row.prog Mp.VW [] (fun s=>PySem.W.xlAt Mp.VW [] s && PySem.W.recOk (PySem.Challenge.rw_millpath_k64_jobs_put_otherwise.row.toRowW.records) s) (VG (RO Mp.KK Mp.kas Mp.tH)) (VH (RO Mp.KK Mp.kas Mp.tH)) 6000:=fun w=>by kernel_rfl
set_option maxRecDepth 100000 in
set_option maxHeartbeats 0 in
theorem PySem.Challenge.cw_millpath_k64_jobs_put_otherwise_holds : PySem.Challenge.rw_millpath_k64_jobs_put_otherwise.Holds := by
 refine PySem.W.holds_law Mp.FA fun FA=>?_
 refine PySem.W.holds_open (r:=PySem.Challenge.rw_millpath_k64_jobs_put_otherwise.row) (XP:=PySem.W.XL Mp.VW []) (YP:=VB (RO Mp.KK Mp.kas Mp.tH)) (d:=⟨"law",L2.cM Mp.dY,L2.cg Mp.dY,L2.ak Mp.dY,Mp.Fe Mp.dY⟩) (kwd:=[]) Mp.left (VN _) (Vv _) (fun s e=>PySem.W.xl_of s (Me.mp e).1) VI (by kernel_rfl) (by kernel_rfl) (by kernel_rfl) (fun s e=>PySem.W.recFacts_of (Me.mp e).2) (by kernel_rfl) FA (by kernel_rfl) ⟨rfl,rfl,rfl,rfl,rfl,by decide +kernel⟩ ?hw ?hc
 case hw=>w_witness2
 case hc=>
  refine Mp.walk (l:=PySem.Challenge.rw_millpath_k64_jobs_put_otherwise) rfl (by kernel_rfl) (fun w h Y=>PySem.W.kIn_of Y) ?F
  case F=>
  intro w mg fa h KX G hmg
  exact Mp.all_mk KX G hmg
