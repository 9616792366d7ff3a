import PyProof.Rows.All
import Wide.All
import OpenK.AllK
import Wide.FinOn
import Lean
import PyProof.EqAt
import PyProof.EqKinds
import PyProof.TupleCall
import PyProof.ZipIter
import PyProof.NeKinds
import PyProof.SeqI3
import PyProof.MaxThree
import PyProof.CompUse
import PyProof.DictFindH
import PyProof.DictRoadsH
import PyProof.TupleKey
import PyProof.DictWalks
import PyProof.AttrMissHeap
import KE.KDictOf
import KE.KDictList
import PyProof.Rows.SortRuns
import KE.KSortTup
import PyProof.ListRange
import PyProof.Rows.SetFrom
import PyProof.Rows.SortRev
import PySem.Challenge.RW_millpath_k09_areas_whatever_the_size
set_option Elab.async false
set_option linter.all false
set_option maxRecDepth 100000
set_option genSizeOf false
noncomputable section
open List renaming length_map->a_,getElem?_eq_getElem->d_,length_append->f',getElem?_eq_some_iff->gV,perm_middle->j_,map_cons->j',length_cons->k_,append_assoc->l_,mem_map->m_,mem_append_right->n_,mem_cons->o_,mem_singleton->p_,size_toArray->q_,mem_cons_of_mem->r_,mem_cons_self->s_,map_append->t_,mem_append_left->w_,range->y_,mem_append->z_,perm_append_comm_assoc->A_,take_length->A',pairwise_append->C_,Perm.trans->C',length_take->D_,map_map->D',pairwise_map->E_,mem_map_of_mem->F_,nodup_cons->G_,take_append_drop->G',length_drop->HL,getElem?_map->HM,eq_nil_of_length_eq_zero->HQ,length_set->HV,mem_of_getElem?->HW,mem_iff_getElem->HX,Pairwise.imp_of_mem->HZ,getElem?_append_right->H_,map->Ib,not_mem_nil->Ic,take_of_length_le->Ie,Pairwise.sublist->Ig,Perm.append_left->Ih,cons_append->Il,take_add_one->Im,mem_filter->Io,pairwise_cons->Ip,mem_of_mem_take->Iq,replicate->Iw,length_range->Iy,append_nil->Iz,find?_cons->IA,perm_append_comm->IB,getElem_mem->IC,mem_range->IE,map_congr_left->IG,map_eq_nil_iff->IH,drop_of_length_le->II,getD_eq_getElem?_getD->IK,length_filter_le->IL,getElem?_append_left->IQ,range_succ->IS,nodup_append->IW,nodup_nil->IZ,Perm.swap->I_,map_nil->Ja,getElem?_drop->Jb,cons.injEq->Jd,concat_eq_append->Je,cons.inj->Jf,length_dropLast->Jg,extract_eq_drop_take->Jh,pairwise_iff_getElem->Ji,drop_zero->Jj,any_eq_true->Jl,getElem?_cons_succ->Jo,length_nil->Jp,getElem?_take->Jq,take_sublist->Jx,drop_sublist->Jz,mem_iff_getElem?->JB,getElem?_eq_none->JD,lookup_cons->JF,all_eq_true->JG,mem_of_mem_drop->JH,reverse_append->JO,drop_eq_getElem_cons->JQ,set_eq_of_length_le->JU,drop_drop->JY,pairwise_singleton->J1,getElem?_cons_zero->J2,Pairwise.nil->J3,getElem?_set_self->J5,length->J6,pairwise_lt_range->J8,countP_cons->Ka,getElem?_set_ne->Kc,all_map->Kf,nil_append->Kk,dropLast_concat->Kl,drop_append_of_le_length->Ko,filterMap_cons->Kq,length_pos_iff->Ks,flatMap_append->Kt,Perm.cons->Kv,map_id->Kw,filter_append->Kz,set_cons_succ->KA,any_cons->KG,all_cons->KH,take_add->KI,exists_cons_of_ne_nil->KL,length_eraseIdx_of_lt->KN,getElem?_zip_eq_some->KP,getLast?_eq_getElem?->KQ,getLast?_eq_some_iff->KR,zipIdx_cons->KS,mem_reverse->KU,set_set->K4,filter_cons->K6,of_mem_zip->K8,forIn_cons->K9,Perm.append_right->Lb,drop_eq_nil_of_le->Lc,length_singleton->Ld,forIn_nil->Le,singleton_append->Lg,reverse_reverse->Li,map_drop->Lo,getElem?_range->Lp,replicate_succ->Lq,mem_filterMap->Ls,set_cons_zero->Lv,zip_cons_cons->Lx,map_id'->Ly,map_replicate->Lz,length_concat->LA,ext_getElem?->LD,mapM_toArray->LF,Pairwise.imp->LG,reverse_perm->LH,cons_ne_nil->LN,flatMap_def->LP,isEmpty_iff->LQ,zipIdx_nil->LR,zip_append->LW,length_zip->LX,all_append->LY,Perm->L3,map_take->L5,any_map->L9
open Nat renaming le_refl->f_,ne_of_lt->u_,le_trans->v_,lt_of_lt_of_le->x_,zero_le->F',le_of_lt->HN,le_of_not_lt->Ia,lt_of_le_of_lt->Ij,pos_of_ne_zero->ID,mul_le_mul->IP,sub_le->IT,lt_succ_of_lt->IV,lt_irrefl->IX,ne_of_gt->Jk,lt_succ_self->Jm,lt_of_le_of_ne->Jr,one_pos->Jt,le_succ->Jv,sub_self->JA,succ.inj->JC,le_of_ble_eq_true->JE,add_assoc->JL,add_le_add_left->JN,add_sub_cancel'->JP,sub_lt_left_of_lt_add->JR,le_of_eq->JS,zero_add->JT,add_sub_cancel_left->JZ,le_of_lt_succ->J4,min_eq_right->J_,lt_trans->Ke,min_eq_left->Kg,le_sub_one_of_lt->Kh,add_zero->Ki,not_lt->Kj,add_lt_add_left->Kr,sub_lt->KO,le_add_right->KW,lt_of_not_le->KY,max_eq_right->KZ,not_lt_of_le->K5,sub_le_sub_right->Lj,add_sub_assoc->LB,succ_le_succ->LL,le_add_left->LU,le_antisymm->LV,sub_zero->L8,mul_succ->L',succ_mul->Mb,mul_comm->Mc,mul_add->Mf,mod_lt->Mh
open Int renaming mul_left_comm->HK,mul_le_mul_of_nonneg_left->HR,toNat_natCast->Ii,mul_comm->Ik,mul_one->Iu,toNat->IM,mul_assoc->IY,max_eq_right->Jn,max_eq_left->Js,mul_add->Jw,emod_lt_of_pos->JV,add_zero->JW,zero_add->JX,le_refl->J9,emod_nonneg->Km,mul_le_mul_of_nonneg_right->Kn,add_mul->Kx,mul_sub->Ky,fdiv_eq_ediv_of_nonneg->KC,fmod_eq_emod_of_nonneg->KD,mul_ediv_cancel_left->K7,toNat_of_nonneg->Lr,mul_neg->LJ,min_eq_right->LM,le_of_not_gt->LO,min_eq_left->LZ,mul_zero->L_,le_of_lt->Ma,sub_mul->Me
open Option renaming some.inj->HU,map->JJ,map_eq_some_iff->J7,isSome_some->Lu,some.injEq->LC,getD_none->LK,some->Md,any->Mg
open Bool renaming false_ne_true->B_,and_eq_true->HP,false_eq_true->HY,eq_false_iff->Jy,true_and->JM,eq_iff_iff->Kd,decide_and->La,not_false->Lf,beq_eq_decide_eq->Lh,and_eq_true_iff->Lk,not_true->Ll,and_false->L0,or_false->L4,and_true->L6
open Array renaming getElem?_toList->e_,length_toList->g_,getElem?_eq_getElem->i_,toList_append->HS,perm_iff_toList_perm->Ir,toList_reverse->IF,getElem?_eq_none->IJ,toList_push->IU,getD_eq_getD_getElem?->Jc,getElem?_extract->Ju,toList_extract->JI,getElem?_eq_some_iff->JK,toList_map->Kb,toList_setIfInBounds->KJ,size_setIfInBounds->K0,Perm.refl->K_,size_extract->Lw,toList->L7
open And renaming intro->h_
open Or renaming inr->b_,inl->c_
open Prod renaming ext->Ku
open False renaming elim->MI
open ForInStep renaming done->My,yield->MG
open Ne renaming symm->N4
open PyProof renaming noPylong_small->Qs
open PyProof.Rows renaming Keyed->Mq,arrOf->Ms,wpS_bind->Mv,SortSt->Mx,wpS_pure->Mz,pendingOf->MF,seqObj->MK,failedOf->M1,wpS_forRange->M7,elem'->M8,SortKind->Ng,wpS_mono->Nq,IntsAre->Nr,callWith_type1->NS,slot_tuple_getitem->Of,reverseSlice'->Oz,wpS_get->OE,subscriptTail->OZ,keyKind'->O1,AllBare->O3,envOfC->O8,wpS_modify->Pa,get?_update_seq->Pb,entry_list_sort->Pc,slot_list_sort->Po,assignInOrder_cons->Pq,listUpdate_at->PV,gallopOf->Qc,wpS_lift->Qd,plain_sorted->Qe,entry_sorted->Qf,subscriptTail_builtinR->Qv,seqEpoch_at->QA,kind_sorted->QB,args_list_sort->QJ,mergeAt'->QY,oneType'->Q0,getElem?_mirror_all->Q7,args_sorted1->Rm,minRun'->Rr,tuples'->Rt,assignInOrder_nil->Rw,boot_range->RW,callWith_builtin1->RX,Subscript_->RY,bubble->R6,getElem?_bubble->R7,ltAt'->R8,slicePart_none->So,countRun'->SE,Constant_bool->SH,IsTup->SX,isTrue_plain->Tg,listItems_at->TM,collect_list->TN,binarySort'->Uh,boot_sorted->Uj
open PyProof.Rows.F renaming plain_set_update_loop->ON,entry_set_update_loop->Ql
open PyProof.Rows.IsTup renaming new->Q9
open PyProof.Rows.SortSt renaming mk'->NF
open PySem renaming wpAny_bind->Mi,Value->Mj,Addr->Ml,Shared->Mm,wpAny_pure->Mn,wpAny->Mr,model->Mw,Program->MA,Expr->MB,World->MC,Heap->MD,starEach->ME,Around->MJ,wpAny_newObj_type->ML,wpAny_holding->MM,wpAny_mono->MP,eval->MQ,FuncData->MR,wpAny_call_entry->MX,wpAny_callSpecial?_slot->MZ,Stmt->M3,compareOp->M4,intItems->M5,SetTable->M_,wpAny_truthy_bool->Nb,foldedSetIterable->Nd,mainGlobals->Nh,wpAny_field->Ni,sysModules->Nj,Scope->Nk,rawInt->Nm,binaryOp->Nn,wpAny_Call_Name_kw->Np,wpAny_setField->Nt,Builtin->Nu,mem_of_lookup->Nz,IsPair->NB,wpAny_attempt->NC,wpAny_pyIter_tuple->NH,codeAny_builtin->NI,wpAny_pyIter_list->NJ,behindInMarks->NK,wpAny_typeNameOfWhole_keyiter->NL,wpAny_seqItems->NN,firstArgMember->NO,assignEach->NP,wpAny_rule->NQ,codeAny_mono->NT,wpAny_setField_rec->NV,wpAny_passesOwn->NW,wpAny_newList->NY,pyNext->NZ,wpAny_setState_of->N0,bootBuiltins->N6,NameKind->N7,numAt->Oe,intKind->Og,codeAny->Oh,DictEntry->Oj,wpAny_ite_split->Ol,Model->Om,fits_of_scanBound->Oq,backTo->Ot,IsZip->Ou,wpAny_isInstance->Ov,wpAny_standAt->Ox,plainId_quiet->OA,sliceBounds->OB,wpAny_of_eq->OD,swapsWith->OG,holding->OK,wpAny_dictEntries->OO,Paired->OU,assign->OV,intItems_at->OY,comprehension->O0,CmpOp->O5,wpAny_execs_nil->O6,letOwnedTupleGo->O7,wpAny_updateSeq_pair->O9,wpAny_setEntries_of->Pf,getItem->Ph,isSubtype_stop->Pl,wpAny_fieldsOf->Pm,subscripted->Pp,pyIter->Pu,swapsWithSole->PH,swappedStores->PJ,attributeBase->PN,wpAny_handled->PQ,wpAny_onRaise->PR,Comprehension->PU,wpAny_pyIter_slot->PY,wpAny_setEpoch_of->PZ,valueAt->P6,callerA->P7,ItemsOf->P8,Operator->P9,noFill_tuple_add->P_,IsPart->P',Params->Qa,newExc->Qb,relayAll->Qg,wpAny_askSetting->Qh,tupleKind->Qm,atKey->Qn,wpAny_specialOf->Qo,wpAny_dictEpoch->Qq,wpAny_throw->Qx,wpAny_letGo->Qy,codeAny_compStart_list->Qz,isTrue->QC,wpAny_isTrue_Compare1->QD,BindsTo->QE,getitemInPython_of_ne->QF,wpAny_newTuple->QG,wpAny_isOneOf_keyiter->QI,wpAny_runValue->QL,builtinLookup_eq_fast->QO,isSubtype_type->QP,builtinsNs->QQ,wpAny_loadName_local->QR,wpAny_load->QS,bindL->QT,bindC->QU,wpAny_letTemporaryGo->QV,field->QW,wpAny_newFunctionEnv->QX,checkCount->QZ,intKind_is->Q1,assignInOrder->Q2,seq_tuple_add->Q3,Builtin->Q4,wpAny_loadName_cell->Q6,PassesOwn->Q_,lastMarks->Rb,wpAny_List_spliced->Rc,concat_meets->Rf,wpAny_typeOf->Rg,seqIndex_neg->Rh,tupleKind_room_in1->Ri,seqItems?->Rj,standAt->Rq,collect->Ru,wpAny_assign_Name->Rv,wpAny_storeSet_of->RD,seqIndex_of->RE,wpAny_eqBool_int->RG,GenState->RH,wpAny_execs_cons->RI,bindName->RJ,newTuple->RL,raiseNew->RM,wpAny_comp_letGo->RP,wpAny_pyIter_zip->RQ,wpAny_Name->RV,call_tuple_same->RZ,call_meets->R0,wpAny_operating->R1,call->R3,typeLookup_type->R',wpAny_updateSeq->Se,codeAny_of_tree->Sf,wpAny_Compare1->Si,setItem->Sj,wpAny_bindName->Sl,Keyword->Sr,letTemporaryGo->Ss,argBest->Sv,entryFor_alias->Sw,setNext->Sx,storeName->Sz,cellsFrom->SD,intBits_le_64->SJ,evalPart_none->SM,call_list_seq->SN,wpAny_standIf->SQ,signature?_of->SU,Drawn->SY,truthy->Tf,call_range_2->Ti,Result->Tz,bindArgs->TB,Slot->TC,typeOf->TF,setAddHashed->TU,entryFor->TV,argsOk->TY,interactive->T9,IsRangeIter->T_,keywordEach->Ub,operate->Uk,newList->Ul,Walks->Uq,Fin->UB
open PySem.Around renaming under_plainId->Ny
open PySem.AutoSeq1 renaming list_extend_list_list_0->RK
open PySem.Builtin.Dict renaming showsAll->QH,dictSlotNone->Tc,pendingCount->Td
open PySem.Builtin.Dict_items renaming ownsTuple->Pn
open PySem.Builtin.Frozenset renaming updateFrom->Sy,newClass->SV,sizeOf->T1,slot0->T5
open PySem.Builtin.List renaming listTooLong->OI,listLengthHint->Py,listExtendWith->Pz,listSameRef->Qi,listUpdate->Qj
open PySem.Builtin.Range renaming rangeSize->T3
open PySem.Builtin.Slice renaming slicePlaces->N1,sliceAdjust->OF,sliceApplied->PK,slicePartIndex->Sn,sliceFields->Tb
open PySem.Builtin.SmallTypes renaming nextOf->MW,ownedTupleIsFree->Nv,ownedTupleHandOut->OJ
open PySem.Builtin.Tuple renaming tupleExact->N8,tupleItemsOf->SK
open PySem.Calls renaming call_function_entry->N3,spliced_cons->Oi,Name_function_global->PD,callWith_builtin->Qw,spliced_nil->Rx
open PySem.CmpOp renaming NotIn->T8,In->UL
open PySem.Data renaming cell->Ra,seq->TH,fields->T'
open PySem.Env renaming kindOf->R4
open PySem.EqMixed renaming eq_bool_str->S5,eq_str_bool->S6,ne_bool_str->S_,ne_str_bool->Ta,eq_int_str->Tp,eq_str_int->Tr,ne_int_str->Tv,ne_str_int->Tx
open PySem.EqNone renaming eq_none_none->S0,eq_none_bool->S3,eq_bool_none->S4,ne_none_none->S7,ne_none_bool->S8,ne_bool_none->S9,eq_none_int->Tj,eq_none_str->Tn,eq_int_none->To,eq_str_none->Tq,ne_none_int->Ts,ne_none_str->Tt,ne_int_none->Tu,ne_str_none->Tw
open PySem.F renaming slot_dict_keyiterator_next->Nw,slot_tuple_iterator_next->NX,called_set->N9,slot_list_extend->N_,type_list_extend->Oa,slot_list_append->Ob,type_list_append->Od,args_tuple_add_2->OH,entry_tuple_add->OM,plain_list_iadd->OQ,slot_tuple_add->OW,slot_zip_next->O_,args_dict_keyiterator_next_1->O',entry_dict_keyiterator_next->Pe,args_tuple_iterator_next_1->Pj,entry_tuple_iterator_next->Pw,slot_dict_getitem->P0,plain_extend_loop->P5,plainAttrs_list->Qk,slot_dict_len->QK,entry_proto_collect->QM,plain_proto_collect->QN,args_zip_next_1->Ry,entry_list_iadd->RB,entry_zip_next->RN,slot_dict_iter->RS,slot_set_iter->Sd,plain_set_new->Sh
open PySem.Flow renaming next->Uw
open PySem.Heap renaming get?_push_of_some->Mo,get?_push_size->Mt,lt_size->Mu,get?_update_self->M6,size_push->M',SameBut->Na,get?_update_other->NA,get?_update_ne->NM,ExtBut->OC,get?_push_ne->OP,push->O4,IsTuple->Rk,IsList->RF,size_update->RT
open PySem.Heap.DictOf renaming new->US
open PySem.Heap.IsList renaming push->RO,extBut->Uy
open PySem.Heap.IsListIter renaming extBut->Ue
open PySem.Heap.IsSliceOf renaming new->Ux
open PySem.Heap.IsTuple renaming push->RA,extBut->Ur
open PySem.Heap.IsTupleIter renaming extBut->T4
open PySem.Heap.SameBut renaming update->M0,refl->UJ
open PySem.IsL renaming update->UM
open PySem.IsRange renaming new->Ua
open PySem.Manifest renaming sig_set_iterator->Te,owners->UW
open PySem.MeetsSeq renaming list_pop_last->Uc
open PySem.NameKind renaming free->ND,cell->UZ
open PySem.Obj renaming mapSeq->MN,data_mapFields->MU,isFreed_of_fields->NG,cls_mapFields->Oo,mapFields->Oy,putSet->R_
open PySem.Paired renaming length->Ow,snoc->Ud,cons->Ui
open PySem.PassesOwn renaming never->M9
open PySem.SeqAt renaming EqAt->P4,RcAt->R5,RcNeAt->TJ
open PySem.SeqAt.EqAt renaming int_str->Uu,str_int->Uv,of_refs->Uz,same->UT
open PySem.SeqAt.RcAt renaming lists_lengths->TL,tuples->UE,lists->UN
open PySem.SeqAt.RcNeAt renaming lists_lengths->SR,tuples->Us,lists->UA
open PySem.SetTable renaming below->MT,grown->N5,sizeAbove->Rn,slot->SS,toList_insertAt->TQ,has->TR,orStandIn->UC,insertAt->UG,freeSlot->UH,layClean->UI,advance->UO,relaid->UU,Probe->UY,laid->U0,fits->U1
open PySem.SetTable.below renaming go->OR
open PySem.SetTable.probe renaming go->RC
open PySem.Shared renaming heap->OX
open PySem.Str renaming ofString->Nf
open PySem.Value renaming none->MV,ref->MY,type->Nl,int->NR,str->Q8,bool->RU,isStrOf->SF,isInt->T6
open PySem.W renaming Frag->Mk,fnOf->NU,keepIn->OL,codeIn->Pg,methodObj->PX,OpenLaw->Qp,kat_nil->Qr,cellsFrom_some->Qu,kHook->Q5,nsIn->Ro,kitAny->Su,WalkO->SO,mg_of->SW
open PySem.W.Hook renaming keeps->UD,says->UK,obs->UP,val->UQ,of->UX
open PySem.W.KatTups renaming cons->Uo,nil->Ut
open PySem.W.XL renaming keeps->UR
open PySem.Walks renaming tuple->Ug,list->Um
open PySem.pickOrder renaming go->TZ
open StateT renaming run_pure->R9
open Sum renaming inr->MO,inl->O2
open Sum.inl renaming inj->T7
open True renaming intro->N2
namespace L2
open PySem PySem.Spec PyProof.Rows
abbrev Key:=Sum Int Str
def lM:Key->Mj->Bool
 | .inl k,v=>T6 k v
 | .inr x,v=>SF x v
def Hx(w:MC):Key->Int
 | .inl k=>hashInt k
 | .inr x=>hashStr w x
theorem bp:∀ {k:Key} {v:Mj},lM k v=true->(∃ i t,k=O2 i/\v=NR i t)\/(∃ x t,k=MO x/\v=Q8 x t)
 | .inl i,v,h=>by
  obtain⟨t,e⟩:=Value.isInt_shape (k:=i) (v:=v) h
  exact .inl ⟨i,t,rfl,e⟩
 | .inr x,v,h=>by
  obtain⟨t,e⟩:=Value.isStrOf_shape (x:=x) (v:=v) h
  exact .inr ⟨x,t,rfl,e⟩
theorem uU(i:Int)(t:Tok):lM (.inl i) (.int i t)=true:=by simp[lM,T6]
theorem uQ(x:Str)(t:Tok):lM (.inr x) (.str x t)=true:=by simp[lM,SF]
theorem CU(a b:Int):decide ((O2 a:Key)=O2 b)=(a == b):=by
 by_cases e:a=b
 ·subst e;simp
 have h:¬(O2 a:Key)=O2 b:=fun q=>e (T7 q)
 rw[decide_eq_false h]
 exact(beq_eq_false_iff_ne.mpr e).symm
theorem E5(a b:Str):decide ((MO a:Key)=MO b)=decide (a=b):=by
 by_cases e:a=b
 ·subst e;simp
 have h:¬(MO a:Key)=MO b:=fun q=>e (Sum.inr.inj q)
 rw[decide_eq_false h,decide_eq_false e]
theorem EE(a:Int)(b:Str):decide ((O2 a:Key)=MO b)=false:=decide_eq_false (fun q=>nomatch q)
theorem E2(a:Str)(b:Int):decide ((MO a:Key)=O2 b)=false:=decide_eq_false (fun q=>nomatch q)
noncomputable def bB(prog:MA)(w:MC):PySem.KeyKind prog w Key where
 is:=lM
 hash:=Hx w
 inj:=fun v a b ha hb=>by
  rcases bp ha with⟨i,t,rfl,rfl⟩ | ⟨x,t,rfl,rfl⟩
  ·rcases bp hb with⟨j,u,rfl,e⟩ | ⟨y,u,rfl,e⟩
   ·injection e with e1 _;rw[e1]
   exact nomatch e
  rcases bp hb with⟨j,u,rfl,e⟩ | ⟨y,u,rfl,e⟩
  ·exact nomatch e
  injection e with e1 _;rw[e1]
 byValue:=fun k v h=>by
  rcases bp h with⟨i,t,rfl,rfl⟩ | ⟨x,t,rfl,rfl⟩ <;> rfl
 pyHash:=fun hv h=>by
  rcases bp hv with⟨i,t,rfl,rfl⟩ | ⟨x,t,rfl,rfl⟩
  ·exact wpAny_pyHash_int h
  exact wpAny_pyHash_str h
 eqBool:=fun hu hv h=>by
  rcases bp hu with⟨i,t,rfl,rfl⟩ | ⟨x,t,rfl,rfl⟩
  ·rcases bp hv with⟨j,u,rfl,rfl⟩ | ⟨y,u,rfl,rfl⟩
   ·rw[CU]at h;exact RG h
   rw[EE]at h;exact Uu i t y u _ _ _ _ h
  rcases bp hv with⟨j,u,rfl,rfl⟩ | ⟨y,u,rfl,rfl⟩
  ·rw[E2]at h;exact Uv x t j u _ _ _ _ h
  rw[E5]at h;exact wpAny_eqBool_str h
 «strs»:=fun k x t v h=>by
  rcases bp h with⟨i,u,rfl,e⟩ | ⟨y,u,rfl,e⟩
  ·exact nomatch e
  injection e with e1 _
  subst e1
  cases v <;> rfl
theorem oz(prog:MA)(w:MC)(i:Int)(t:Tok):(bB prog w).is (.inl i) (.int i t)=true:=uU i t
theorem pF(prog:MA)(w:MC)(x:Str)(t:Tok):(bB prog w).is (.inr x) (.str x t)=true:=uQ x t
inductive V where
 | non | bl (b:Bool) | int (i:Int) | str (x:Str) | byt (b:Array UInt8) | flt (b:UInt64) | ref (a:Ml) | ty (n:String)
 deriving DecidableEq
set_option genInjectivity false
noncomputable def RelV:V->Mj->Prop
 | .non,u=>u=MV
 | .bl b,u=>u=RU b
 | .int i,u=>∃ t,u=NR i t
 | .str x,u=>∃ t,u=Q8 x t
 | .byt b,u=>∃ t,u=Value.bytes b t
 | .flt b,u=>∃ t,u=Value.float b t
 | .ref a,u=>u=MY a
 | .ty n,u=>u=Nl n
abbrev Vals:List V->List Mj->Prop:=OU RelV
theorem Vals.length {xs:List V}{us:List Mj}(r:Vals xs us):xs.length=us.length:=Ow r
theorem Vals.get:∀ {xs:List V} {us:List Mj} {i:Nat} {x:V},Vals xs us->xs[i]?=some x->∃ u,us[i]?=some u/\RelV x u
 | _,_,_,_,.nil,e=>by simp at e
 | _,_,0,_,.cons r _,e=>by simp at e;subst e;exact⟨_,rfl,r⟩
 | _,_,i + 1,x,.cons _ t,e=>by
  obtain⟨u,h1,h2⟩:=Vals.get (i:=i) (x:=x) t (by simpa using e)
  exact⟨u,by simpa using h1,h2⟩
theorem Vals.set {x:V}{u:Mj}(r:RelV x u):∀ {xs:List V} {us:List Mj} (i:Nat),Vals xs us->Vals (xs.set i x) (us.set i u)
 | _,_,_,.nil=>.nil
 | _,_,0,.cons _ t=>.cons r t
 | _,_,i + 1,.cons q t=>.cons q (Vals.set r i t)
theorem Vals.append:∀ {xs ys:List V} {us ws:List Mj},Vals xs us->Vals ys ws->Vals (xs++ys) (us++ws)
 | _,_,_,_,.nil,s=>s
 | _,_,_,_,.cons r t,s=>.cons r (Vals.append t s)
theorem Vals.take:∀ {xs:List V} {us:List Mj} (n:Nat),Vals xs us->Vals (xs.take n) (us.take n)
 | _,_,0,_=>.nil
 | _,_,_ + 1,.nil=>.nil
 | _,_,n + 1,.cons r t=>.cons r (Vals.take n t)
theorem Vals.drop:∀ {xs:List V} {us:List Mj} (n:Nat),Vals xs us->Vals (xs.drop n) (us.drop n)
 | _,_,0,r=>r
 | _,_,_ + 1,.nil=>.nil
 | _,_,n + 1,.cons _ t=>Vals.drop n t
def kE:Option V->Option Mj->Prop
 | some v,some u=>RelV v u
 | none,none=>True
 | _,_=>False
noncomputable def KV{κ:Type}:List (κ × V)->List (κ × Mj)->Prop:=OU fun(p:κ × V) (q:κ × Mj)=>p.1=q.1/\RelV p.2 q.2
def kV:Key->V
 | .inl i=>.int i
 | .inr x=>.str x
inductive HO where
 | lst (xs:List V)
 | tup (xs:List V)
 | dK (kvs:List (Key × V)) | dT (kvs:List (List Key × V))
 | set (S:Int->Bool) (n:Nat)
 | ins (C dx:Ml) (fs:List (Str × V))
 | own (x:Ml)
 | xd (fs:List (Str × V))
 | met (f x:Ml)
 | rng (lo hi:Int)
 | frz (o:Obj) (u:HO)
 | tbl (ps:Array Mj)
 | ext (φ:MD->Prop)
abbrev Hp:=Ml->Option HO
def upd(H:Hp)(a:Ml)(o:HO):Hp:=fun b=>if b=a then some o else H b
theorem aE{H:Hp}{a:Ml}{o:HO}:upd H a o a=some o:=by unfold upd;rw[if_pos rfl]
theorem aG{H:Hp}{a b:Ml}{o:HO}(h:b≠a):upd H a o b=H b:=by unfold upd;rw[if_neg h]
theorem As{H:Hp}{a:Ml}{o u:HO}:upd (upd H a o) a u=upd H a u:=by
 funext b;unfold upd;split <;> rfl
theorem BF{H:Hp}{a b:Ml}{o u:HO}(h:H a=some o)(h':H b=some u)(d:o≠u):a≠b:=by
 intro e;subst e;rw[h]at h';exact d (HU h')
theorem bz{H:Hp}{a b:Ml}{o:HO}(h:H a=some o)(h':H b=none):a≠b:=by
 intro e;subst e;rw[h]at h';cases h'
section
variable(P:MA)(w:MC)
noncomputable def b9(H:Hp)(h:MD)(a:Ml):HO->Prop
 | .lst xs=>xs.length<=sizeLine/\∃(its:List Mj) (n:Nat),Vals xs its/\h.get? a=some { cls:=.type "list",data:=.seq its.toArray n }
 | .tup xs=>xs.length<=sizeLine/\∃ its:List Mj,Vals xs its/\SX h a its.toArray
 | .dK kvs=>kvs.length<=sizeLine/\(a == Nj)=false/\∃ vs,KV kvs vs/\h.DictOf (bB P w) a vs
 | .dT kvs=>kvs.length<=sizeLine/\(a == Nj)=false/\∃ xs:List (List Key × Ml × Mj),
   OU (fun(p:List Key × V) (q:List Key × Ml × Mj)=>p.1=q.1/\H q.2.1=some (.tup (p.1.map kV))/\RelV p.2 q.2.2) kvs xs/\
   ∃ o es ep,h.get? a=some o/\o.ExactDict/\o.data=.dict es ep/\es.toList=xs.map (entryOfKey (Qm (bB P w)))/\(xs.map (·.1)).Nodup
 | .set S n=>h.SetOf (Og P w) a S n
 | .ins C dx fs=>H dx=some (.own a)/\fs.length<=1000/\dx≠a/\h.get? a=some (PySem.W.instObj C dx)/\
   ∃ mA,h.Ns1 dx mA/\(∀ f,kE (fs.lookup f) (mA f))/\PySem.Within mA (fs.map (·.1))
 | .own _=>∃ o,h.get? a=some o
 | .xd fs=>∃ mA,h.Ns1 a mA/\∀ f,kE (fs.lookup f) (mA f)
 | .rng lo hi=>∃ t u v,h.get? a=some { cls:=.type "range",data:=.fields #[.int lo t,.int hi u,.int 1 v] }
 | .frz o u=>h.get? a=some o/\b9 H h a u
 | .tbl ps=>h.get? a=some { cls:=.none,data:=.fields ps }
 | .met f x=>h.get? a=some (PX (.ref f) (.ref x))
 | .ext φ=>φ h/\(∃ o,h.get? a=some o)/\∀ h1 h2:MD,φ h1->(∀ o,h1.get? a=some o->h2.get? a=some o)->φ h2
def HOk(H:Hp)(h:MD):Prop:=∀ a o,H a=some o->b9 P w H h a o
end
section
variable{P:MA}{w:MC}{H H':Hp}{h h':MD}{a:Ml}{o:HO}
theorem b9.lt (x:b9 P w H h a o):a < h.objs.size:=by
 cases o with
 | lst xs=>obtain⟨_,_,_,_,e⟩:=x;exact Mu e
 | tup xs=>obtain⟨_,_,_,p⟩:=x;exact p.lt
 | dK kvs=>obtain⟨_,_,_,_,o,_,_,e,_⟩:=x;exact Mu e
 | dT kvs=>obtain⟨_,_,_,_,o,_,_,e,_⟩:=x;exact Mu e
 | set S n=>obtain⟨o,_,_,_,e,_⟩:=x;exact Mu e
 | ins C dx fs=>obtain⟨_,_,_,e,_⟩:=x;exact Mu e
 | own y=>obtain⟨_,e⟩:=x;exact Mu e
 | xd fs=>obtain⟨_,⟨_,_,_,e,_⟩,_⟩:=x;exact Mu e
 | rng lo hi=>obtain⟨_,_,_,e⟩:=x;exact Mu e
 | frz ob u=>obtain⟨e,_⟩:=x;exact Mu e
 | tbl ps=>exact Mu (show h.get? a=some _ from x)
 | met f y=>exact Mu (show h.get? a=some _ from x)
 | ext φ=>obtain⟨_,⟨_,e⟩,_⟩:=x;exact Mu e
theorem Paired.Dw {α β:Type}{F G:α->β->Prop}:∀ {l₁:List α} {l₂:List β},OU F l₁ l₂->(∀ a b,F a b->G a b)->OU G l₁ l₂
 | _,_,.nil,_=>.nil
 | _,_,.cons r t,f=>.cons (f _ _ r) (Paired.Dw t f)
theorem b9.iO (x:b9 P w H h a o)(k:∀ b u,(b=a\/H b=some (.own a))->h.get? b=some u->h'.get? b=some u)
  (ho:∀ b,H b=some (.own a)->H' b=some (.own a)) (ht:∀ b xs,H b=some (.tup xs)->H' b=some (.tup xs)):b9 P w H' h' a o:=by
 induction o with
 | lst xs=>obtain⟨z,its,n,r,e⟩:=x;exact⟨z,its,n,r,k _ _ (.inl rfl) e⟩
 | tup xs=>obtain⟨z,its,r,ob,e,c⟩:=x;exact⟨z,its,r,ob,k _ _ (.inl rfl) e,c⟩
 | dK kvs=>obtain⟨z,y,vs,r,ob,es,ep,e,c⟩:=x;exact⟨z,y,vs,r,ob,es,ep,k _ _ (.inl rfl) e,c⟩
 | dT kvs=>
  obtain⟨z,y,xs,r,ob,es,ep,e,c⟩:=x
  exact⟨z,y,xs,Paired.Dw r fun p q z=>⟨z.1,ht _ _ z.2.1,z.2.2⟩,ob,es,ep,k _ _ (.inl rfl) e,c⟩
 | set S n=>obtain⟨ob,es,ep,t,e,c⟩:=x;exact⟨ob,es,ep,t,k _ _ (.inl rfl) e,c⟩
 | ins C dx fs=>
  obtain⟨d,z,ne,e,mA,⟨od,es,ep,e2,c⟩,r⟩:=x
  exact⟨ho _ d,z,ne,k _ _ (.inl rfl) e,mA,⟨od,es,ep,k _ _ (.inr d) e2,c⟩,r⟩
 | own y=>obtain⟨ob,e⟩:=x;exact⟨ob,k _ _ (.inl rfl) e⟩
 | xd fs=>obtain⟨mA,⟨od,es,ep,e,c⟩,r⟩:=x;exact⟨mA,⟨od,es,ep,k _ _ (.inl rfl) e,c⟩,r⟩
 | rng lo hi=>obtain⟨t,u,v,e⟩:=x;exact⟨t,u,v,k _ _ (.inl rfl) e⟩
 | frz ob u ih=>obtain⟨e,q⟩:=x;exact⟨k _ _ (.inl rfl) e,ih q⟩
 | tbl ps=>
  have e:h.get? a=some { cls:=.none,data:=.fields ps }:=x
  show h'.get? a=some { cls:=.none,data:=.fields ps }
  exact k a _ (.inl rfl) e
 | met f y=>
  have e:h.get? a=some (PX (.ref f) (.ref y)):=x
  show h'.get? a=some (PX (.ref f) (.ref y))
  exact k a _ (.inl rfl) e
 | ext φ=>obtain⟨p,⟨o,e⟩,st⟩:=x;exact⟨st _ _ p fun o q=>k _ _ (.inl rfl) q,⟨o,k _ _ (.inl rfl) e⟩,st⟩
theorem HOk.lt (x:HOk P w H h)(e:H a=some o):a < h.objs.size:=(x a o e).lt
theorem HOk.fresh (x:HOk P w H h)(e:h.objs.size<=a):H a=none:=by
 cases q:H a with
 | none=>rfl
 | some u=>exact absurd (x_ (x.lt q) e) (IX _)
theorem HOk.kept (x:HOk P w H h)(k:∀ b u,h.get? b=some u->h'.get? b=some u):HOk P w H h':=fun a o e=>
 (x a o e).iO (fun b u _ q=>k b u q) (fun _ q=>q) fun _ _ q=>q
theorem HOk.laid (x:HOk P w H h)(k:∀ b u,h.get? b=some u->h'.get? b=some u)(hp:h.objs.size<=a)(new:b9 P w (upd H a o) h' a o):HOk P w (upd H a o) h':=fun b u e=>by
 have hn:=x.fresh hp
 by_cases hb:b=a
 ·subst hb;rw[aE]at e;cases e;exact new
 rw[aG hb]at e
 exact(x b u e).iO (fun c v _ q=>k c v q) (fun c q=>by rw[aG (bz q hn)];exact q) fun c xs q=>by rw[aG (bz q hn)];exact q
end
def Rd(H:Hp)(a:Ml)(u:HO):Prop:=H a=some u\/∃ o,H a=some (.frz o u)
theorem Rd.ok {P:MA}{w:MC}{H:Hp}{h:MD}{a:Ml}{u:HO}(r:Rd H a u)(x:HOk P w H h):b9 P w H h a u:=by
 rcases r with r | ⟨o,r⟩
 ·exact x a u r
 obtain⟨_,q⟩:=x a _ r
 exact q
noncomputable def Mut:Option HO->Prop
 | some (.lst _)=>True
 | some (.dK _)=>True
 | some (.dT _)=>True
 | some (.set _ _)=>True
 | some (.ins _ _ _)=>True
 | some (.ext _)=>True
 | _=>False
section
variable{P:MA}{w:MC}{H:Hp}{h h':MD}{x e:Ml}{o':HO}
theorem HOk.write (ok:HOk P w H h)(mu:Mut (H x))(he:e=x\/H e=some (.own x))(k:∀ b u,b≠e->h.get? b=some u->h'.get? b=some u)(heo:∃ u,h'.get? e=some u)
  (new:b9 P w (upd H x o') h' x o'):HOk P w (upd H x o') h':=fun b u q=>by
 have nown:∀ c y,H c=some (.own y)->c≠x:=fun c y r z=>by subst z;rw[r]at mu;exact mu
 have ntup:∀ c xs,H c=some (.tup xs)->c≠x:=fun c xs r z=>by subst z;rw[r]at mu;exact mu
 by_cases hb:b=x
 ·subst hb;rw[aE]at q;cases q;exact new
 rw[aG hb]at q
 by_cases hbe:b=e
 ·have q':H b=some (.own x):=by
   rcases he with z | z
   ·exact absurd (hbe.trans z) hb
   rw[hbe];exact z
  rw[q]at q';cases q'
  obtain⟨v,hv⟩:=heo
  exact⟨v,by rw[hbe];exact hv⟩
 refine(ok b u q).iO (fun c v hc r=>k c v ?_ r) (fun c r=>by rw[aG (nown c b r)];exact r) fun c xs r=>by rw[aG (ntup c xs r)];exact r
 rcases hc with rfl | hc
 ·exact hbe
 rintro rfl
 rcases he with z | z
 ·exact nown c b hc z
 rw[hc]at z;cases z;exact hb rfl
end
structure Un (fs ex:List Ml) (H H':Hp) (h h':MD):Prop where
 keep:∀ b o,h.get? b=some o->H b=none->b ∉ fs->b ∉ ex->h'.get? b=some o
 slot:∀ b o,h.get? b=some o->H b=none->b∈fs->b ∉ ex->∃ sl,h'.get? b=some { o with slots:=sl }
 free:∀ b o,h.get? b=some o->H b=none->b ∉ ex->H' b=none
 there:∀ b o,h.get? b=some o->b ∉ ex->∃ o',h'.get? b=some o'
 tups:∀ b xs,H b=some (.tup xs)->H' b=some (.tup xs)
 frzs:∀ b o u,H b=some (.frz o u)->H' b=some (.frz o u)
 tbls:∀ b ps,H b=some (.tbl ps)->∃ more,H' b=some (.tbl (ps++more))
section
variable{fs fs' ex ex':List Ml}{H H1 H2:Hp}{h h1 h2 h':MD}{a x e:Ml}{o:HO}
theorem Un.any (u:Un fs ex H H1 h h1){b:Ml}{ob:Obj}(q:h.get? b=some ob)(n:H b=none)(hx:b ∉ ex):∃ sl,h1.get? b=some { ob with slots:=sl }:=by
 by_cases hb:b∈fs
 ·exact u.slot b ob q n hb hx
 exact⟨ob.slots,u.keep b ob q n hb hx⟩
theorem Un.kept (k:∀ b u,h.get? b=some u->h'.get? b=some u):Un fs ex H H h h':=
 ⟨fun b ob q _ _ _=>k b ob q,fun b ob q _ _ _=>⟨ob.slots,k b ob q⟩,fun _ _ _ n _=>n,fun b ob q _=>⟨ob,k b ob q⟩,fun _ _ q=>q,fun _ _ _ q=>q,fun _ ps q=>⟨#[],by rw[q];simp⟩⟩
theorem Un.refl:Un fs ex H H h h:=Un.kept fun _ _ q=>q
theorem Un.laid (k:∀ b u,h.get? b=some u->h'.get? b=some u)(hp:h.objs.size<=a)(hn:H a=none):Un fs ex H (upd H a o) h h' where
 keep:=fun b u q _ _ _=>k b u q
 slot:=fun b u q _ _ _=>⟨u.slots,k b u q⟩
 free:=fun b u q n _=>by rw[aG (u_ (x_ (Mu q) hp))];exact n
 there:=fun b u q _=>⟨u,k b u q⟩
 tups:=fun b xs q=>by rw[aG (bz q hn)];exact q
 frzs:=fun b u xs q=>by rw[aG (bz q hn)];exact q
 tbls:=fun b ps q=>⟨#[],by rw[aG (bz q hn),q];simp⟩
theorem Un.write (mu:Mut (H x))(he:e=x\/H e=some (.own x))(k:∀ b u,b≠e->h.get? b=some u->h'.get? b=some u)(heo:∃ u,h'.get? e=some u):Un fs ex H (upd H x o) h h':=by
 have hx:∀ b,H b=none->b≠x:=fun b n z=>by subst z;rw[n]at mu;exact mu
 have hb:∀ b,H b=none->b≠e:=fun b n z=>by
  subst z
  rcases he with r | r
  ·exact hx b n r
  rw[n]at r;cases r
 have hm:∀ b u,H b=some u->¬ Mut (some u)->b≠x:=fun b u q nm z=>by subst z;rw[q]at mu;exact nm mu
 refine⟨fun b u q n _ _=>k b u (hb b n) q,fun b u q n _ _=>⟨u.slots,k b u (hb b n) q⟩,fun b u q n _=>by rw[aG (hx b n)];exact n,fun b u q _=>?_,
  fun b xs q=>by rw[aG (hm b _ q fun z=>z)];exact q,fun b u xs q=>by rw[aG (hm b _ q fun z=>z)];exact q,fun b ps q=>⟨#[],by rw[aG (hm b _ q fun z=>z),q];simp⟩⟩
 by_cases hbe:b=e
 ·subst hbe;exact heo
 exact⟨u,k b u hbe q⟩
end
def trk(h:MD)(H:Hp):List Ml:=(y_ h.objs.size).filter fun a=>(H a).isSome
def nH(h:MD)(H:Hp):MD:=PySem.W.hideAll h (trk h H)
theorem uH(h:MD)(H:Hp):(nH h H).objs.size=h.objs.size:=PySem.W.hideAll_size _ _
theorem xM{h:MD}{H:Hp}{b:Ml}{o:Obj}(e:h.get? b=some o)(n:H b=none):(nH h H).get? b=some o:=
 PySem.W.hideAll_get _ e fun hm=>by
  have q:(H b).isSome=true:=(Io.mp hm).2
  rw[n]at q;simp at q
theorem AB{h:MD}{H:Hp}{b:Ml}{o:Obj}(e:(nH h H).get? b=some o):h.get? b=some o/\H b=none:=by
 have e':h.get? b=some o:=PySem.W.of_hideAll (trk h H) e
 refine⟨e',?_⟩
 cases q:H b with
 | none=>rfl
 | some x=>
  have hm:b∈trk h H:=Io.mpr ⟨IE.mpr (Mu e'),by simp[q]⟩
  have z:(nH h H).get? b=none:=PySem.W.hideAll_none (trk h H) hm
  rw[z]at e;cases e
noncomputable def zH(g h:MD)(L:Ml):List (Ml × Obj):=(y_ h.objs.size).filterMap fun a=>if a=L\/(g.get? a).isSome=true then none else(h.get? a).map fun o=>(a,o)
def rest(g h:MD)(L d:Ml):List (Ml × Obj):=(zH g h L).filter fun p=>decide (p.1≠d)
structure Mod (K:Mk) (mg:Str->Option Mj) (base:MD):Prop where
 kin:K.In base
 glob:base.Ns Nh mg
 blt:∃ mb,base.Ns QQ mb/\∀ x:Str,x≠"__name__"->mb x=N6 x
 nolimit:base.NoLimit
structure Cx where
 prog:MA
 w:MC
 K:Mk
 mg:Str->Option Mj
 base:MD
 A:MJ
 N:List Str
 s₀:Mm
 H₀:Hp
 env:Env
 outer:List Env
 stack:List Env
 ex:List Ml
 fn:Str->Bool
 calm:Bool
 pn:List (Ml × Obj)
 xe:Mj->Mm->Prop
def frs(l:List Env):List Ml:=l.filterMap (·.frame)
abbrev Cx.fs (X:Cx):List Ml:=frs X.outer
noncomputable def Vis(sc:Nk)(x:Str):Prop:=sc.names.lookup x=some .local\/sc.names.lookup x=some .cell\/sc.names.lookup x=some .free
def Loc(sc:Nk)(x:Str):Prop:=sc.names.lookup x=some .local\/sc.names.lookup x=some .cell
noncomputable def Look(env:Env)(h:MD)(m:Str->Option Mj)(x:Str)(u:Mj):Prop:=
 (env.kindOf x=some .local/\m x=some u)\/((env.kindOf x=some .cell\/env.kindOf x=some .free)/\∃ c,env.cells.lookup x=some c/\h.IsCell c (some u))
structure Cx.Ok (X:Cx):Prop where
 mod:Mod X.K X.mg X.base
 kind:X.env.scope.kind=.function
 glob:X.env.globals=Nh
 blt:X.env.builtins=QQ
 above:X.s₀.heap.objs.size<=X.env.locals
 inj:∀ x y c,X.env.cells.lookup x=some c->X.env.cells.lookup y=some c->x=y
 has:∀ x,(X.env.kindOf x=some .cell\/X.env.kindOf x=some .free)->∃ c,X.env.cells.lookup x=some c
 cab:∀ x c,X.fn x=true->X.env.cells.lookup x=some c->X.s₀.heap.objs.size<=c
 hd:X.calm=true->X.A.handled=none
 frames:X.A.frames=some X.stack
 stk:X.stack=X.outer\/(X.stack=X.env::X.outer/\X.env.frame=some X.env.locals)
 exf:∀ b∈X.ex,b≠X.env.locals/\∀ x c,X.env.cells.lookup x=some c->c≠b
 bs:∀ b o,X.base.get? b=some o->X.s₀.heap.get? b=some o/\X.H₀ b=none
 bsz:X.base.objs.size<=X.s₀.heap.objs.size
 noex:∀ b o,X.base.get? b=some o->b ∉ X.ex
 exfs:∀ b∈X.ex,b ∉ X.fs
 jx:X.s₀.heap.FunFrames X.base X.outer
 frf:∀ b∈X.fs,X.H₀ b=none
structure Inv (X:Cx) (pins:List (Ml × Obj)) (σ:List (Option V)) (H:Hp) (s:Mm):Prop where
 ok:X.Ok
 os:s.os=X.s₀.os
 bare:O3 s.gens
 base:Un X.fs X.ex X.H₀ H X.s₀.heap s.heap
 loc:∃ m,s.heap.Ns X.env.locals m/\∀(i:Nat) (x:Str) (v:V),X.N[i]?=some x->σ[i]?=some (some v)->Vis X.env.scope x->∃ u,RelV v u/\Look X.env s.heap m x u
 cell:∀ x c,X.env.cells.lookup x=some c->∃ v,s.heap.IsCell c v
 free:H X.env.locals=none
 freeC:∀ x c,X.env.cells.lookup x=some c->H c=none
 pin:∀ p∈X.pn++pins,s.heap.get? p.1=some p.2/\H p.1=none/\p.1≠X.env.locals/\p.1 ∉ X.fs/\∀ v,p.2.data≠.cell v
 hok:HOk X.prog X.w H s.heap
 len:σ.length=X.N.length
section
variable{X:Cx}{pins:List (Ml × Obj)}{σ:List (Option V)}{H H':Hp}{s:Mm}{h':MD}
theorem Cx.Ok.Hf (ok:X.Ok){b:Ml}{o:Obj}(e:X.base.get? b=some o):b ∉ X.fs:=fun hb=>by
 have:=(ok.jx.mem hb).1
 rw[e]at this;cases this
theorem Inv.bs (I:Inv X pins σ H s):∀ b o,X.base.get? b=some o->s.heap.get? b=some o/\H b=none:=fun b o e=>
 ⟨I.base.keep b o (I.ok.bs b o e).1 (I.ok.bs b o e).2 (I.ok.Hf e) (I.ok.noex b o e),I.base.free b o (I.ok.bs b o e).1 (I.ok.bs b o e).2 (I.ok.noex b o e)⟩
theorem Inv.bk (I:Inv X pins σ H s):∀ b o,X.base.get? b=some o->s.heap.get? b=some o:=fun b o e=>(I.bs b o e).1
theorem Inv.mod (I:Inv X pins σ H s):Mod X.K X.mg X.base:=I.ok.mod
theorem Inv.kIn (I:Inv X pins σ H s):X.K.In s.heap:=I.ok.mod.kin.keeps I.bk
theorem Inv.lt (I:Inv X pins σ H s):X.env.locals < s.heap.objs.size:=let ⟨_,hn,_⟩:=I.loc;hn.lt
theorem Inv.sz (I:Inv X pins σ H s):X.s₀.heap.objs.size<=s.heap.objs.size:=v_ I.ok.above (HN I.lt)
theorem Inv.Ha (I:Inv X pins σ H s){a:Ml}(h:s.heap.objs.size<=a):a ∉ X.fs:=fun hb=>by
 obtain⟨_,o,ho,_⟩:=I.ok.jx.mem hb
 exact absurd (x_ (Mu ho) (v_ I.sz h)) (IX _)
theorem Inv.cne (I:Inv X pins σ H s):∀ x c,X.env.cells.lookup x=some c->c≠X.env.locals:=fun x c e z=>by
 obtain⟨v,o,ho,hd⟩:=I.cell x c e
 obtain⟨m,⟨o',es,ep,ho',hd',_⟩,_⟩:=I.loc
 rw[z,ho']at ho;cases ho;rw[hd']at hd;cases hd
theorem Inv.jx (I:Inv X pins σ H s):s.heap.FunFrames X.base X.outer:=by
 have all:∀(l:List Env),(∀ b∈frs l,b∈X.fs)->X.s₀.heap.FunFrames X.base l->s.heap.FunFrames X.base l:=by
  intro l
  induction l with
  | nil=>intro _ _;trivial
  | cons env r ih=>
   intro hs hl
   obtain⟨hk,⟨L,o,hf,hn,ho,hd⟩,hr⟩:=hl
   have hL:L∈X.fs:=hs L (by unfold frs;rw[Kq,hf];exact s_)
   obtain⟨sl,e⟩:=I.base.slot L o ho (I.ok.frf L hL) hL fun z=>I.ok.exfs L z hL
   exact⟨hk,⟨L,_,hf,hn,e,hd⟩,ih (fun b hb=>hs b (by unfold frs;rw[Kq,hf];exact r_ _ hb)) hr⟩
 exact all X.outer (fun _ hb=>hb) I.ok.jx
theorem Inv.stack (I:Inv X pins σ H s):s.heap.FunFrames X.base X.stack:=by
 rcases I.ok.stk with e | ⟨e,hf⟩
 ·rw[e];exact I.jx
 rw[e]
 obtain⟨m,hn,_⟩:=I.loc
 refine .cons (by rw[I.ok.kind];decide) hf hn ?_ I.jx
 exact Heap.get?_none_of_le (v_ I.ok.bsz I.ok.above)
theorem Inv.qI (I:Inv X pins σ H s):∀ b∈frs X.stack,b∈X.env.locals::X.fs:=fun b hb=>by
 rcases I.ok.stk with e | ⟨e,hf⟩
 ·rw[e]at hb;exact r_ _ hb
 rw[e]at hb
 unfold frs at hb
 rw[Kq,hf]at hb
 exact hb
theorem Inv.sk (I:Inv X pins σ H s):∀ b∈frs X.stack,H b=none:=fun b hb=>by
 rcases o_.mp (I.qI b hb)with e | hb
 ·rw[e];exact I.free
 obtain⟨_,o,ho,_⟩:=I.ok.jx.mem hb
 exact I.base.free b o ho (I.ok.frf b hb) fun z=>I.ok.exfs b z hb
theorem Inv.step {g':Array RH}{t':Nat}{d':SY}{ch:List Ml}(I:Inv X pins σ H s)
  (hch:∀ b∈ch,(b∈X.ex\/X.s₀.heap.objs.size<=b)/\b≠X.env.locals/\(∀ x c,X.env.cells.lookup x=some c->c≠b)/\∀ p∈X.pn++pins,p.1≠b)
  (keep:∀ b o,b≠X.env.locals->b ∉ X.fs->b ∉ ch->s.heap.get? b=some o->H b=none->h'.get? b=some o)
  (slot:∀ b o,b≠X.env.locals->b∈X.fs->b ∉ ch->s.heap.get? b=some o->H b=none->∃ sl,h'.get? b=some { o with slots:=sl }) (free:∀ b o,b ∉ ch->s.heap.get? b=some o->H b=none->H' b=none)
  (there:∀ b o,b ∉ ch->s.heap.get? b=some o->∃ o',h'.get? b=some o')
  (tups:∀ b xs,H b=some (.tup xs)->H' b=some (.tup xs)) (frzs:∀ b o u,H b=some (.frz o u)->H' b=some (.frz o u)) (tbls:∀ b ps,H b=some (.tbl ps)->∃ more,H' b=some (.tbl (ps++more)))
  (ns:∀ m,s.heap.Ns X.env.locals m->h'.Ns X.env.locals m) (hok:HOk X.prog X.w H' h') (hg:O3 g') :
  Inv X pins σ H' { s with heap:=h',gens:=g',drawn:=d',toks:=t' }:=by
 have neL:∀ b o,X.s₀.heap.get? b=some o->b≠X.env.locals:=fun b o e=>u_ (x_ (Mu e) I.ok.above)
 have neC:∀ b o,X.s₀.heap.get? b=some o->b ∉ X.ex->b ∉ ch:=fun b o e hx hb=>by
  rcases(hch b hb).1 with z | z
  ·exact hx z
  exact absurd (x_ (Mu e) z) (IX _)
 have cellK:∀ x c,X.env.cells.lookup x=some c->∀ v,s.heap.IsCell c v->h'.IsCell c v:=fun x c e v ⟨o,ho,hd⟩=>by
  have nch:c ∉ ch:=fun z=>(hch c z).2.2.1 x c e rfl
  by_cases hc:c∈X.fs
  ·obtain⟨sl,q⟩:=slot c o (I.cne x c e) hc nch ho (I.freeC x c e)
   exact⟨_,q,hd⟩
  exact⟨o,keep c o (I.cne x c e) hc nch ho (I.freeC x c e),hd⟩
 refine⟨I.ok,I.os,hg,⟨fun b o e n hb hx=>?_,fun b o e n hb hx=>?_,fun b o e n hx=>?_,fun b o e hx=>?_,fun b xs e=>tups b xs (I.base.tups b xs e),fun b o xs e=>frzs b o xs (I.base.frzs b o xs e),fun b ps e=>?_⟩,?_,fun x c e=>?_,?_,fun x c e=>?_,fun p hp=>?_,hok,I.len⟩
 ·exact keep b o (neL b o e) hb (neC b o e hx) (I.base.keep b o e n hb hx) (I.base.free b o e n hx)
 ·obtain⟨sl,e1⟩:=I.base.slot b o e n hb hx
  obtain⟨sl',e2⟩:=slot b _ (neL b o e) hb (neC b o e hx) e1 (I.base.free b o e n hx)
  exact⟨sl',e2⟩
 ·obtain⟨o',e1⟩:=I.base.there b o e hx
  exact free b o' (neC b o e hx) e1 (I.base.free b o e n hx)
 ·obtain⟨o',e1⟩:=I.base.there b o e hx
  exact there b o' (neC b o e hx) e1
 ·obtain⟨m1,e1⟩:=I.base.tbls b ps e
  obtain⟨m2,e2⟩:=tbls b _ e1
  exact⟨m1++m2,by rw[e2,Array.append_assoc]⟩
 ·obtain⟨m,hn,hl⟩:=I.loc
  refine⟨m,ns m hn,fun i x v e1 e2 e3=>?_⟩
  obtain⟨u,r,l⟩:=hl i x v e1 e2 e3
  refine⟨u,r,?_⟩
  rcases l with l | ⟨k,c,e,z⟩
  ·exact .inl l
  exact .inr ⟨k,c,e,cellK x c e _ z⟩
 ·obtain⟨v,z⟩:=I.cell x c e
  exact⟨v,cellK x c e v z⟩
 ·obtain⟨m,⟨o,_,_,ho,_⟩,_⟩:=I.loc
  exact free _ o (fun z=>(hch _ z).2.1 rfl) ho I.free
 ·obtain⟨v,o,ho,hd⟩:=I.cell x c e
  exact free c o (fun z=>(hch c z).2.2.1 x c e rfl) ho (I.freeC x c e)
 obtain⟨e,n,ne,nf,d⟩:=I.pin p hp
 have nch:p.1 ∉ ch:=fun z=>(hch p.1 z).2.2.2 p hp rfl
 exact⟨keep p.1 p.2 ne nf nch e n,free p.1 p.2 nch e n,ne,nf,d⟩
theorem Inv.un {t':Nat}(I:Inv X pins σ H s)(u:Un X.fs [] H H' s.heap h')(hok:HOk X.prog X.w H' h'):Inv X pins σ H' { s with heap:=h',toks:=t' }:=by
 obtain⟨m,⟨o,es,ep,ho,r⟩,_⟩:=id I.loc
 obtain⟨sl,hL⟩:=u.any ho I.free (by simp)
 exact I.step (g':=s.gens) (d':=s.drawn) (ch:=[]) (fun _ z=>nomatch z) (fun b o _ hb _ e n=>u.keep b o e n hb (by simp)) (fun b o _ hb _ e n=>u.slot b o e n hb (by simp)) (fun b o _ e n=>u.free b o e n (by simp)) (fun b o _ e=>u.there b o e (by simp)) u.tups u.frzs u.tbls (fun m' hm=>by
  obtain⟨o',es',ep',ho',r'⟩:=hm
  rw[ho]at ho';cases ho'
  exact⟨_,es',ep',hL,r'⟩) hok I.bare
theorem Inv.call {g':Array RH}{t':Nat}{d':SY}{ch:List Ml}(I:Inv X pins σ H s)(u:Un (frs X.stack) ch H H' s.heap h')(hok:HOk X.prog X.w H' h')(hg:O3 g')
  (hch:∀ b∈ch,(b∈X.ex\/X.s₀.heap.objs.size<=b)/\b≠X.env.locals/\(∀ x c,X.env.cells.lookup x=some c->c≠b)/\∀ p∈X.pn++pins,p.1≠b) :
  Inv X pins σ H' { s with heap:=h',gens:=g',drawn:=d',toks:=t' }:=by
 obtain⟨m,⟨o,es,ep,ho,r⟩,_⟩:=id I.loc
 obtain⟨sl,hL⟩:=u.any ho I.free fun z=>(hch _ z).2.1 rfl
 exact I.step (ch:=ch) hch (fun b o hL hb hc e n=>u.keep b o e n (fun z=>(o_.mp (I.qI b z)).elim hL hb) hc) (fun b o _ _ hc e n=>u.any e n hc) (fun b o hc e n=>u.free b o e n hc) (fun b o hc e=>u.there b o e hc) u.tups u.frzs u.tbls (fun m' hm=>by
  obtain⟨o',es',ep',ho',r'⟩:=hm
  rw[ho]at ho';cases ho'
  exact⟨_,es',ep',hL,r'⟩) hok hg
theorem Inv.turned {t':Nat}{it:Ml}(I:Inv X pins σ H s)(k:∀ b o,b≠it->s.heap.get? b=some o->h'.get? b=some o)(hn:H it=none)(hL:it≠X.env.locals)
  (h1:it∈X.ex\/X.s₀.heap.objs.size<=it) (h2:∀ x c,X.env.cells.lookup x=some c->c≠it) (h3:∀ p∈X.pn++pins,p.1≠it):Inv X pins σ H { s with heap:=h',toks:=t' }:=by
 have nit:∀ b u,H b=some u->b≠it:=fun b u e z=>by rw[z,hn]at e;cases e
 refine I.step (g':=s.gens) (d':=s.drawn) (ch:=[it]) (fun b hb=>?_) (fun b o _ _ hc e _=>k b o (fun z=>hc (by simp[z])) e) (fun b o _ _ hc e _=>⟨o.slots,k b o (fun z=>hc (by simp[z])) e⟩) (fun _ _ _ _ n=>n)
  (fun b o hc e=>⟨o,k b o (fun z=>hc (by simp[z])) e⟩) (fun _ _ e=>e) (fun _ _ _ e=>e) (fun b ps e=>⟨#[],by rw[e];simp⟩) (fun m hm=>?_) (fun b u e=>?_) I.bare
 ·have e:b=it:=by simpa using hb
  subst e
  exact⟨h1,hL,h2,h3⟩
 ·obtain⟨o,es,ep,ho,r⟩:=hm
  exact⟨o,es,ep,k _ o (N4 hL) ho,r⟩
 refine(I.hok b u e).iO (fun c v hc q=>k c v ?_ q) (fun _ q=>q) fun _ _ q=>q
 rcases hc with z | z
 ·rw[z];exact nit b u e
 exact nit c _ z
theorem Inv.tok (I:Inv X pins σ H s)(t:Nat):Inv X pins σ H { s with toks:=t }:=I.un (h':=s.heap) (t':=t) Un.refl I.hok
theorem Inv.kept {t':Nat}(I:Inv X pins σ H s)(k:∀ b u,s.heap.get? b=some u->h'.get? b=some u):Inv X pins σ H { s with heap:=h',toks:=t' }:=I.un (Un.kept k) (I.hok.kept k)
theorem Inv.laid {a:Ml}{o:HO}{t':Nat}(I:Inv X pins σ H s)(k:∀ b u,s.heap.get? b=some u->h'.get? b=some u)(hp:s.heap.objs.size<=a)(new:b9 X.prog X.w (upd H a o) h' a o) :
  Inv X pins σ (upd H a o) { s with heap:=h',toks:=t' }:=I.un (Un.laid k hp (I.hok.fresh hp)) (I.hok.laid k hp new)
theorem Inv.write {x e:Ml}{o:HO}{t':Nat}(I:Inv X pins σ H s)(mu:Mut (H x))(he:e=x\/H e=some (.own x))(k:∀ b u,b≠e->s.heap.get? b=some u->h'.get? b=some u)(heo:∃ u,h'.get? e=some u)
  (new:b9 X.prog X.w (upd H x o) h' x o):Inv X pins σ (upd H x o) { s with heap:=h',toks:=t' }:=I.un (Un.write mu he k heo) (I.hok.write mu he k heo new)
theorem Inv.sR {pins':List (Ml × Obj)}(I:Inv X pins σ H s)(h:∀ p∈pins',s.heap.get? p.1=some p.2/\H p.1=none/\p.1≠X.env.locals/\p.1 ∉ X.fs/\∀ v,p.2.data≠.cell v):Inv X pins' σ H s:=
 ⟨I.ok,I.os,I.bare,I.base,I.loc,I.cell,I.free,I.freeC,fun p hp=>(z_.mp hp).elim (fun z=>I.pin p (w_ _ z)) (h p),I.hok,I.len⟩
theorem pA{N:List Str}(hN:N.Nodup){i j:Nat}{x:Str}(a:N[i]?=some x)(b:N[j]?=some x):i=j:=by
 obtain⟨h1,e1⟩:=gV.mp a
 obtain⟨h2,e2⟩:=gV.mp b
 exact(List.getElem_inj hN).mp (e1.trans e2.symm)
theorem lO{M:Om}{A:MJ}{E:Mj->Mm->Prop}{i:Nat}{x:Str}{v:V}{u:Mj}{Q:Unit->Mm->Prop}(I:Inv X pins σ H s)(hN:X.N.Nodup)(hi:X.N[i]?=some x)(hx:Loc X.env.scope x)(r:RelV v u)
  (h:∀ s',Inv X pins (σ.set i (some v)) H s'->(∃ a,Na a s.heap s'.heap/\(a=X.env.locals\/X.env.cells.lookup x=some a))->Q () s') (hf:X.fn x=true\/X.env.scope.names.lookup x=some .local:=by first | exact .inl rfl | exact .inr rfl | assumption):Mr M A (Sz X.env x u) Q E s:=by
 obtain⟨m,hn,hl⟩:=id I.loc
 have hcls:(X.env.scope.kind == .class || (X.env.scope.kind == .module && X.env.locals != X.env.globals))=false:=by rw[I.ok.kind];rfl
 have hiσ:i < σ.length:=by rw[I.len];exact(gV.mp hi).1
 have cne:=I.cne
 have tracked:∀ {a:Ml} {h':MD},(∃ o,s.heap.get? a=some o/\H a=none)->Na a s.heap h'->HOk X.prog X.w H h':=fun{a h'} ha hs b ob e=>by
  obtain⟨_,_,hfree⟩:=ha
  refine(I.hok b ob e).iO (fun c w' hc q=>(hs.2 c ?_).trans q) (fun _ q=>q) fun _ _ q=>q
  rintro rfl
  rcases hc with rfl | hc
  ·rw[hfree]at e;cases e
  rw[hfree]at hc;cases hc
 rcases hx with hk | hk
 ·refine wpAny_storeName_local hk hn (fun h' hn' hs=>?_) hcls
  obtain⟨oL,_,_,hoL,_⟩:=id hn
  refine h _ ⟨I.ok,I.os,I.bare,⟨fun b o e n hb hx=>?_,fun b o e n hb hx=>?_,I.base.free,fun b o e hx=>?_,I.base.tups,I.base.frzs,I.base.tbls⟩,⟨_,hn',fun j y v' e1 e2 e3=>?_⟩,fun y c e=>?_,I.free,I.freeC,fun p hp=>?_,tracked ⟨oL,hoL,I.free⟩ hs,by simpa using I.len⟩ ⟨_,hs,.inl rfl⟩
  ·exact(hs.2 b (u_ (x_ (Mu e) I.ok.above))).trans (I.base.keep b o e n hb hx)
  ·obtain⟨sl,e1⟩:=I.base.slot b o e n hb hx
   exact⟨sl,(hs.2 b (u_ (x_ (Mu e) I.ok.above))).trans e1⟩
  ·obtain⟨o',e1⟩:=I.base.there b o e hx
   exact⟨o',(hs.2 b (u_ (x_ (Mu e) I.ok.above))).trans e1⟩
  ·by_cases hj:j=i
   ·subst hj
    rw[hi]at e1;cases e1
    rw[J5 hiσ]at e2
    cases e2
    exact⟨u,r,.inl ⟨hk,by simp⟩⟩
   rw[Kc (N4 hj)]at e2
   obtain⟨u',r',q⟩:=hl j y v' e1 e2 e3
   refine⟨u',r',?_⟩
   rcases q with⟨k,e⟩ | ⟨k,c,e,z⟩
   ·refine .inl ⟨k,?_⟩
    have:y≠x:=fun e=>hj (pA hN e1 (e ▸ hi))
    simp[this,e]
   exact .inr ⟨k,c,e,z.sameBut hs (cne y c e)⟩
  ·obtain⟨w',z⟩:=I.cell y c e
   exact⟨w',z.sameBut hs (cne y c e)⟩
  obtain⟨e,n,ne,nf,d⟩:=I.pin p hp
  exact⟨(hs.2 p.1 ne).trans e,n,ne,nf,d⟩
 have hfn:X.fn x=true:=by
  rcases hf with z | z
  ·exact z
  rw[z]at hk;cases hk
 obtain⟨c,hc⟩:=I.ok.has x (.inl hk)
 obtain⟨w',z⟩:=I.cell x c hc
 refine wpAny_storeName_cell I.ok.kind hk hc z (fun h' hc' hs=>?_)
 obtain⟨oc,hoc,hocd⟩:=id z
 refine h { s with heap:=h' } ⟨I.ok,I.os,I.bare,⟨fun b o e n hb hx=>?_,fun b o e n hb hx=>?_,I.base.free,fun b o e hx=>?_,I.base.tups,I.base.frzs,I.base.tbls⟩,⟨m,hn.sameBut hs (N4 (cne x c hc)),fun j y v' e1 e2 e3=>?_⟩,fun y c' e=>?_,I.free,I.freeC,fun p hp=>?_,tracked ⟨oc,hoc,I.freeC x c hc⟩ hs,by simpa using I.len⟩ ⟨c,hs,.inr hc⟩
 ·exact(hs.2 b (u_ (x_ (Mu e) (I.ok.cab x c hfn hc)))).trans (I.base.keep b o e n hb hx)
 ·obtain⟨sl,e1⟩:=I.base.slot b o e n hb hx
  exact⟨sl,(hs.2 b (u_ (x_ (Mu e) (I.ok.cab x c hfn hc)))).trans e1⟩
 ·obtain⟨o',e1⟩:=I.base.there b o e hx
  exact⟨o',(hs.2 b (u_ (x_ (Mu e) (I.ok.cab x c hfn hc)))).trans e1⟩
 ·by_cases hj:j=i
  ·subst hj
   rw[hi]at e1;cases e1
   rw[J5 hiσ]at e2
   cases e2
   exact⟨u,r,.inr ⟨.inl hk,c,hc,hc'⟩⟩
  rw[Kc (N4 hj)]at e2
  obtain⟨u',r',q⟩:=hl j y v' e1 e2 e3
  refine⟨u',r',?_⟩
  rcases q with q | ⟨k,c',e,z'⟩
  ·exact .inl q
  refine .inr ⟨k,c',e,z'.sameBut hs ?_⟩
  rintro rfl
  exact hj (pA hN e1 (I.ok.inj _ _ _ e hc ▸ hi))
 ·by_cases hcc:c'=c
  ·subst hcc;exact⟨_,hc'⟩
  obtain⟨w2,z2⟩:=I.cell y c' e
  exact⟨w2,z2.sameBut hs hcc⟩
 obtain⟨e,n,ne,nf,d⟩:=I.pin p hp
 refine⟨(hs.2 p.1 ?_).trans e,n,ne,nf,d⟩
 intro q
 rw[q,hoc]at e
 have q':oc=p.2:=HU e
 exact d w' (by rw[<-q'];exact hocd)
theorem dJ{M:Om}{A:MJ}{E:Mj->Mm->Prop}{i:Nat}{x:Str}{v:V}{u:Mj}{Q:Unit->Mm->Prop}(I:Inv X pins σ H s)(hN:X.N.Nodup)(hi:X.N[i]?=some x)(hx:Loc X.env.scope x)(r:RelV v u)
  (h:∀ s',Inv X pins (σ.set i (some v)) H s'->Q () s') (hf:X.fn x=true\/X.env.scope.names.lookup x=some .local:=by first | exact .inl rfl | exact .inr rfl | assumption):Mr M A (Sz X.env x u) Q E s:=
 lO I hN hi hx r (fun s' I' _=>h s' I') hf
theorem Inv.BJ {s':Mm}{ch:List Ml}(I:Inv X pins σ H s)(ho:s'.os=s.os)(u:Un (frs X.stack) ch H H' s.heap s'.heap)(hok:HOk X.prog X.w H' s'.heap)(hg:O3 s'.gens)
  (hch:∀ b∈ch,(b∈X.ex\/X.s₀.heap.objs.size<=b)/\b≠X.env.locals/\(∀ x c,X.env.cells.lookup x=some c->c≠b)/\∀ p∈X.pn++pins,p.1≠b):Inv X pins σ H' s':=by
 obtain⟨h',g',d',t',o'⟩:=s'
 have e:o'=s.os:=ho
 subst e
 exact I.call (g':=g') (t':=t') (d':=d') u hok hg hch
end
abbrev XK:=Mj->Option Ml->Hp->Prop
abbrev St:=List (Option V)
abbrev VK:=V->Hp->Prop
abbrev TE:=St->Hp->VK->Prop
abbrev TT:=St->Hp->(Bool->Hp->Prop)->Prop
abbrev TA:=St->Hp->(List V->Hp->Prop)->Prop
structure Ends where
 nx:St->Hp->Prop
 rt:VK
 bk:St->Hp->Prop:=fun _ _=>False
 ct:St->Hp->Prop:=fun _ _=>False
abbrev TS:=Ends->St->Hp->Prop
noncomputable def EP(X:Cx)(pins:List (Ml × Obj))(σ:St)(Q:VK)(u:Mj)(s':Mm):Prop:=∃ v H',Inv X pins σ H' s'/\RelV v u/\Q v H'
noncomputable def TP(X:Cx)(pins:List (Ml × Obj))(σ:St)(Q:Bool->Hp->Prop)(b:Bool)(s':Mm):Prop:=∃ H',Inv X pins σ H' s'/\Q b H'
noncomputable def AP(X:Cx)(pins:List (Ml × Obj))(σ:St)(Q:List V->Hp->Prop)(us:List Mj)(s':Mm):Prop:=∃ vs H',Inv X pins σ H' s'/\Vals vs us/\Q vs H'
noncomputable def SP(X:Cx)(pins:List (Ml × Obj))(D:Ends)(f:Flow)(s':Mm):Prop:=
 match f with
 | .next=>∃ σ' H',Inv X pins σ' H' s'/\D.nx σ' H'
 | .brk=>∃ σ' H',Inv X pins σ' H' s'/\D.bk σ' H'
 | .cont=>∃ σ' H',Inv X pins σ' H' s'/\D.ct σ' H'
 | .ret u=>∃ v σ' H',Inv X pins σ' H' s'/\RelV v u/\D.rt v H'
noncomputable def PE(X:Cx)(e:MB)(t:TE):Prop:=
 ∀(pins:List (Ml × Obj)) (s:Mm) (σ:St) (H:Hp) (Q:VK),Inv X pins σ H s->t σ H Q->Mr (Mw X.prog X.w) X.A (MQ e X.env) (EP X pins σ Q) X.xe s
noncomputable def PT(X:Cx)(e:MB)(t:TT):Prop:=
 ∀(pins:List (Ml × Obj)) (s:Mm) (σ:St) (H:Hp) (Q:Bool->Hp->Prop),Inv X pins σ H s->t σ H Q->Mr (Mw X.prog X.w) X.A (QC e X.env (MQ e X.env)) (TP X pins σ Q) X.xe s
noncomputable def PW(X:Cx)(e:MB)(t:TT):Prop:=
 ∀(whole:Sem Mj) (pins:List (Ml × Obj)) (s:Mm) (σ:St) (H:Hp) (Q:Bool->Hp->Prop),Inv X pins σ H s->t σ H Q->Mr (Mw X.prog X.w) X.A (QC e X.env whole) (TP X pins σ Q) X.xe s
theorem PW.pt {X:Cx}{e:MB}{t:TT}(h:PW X e t):PT X e t:=h _
noncomputable def PA(X:Cx)(es:List MB)(t:TA):Prop:=
 ∀(pos:Pos) (pins:List (Ml × Obj)) (s:Mm) (σ:St) (H:Hp) (Q:List V->Hp->Prop),Inv X pins σ H s->t σ H Q->Mr (Mw X.prog X.w) X.A (spliced (Ot pos (ME es X.env))) (AP X pins σ Q) X.xe s
noncomputable def PS(X:Cx)(st:M3)(t:TS):Prop:=
 ∀(pins:List (Ml × Obj)) (s:Mm) (σ:St) (H:Hp) (D:Ends),Inv X pins σ H s->t D σ H->Mr (Mw X.prog X.w) X.A (exec st X.env) (SP X pins D) X.xe s
noncomputable def PSs(X:Cx)(st:List M3)(t:TS):Prop:=
 ∀(pins:List (Ml × Obj)) (s:Mm) (σ:St) (H:Hp) (D:Ends),Inv X pins σ H s->t D σ H->Mr (Mw X.prog X.w) X.A (execs st X.env) (SP X pins D) X.xe s
theorem thn{α:Type}{t:Sem α}{Q Q':α->Mm->Prop}{M:Om}{A:MJ}{E:Mj->Mm->Prop}{s:Mm}(h:Mr M A t Q E s)(hQ:∀ a s,Q a s->Q' a s):Mr M A t Q' E s:=MP h hQ fun _ _ x=>x
section
variable{X:Cx}
def Cw(i:Nat):TE:=fun σ H Q=>∃ v,σ[i]?=some (some v)/\Q v H
def tC(v:V):TE:=fun _ H Q=>Q v H
theorem dH{i:Nat}{x:Str}{pos:Pos}(hN:X.N[i]?=some x)(hv:Vis X.env.scope x)(hd:(x ==("__debug__":Str))=false:=by decide)(hcd:(x ==("__classdict__":Str))=false:=by decide):PE X (.Name x pos) (Cw i):=by
 intro pins s σ H Q I h
 obtain⟨v,e,h⟩:=h
 obtain⟨m,hn,hl⟩:=I.loc
 obtain⟨u,r,l⟩:=hl i x v hN e hv
 have fin:EP X pins σ Q u s:=⟨v,H,I,r,h⟩
 rcases l with⟨hk,hm⟩ | ⟨hk,c,hc,hcell⟩
 ·exact RV (QR I.ok.kind hk hn hm fin) hd
 rcases hk with hk | hk
 ·exact RV (Q6 I.ok.kind hk hc hcell fin) hd
 exact RV (wpAny_loadName_free I.ok.kind hk hc hcell fin hcd) hd
theorem bG{i j pos}:PE X (.Constant (.int i) j pos) (tC (.int i)):=fun _ _ _ H _ I h=>wpAny_Constant_int ⟨.int i,H,I.tok _,⟨_,rfl⟩,h⟩
theorem wL{b j pos}:PE X (.Constant (.bool b) j pos) (tC (.bl b)):=fun _ _ _ H _ I h=>SH ⟨.bl b,H,I,rfl,h⟩
theorem eW{x j pos}:PE X (.Constant (.str x) j pos) (tC (.str x)):=fun _ _ _ H _ I h=>Calls.Constant_str ⟨.str x,H,I.tok _,⟨_,rfl⟩,h⟩
def Gl(X:Cx)(x:Str):Prop:=X.env.kindOf x=some .globalImplicit
theorem AA{E:Mj->Mm->Prop}{pins:List (Ml × Obj)}{s:Mm}{σ:St}{H:Hp}{x:Str}{u:Mj}{pos:Pos}{Q:Mj->Mm->Prop}(I:Inv X pins σ H s)(hg:Gl X x)(hm:X.mg x=some u)(h:Q u s)
  (hd:(x ==("__debug__":Str))=false:=by decide):Mr (Mw X.prog X.w) X.A (MQ (.Name x pos) X.env) Q E s:=
 PD I.ok.kind hg (Calls.loadGlobal_global (by rw[I.ok.glob];exact I.mod.glob.keeps I.bk) hm h) hd
theorem cL{E:Mj->Mm->Prop}{pins:List (Ml × Obj)}{s:Mm}{σ:St}{H:Hp}{x:Str}{u:Mj}{pos:Pos}{Q:Mj->Mm->Prop}(I:Inv X pins σ H s)(hg:Gl X x)(hm:X.mg x=none)(hv:N6 x=some u)(h:Q u s)
  (hn:x≠"__name__":=by decide) (hd:(x ==("__debug__":Str))=false:=by decide):Mr (Mw X.prog X.w) X.A (MQ (.Name x pos) X.env) Q E s:=by
 obtain⟨mb,h1,h2⟩:=I.mod.blt
 exact PD I.ok.kind hg (Calls.loadGlobal_builtin (by rw[I.ok.glob];exact I.mod.glob.keeps I.bk) hm (by rw[I.ok.blt];exact h1.keeps I.bk) ((h2 x hn).trans hv) h) hd
theorem bS{x:Str}{v:V}{u:Mj}{pos:Pos}(hg:Gl X x)(hm:X.mg x=none)(hv:N6 x=some u)(r:RelV v u)(hn:x≠"__name__":=by decide)(hd:(x ==("__debug__":Str))=false:=by decide):PE X (.Name x pos) (tC v):=
 fun _ _ _ H _ I h=>cL I hg hm hv ⟨v,H,I,r,h⟩ hn hd
variable{a b:MB}{ta tb:TE}{pos:Pos}
noncomputable def PC(X:Cx)(op:O5)(a b:MB)(t:TE):Prop:=
 ∀(pins:List (Ml × Obj)) (s:Mm) (σ:St) (H:Hp) (Q:VK),Inv X pins σ H s->t σ H Q->
  Mr (Mw X.prog X.w) X.A (MQ a X.env) (fun v s₁=>Mr (Mw X.prog X.w) X.A (MQ b X.env) (fun u s₂=>Mr (Mw X.prog X.w) X.A (M4 op v u) (EP X pins σ Q) X.xe s₂) X.xe s₁) X.xe s
theorem oo(b:MB){op:O5}(h:op≠.In)(h2:op≠.NotIn):NK op b=false:=by
 have e1:(op == UL)=false:=by cases op <;> first | rfl | exact absurd rfl h
 have e2:(op == T8)=false:=by cases op <;> first | rfl | exact absurd rfl h2
 cases b <;> simp[NK,e1,e2]
def HA(ta:TE):TE:=fun σ H Q=>ta σ H fun x H1=>Q (.bl (decide (x=.non))) H1
theorem RelV.wQ {x:V}{v:Mj}(r:RelV x v):(v == MV)=decide (x=.non):=by
 cases x with
 | non=>cases r;rfl
 | bl _=>cases r;rfl
 | int _=>obtain⟨t,rfl⟩:=r;rfl
 | str _=>obtain⟨t,rfl⟩:=r;rfl
 | byt _=>obtain⟨t,rfl⟩:=r;rfl
 | flt _=>obtain⟨t,rfl⟩:=r;rfl
 | ref _=>cases r;rfl
 | ty _=>cases r;rfl
theorem yt{j pos'}(ha:PE X a ta):PC X .Is a (.Constant .none j pos') (HA ta):=by
 intro pins s σ H Q I h
 refine thn (ha pins s σ H _ I h) ?_
 rintro v s1 ⟨x,H1,I1,r1,q1⟩
 exact Constant_none (is_none_gen ⟨.bl _,H1,I1,by rw[r1.wQ];rfl,q1⟩)
def tB(t:TE):TT:=fun σ H Q=>t σ H fun x H1=>∃ c,x=.bl c/\Q c H1
theorem Ed{op:O5}{t:TE}(h:PC X op a b t)(h1:NK op b=false:=by first | exact oo _ (by decide) (by decide) | rfl):PE X (.Compare a [op] [b] pos) t:=fun pins s σ H Q I hw=>Si (h pins s σ H Q I hw) h1
theorem Dx{op:O5}{t:TE}(h:PC X op a b t)(h1:NK op b=false:=by first | exact oo _ (by decide) (by decide) | rfl):PT X (.Compare a [op] [b] pos) (tB t):=by
 intro pins s σ H Q I hw
 refine QD (thn (h pins s σ H _ I hw) fun v s1 h1=>thn h1 fun u s2 h2=>thn h2 fun c s3 ⟨x,H1,I1,r1,q1⟩=>?_) h1
 obtain⟨d,rfl,q⟩:=q1
 cases r1
 exact Nb ⟨H1,I1,q⟩
theorem mD{e:MB}{t:TE}(h:PE X e t)(he:∀ whole,QC e X.env whole=(do let v <-whole;Rq e.pos;OK [v] (Tf v)):=by intro _;rfl):PT X e (tB t):=by
 intro pins s σ H Q I hw
 refine Tg (thn (h pins s σ H _ I hw) fun v s1 ⟨x,H1,I1,r1,q1⟩=>?_) (he _)
 obtain⟨d,rfl,q⟩:=q1
 cases r1
 exact Nb ⟨H1,I1,q⟩
variable{tA tB':TT}{rest:List MB}
def Hm(t u:TT):TT:=fun σ H Q=>t σ H fun c H1=>if c=true then u σ H1 Q else Q false H1
def tOr(t u:TT):TT:=fun σ H Q=>t σ H fun c H1=>if c=true then Q true H1 else u σ H1 Q
def Hj(t:TT):TT:=fun σ H Q=>t σ H fun c H1=>Q (!c) H1
theorem Am(ha:PT X a tA):PW X (.BoolOp .And [a] pos) tA:=by
 intro wh pins s σ H Q I h
 refine isTrue_and (thn (ha pins s σ H Q I h) fun c s1 e=>?_)
 cases c with
 | true=>exact isTrue_and_nil e
 | false=>exact e
theorem yT(ha:PT X a tA):PW X (.BoolOp .Or [a] pos) tA:=by
 intro wh pins s σ H Q I h
 refine isTrue_or (thn (ha pins s σ H Q I h) fun c s1 e=>?_)
 cases c with
 | false=>exact isTrue_or_nil e
 | true=>exact e
theorem Et(ha:PT X a tA)(hb:PW X (.BoolOp .And (b::rest) pos) tB'):PW X (.BoolOp .And (a::b::rest) pos) (Hm tA tB'):=by
 intro wh pins s σ H Q I h
 refine isTrue_and (thn (ha pins s σ H _ I h) ?_)
 rintro c s1 ⟨H1,I1,q1⟩
 cases c with
 | true=>exact hb wh pins s1 σ H1 Q I1 q1
 | false=>exact⟨H1,I1,q1⟩
theorem BY(ha:PT X a tA)(hb:PW X (.BoolOp .Or (b::rest) pos) tB'):PW X (.BoolOp .Or (a::b::rest) pos) (tOr tA tB'):=by
 intro wh pins s σ H Q I h
 refine isTrue_or (thn (ha pins s σ H _ I h) ?_)
 rintro c s1 ⟨H1,I1,q1⟩
 cases c with
 | true=>exact⟨H1,I1,q1⟩
 | false=>exact hb wh pins s1 σ H1 Q I1 q1
theorem Cj(ha:PT X a tA):PT X (.UnaryOp .Not a pos) (Hj tA):=by
 intro pins s σ H Q I h
 exact isTrue_not (ha pins s σ H (fun c H1=>Q (!c) H1) I h)
noncomputable def EV(ta tb:TE):TE:=fun σ H Q=>ta σ H fun x H1=>∃ c,x=.bl c/\if c=true then tb σ H1 Q else Q (.bl false) H1
def EZ(ta:TE):TE:=fun σ H Q=>ta σ H fun x H1=>∃ c,x=.bl c/\Q (.bl (!c)) H1
theorem rn{op}{t:TE}(h:PE X a t):PE X (.BoolOp op [a] pos) t:=fun pins s σ H Q I hw=>BoolOp_one (h pins s σ H Q I hw)
theorem mz(ha:PE X a ta)(hb:PE X (.BoolOp .And (b::rest) pos) tb):PE X (.BoolOp .And (a::b::rest) pos) (EV ta tb):=by
 intro pins s σ H Q I h
 refine BoolOp_and (thn (ha pins s σ H _ I h) ?_)
 rintro v s1 ⟨x,H1,I1,r1,q1⟩
 obtain⟨c,rfl,q1⟩:=q1
 cases r1
 refine Nb ?_
 cases c with
 | true=>exact hb pins s1 σ H1 Q I1 q1
 | false=>exact⟨.bl false,H1,I1,rfl,q1⟩
theorem DR(ha:PE X a ta):PE X (.UnaryOp .Not a pos) (EZ ta):=by
 intro pins s σ H Q I h
 refine UnaryOp_ (thn (ha pins s σ H _ I h) ?_)
 rintro v s1 ⟨x,H1,I1,r1,q1⟩
 obtain⟨c,rfl,q1⟩:=q1
 cases r1
 exact not_of (Nb ⟨.bl (!c),H1,I1,rfl,q1⟩)
def tIf(t:TT)(ta tb:TE):TE:=fun σ H Q=>t σ H fun c H1=>if c=true then ta σ H1 Q else tb σ H1 Q
theorem wm{c:MB}(hc:PT X c tA)(ha:PE X a ta)(hb:PE X b tb):PE X (.IfExp c a b pos) (tIf tA ta tb):=by
 intro pins s σ H Q I h
 refine wpAny_IfExp (thn (hc pins s σ H _ I h) ?_)
 rintro d s1 ⟨H1,I1,q1⟩
 cases d with
 | true=>exact ha pins s1 σ H1 Q I1 q1
 | false=>exact hb pins s1 σ H1 Q I1 q1
end
noncomputable def SqL(K:Mk)(H:Hp)(a:Ml)(xs:List V):Prop:=
 Rd H a (.lst xs)\/
  ∃(o:Obj) (its:Array Mj) (n:Nat),K.lookup a=some o/\o.cls=.type "list"/\o.dict=none/\o.data=.seq its n/\its.size<=sizeLine/\Vals xs its.toList
noncomputable def SqT(K:Mk)(H:Hp)(a:Ml)(xs:List V):Prop:=
 Rd H a (.tup xs)\/
  ∃(o:Obj) (its:Array Mj) (n:Nat),K.lookup a=some o/\o.cls=.type "tuple"/\o.data=.seq its n/\its.size<=sizeLine/\Vals xs its.toList
noncomputable def Hu:Mj->Option V
 | .none=>some .non
 | .bool b=>some (.bl b)
 | .int i _=>some (.int i)
 | .str x _=>some (.str x)
 | .bytes b _=>some (.byt b)
 | .float b _=>some (.flt b)
 | .ref a=>some (.ref a)
 | .type n=>some (.ty n)
 | _=>none
theorem RelV.abs {x:V}{u:Mj}(r:RelV x u):Hu u=some x:=by
 cases x with
 | non=>cases r;rfl
 | bl _=>cases r;rfl
 | int _=>obtain⟨t,rfl⟩:=r;rfl
 | str _=>obtain⟨t,rfl⟩:=r;rfl
 | byt _=>obtain⟨t,rfl⟩:=r;rfl
 | flt _=>obtain⟨t,rfl⟩:=r;rfl
 | ref _=>cases r;rfl
 | ty _=>cases r;rfl
theorem RelV.inj {x y:V}{u:Mj}(r:RelV x u)(q:RelV y u):x=y:=HU (r.abs.symm.trans q.abs)
theorem Vals.inj:∀ {xs ys:List V} {us:List Mj},Vals xs us->Vals ys us->xs=ys
 | _,_,_,.nil,.nil=>rfl
 | _,_,_,.cons r t,.cons r' t'=>by rw[r.inj r',Vals.inj t t']
section
variable{X:Cx}{pins:List (Ml × Obj)}{σ:St}{H:Hp}{s:Mm}{a:Ml}{xs ys:List V}
theorem SqL.of {K:Mk}(h:H a=some (.lst xs)):SqL K H a xs:=.inl (.inl h)
theorem SqT.of {K:Mk}(h:H a=some (.tup xs)):SqT K H a xs:=.inl (.inl h)
theorem Inv.list (I:Inv X pins σ H s)(h:SqL X.K H a xs):∃ its:List Mj,Vals xs its/\PlainL s.heap a its.toArray/\xs.length<=sizeLine:=by
 rcases h with h | ⟨o,its,n,hk,hc,hd,hs,hz,r⟩
 ·obtain⟨z,its,n,r,e⟩:=h.ok I.hok
  exact⟨its,r,⟨_,n,e,rfl,rfl,rfl⟩,z⟩
 refine⟨its.toList,r,⟨o,n,I.kIn a o hk,hc,hd,by simpa using hs⟩,?_⟩
 have e:=r.length
 simp only[g_]at e
 lia
theorem Inv.tuple (I:Inv X pins σ H s)(h:SqT X.K H a xs):∃ its:List Mj,Vals xs its/\SX s.heap a its.toArray/\xs.length<=sizeLine:=by
 rcases h with h | ⟨o,its,n,hk,hc,hs,hz,r⟩
 ·obtain⟨z,its,r,p⟩:=h.ok I.hok
  exact⟨its,r,p,z⟩
 refine⟨its.toList,r,⟨o,I.kIn a o hk,hc,n,by simpa using hs⟩,?_⟩
 have e:=r.length
 simp only[g_]at e
 lia
theorem Inv.jF (I:Inv X pins σ H s)(h:SqL X.K H a xs)(h':SqL X.K H a ys):xs=ys:=by
 obtain⟨its,r,⟨o,n,e,_,_,d⟩,_⟩:=I.list h
 obtain⟨its',r',⟨o',n',e',_,_,d'⟩,_⟩:=I.list h'
 rw[e]at e';cases e'
 rw[d]at d'
 injection d' with d1 _
 have:its=its':=by simpa using congrArg L7 d1
 subst this
 exact r.inj r'
theorem Inv.d8 (I:Inv X pins σ H s)(h:SqT X.K H a xs)(h':SqT X.K H a ys):xs=ys:=by
 obtain⟨its,r,⟨o,e,_,n,d⟩,_⟩:=I.tuple h
 obtain⟨its',r',⟨o',e',_,n',d'⟩,_⟩:=I.tuple h'
 rw[e]at e';cases e'
 rw[d]at d'
 injection d' with d1 _
 have:its=its':=by simpa using congrArg L7 d1
 subst this
 exact r.inj r'
end
abbrev Cx.kD (X:Cx)(E:Mj->Mm->Prop):Cx:={ X with xe:=E }
abbrev Cx.nox (X:Cx):Cx:=X.kD fun _ _=>False
theorem Cx.Ok.kD {X:Cx}(ok:X.Ok)(E:Mj->Mm->Prop):(X.kD E).Ok:=
 ⟨ok.mod,ok.kind,ok.glob,ok.blt,ok.above,ok.inj,ok.has,ok.cab,ok.hd,ok.frames,ok.stk,ok.exf,ok.bs,ok.bsz,ok.noex,ok.exfs,ok.jx,ok.frf⟩
theorem Cx.Ok.dC {X:Cx}{E:Mj->Mm->Prop}(ok:(X.kD E).Ok):X.Ok:=
 ⟨ok.mod,ok.kind,ok.glob,ok.blt,ok.above,ok.inj,ok.has,ok.cab,ok.hd,ok.frames,ok.stk,ok.exf,ok.bs,ok.bsz,ok.noex,ok.exfs,ok.jx,ok.frf⟩
section
variable{X:Cx}{pins:List (Ml × Obj)}{σ:St}{H:Hp}{s:Mm}{E:Mj->Mm->Prop}
theorem Inv.kD (I:Inv X pins σ H s)(E:Mj->Mm->Prop):Inv (X.kD E) pins σ H s:=⟨I.ok.kD E,I.os,I.bare,I.base,I.loc,I.cell,I.free,I.freeC,I.pin,I.hok,I.len⟩
theorem Inv.dC (I:Inv (X.kD E) pins σ H s):Inv X pins σ H s:=⟨I.ok.dC,I.os,I.bare,I.base,I.loc,I.cell,I.free,I.freeC,I.pin,I.hok,I.len⟩
theorem SP.dC {D:Ends}{f:Flow}{s':Mm}(h:SP (X.kD E) pins D f s'):SP X pins D f s':=by
 cases f with
 | next=>obtain⟨σ',H',I,q⟩:=h;exact⟨σ',H',I.dC,q⟩
 | brk=>obtain⟨σ',H',I,q⟩:=h;exact⟨σ',H',I.dC,q⟩
 | cont=>obtain⟨σ',H',I,q⟩:=h;exact⟨σ',H',I.dC,q⟩
 | ret u=>obtain⟨v,σ',H',I,r,q⟩:=h;exact⟨v,σ',H',I.dC,r,q⟩
theorem PSs.nox {st:List M3}{t:TS}(h:PSs X.nox st t):PSs X st t:=fun pins s σ H D I hw=>
 MP (h pins s σ H D (I.kD _) hw) (fun _ _ q=>q.dC) fun _ _ z=>MI z
end
section
variable{X:Cx}{st:M3}{rest:List M3}{t u:TS}{e:MB}{te:TE}{pos:Pos}
def Fq:TS:=fun D σ H=>D.nx σ H
def Hi(t u:TS):TS:=fun D σ H=>t { D with nx:=u D } σ H
theorem cy:PSs X [] Fq:=fun _ _ σ H _ I h=>O6 ⟨σ,H,I,h⟩
theorem aR(h1:PS X st t)(h2:PSs X rest u):PSs X (st::rest) (Hi t u):=by
 intro pins s σ H D I h
 refine RI (thn (h1 pins s σ H { D with nx:=u D } I h) fun f s1 q=>?_)
 cases f with
 | next=>
  obtain⟨σ',H',I',q⟩:=q
  exact h2 pins s1 σ' H' D I' q
 | ret v=>exact q
 | brk=>exact q
 | cont=>exact q
theorem bY(h1:PS X st t):PSs X [st] t:=by
 intro pins s σ H D I h
 refine RI (thn (h1 pins s σ H D I h) fun f s1 q=>?_)
 cases f with
 | next=>exact O6 q
 | ret v=>exact q
 | brk=>exact q
 | cont=>exact q
theorem Inv.quiet {pins:List (Ml × Obj)}{σ:St}{H:Hp}{s:Mm}(I:Inv X pins σ H s):T9 X.env=false:=by simp[T9,I.ok.kind]
def G9(te:TE):TS:=fun D σ H=>te σ H fun _ H1=>D.nx σ H1
theorem Bq(he:PE X e te)(hs:OG e none pos.line X.env=pure false:=by rfl):PS X (.Expr e pos) (G9 te):=by
 intro pins s σ H D I h
 exact wpAny_Expr_any (thn (he pins s σ H _ I h) fun v s1 ⟨x,H1,I1,r1,q1⟩=>⟨σ,H1,I1,q1⟩) I.quiet hs
def Ht(te:TE):TS:=fun D σ H=>te σ H D.rt
theorem cW(he:PE X e te):PS X (.Return (some e) pos) (Ht te):=by
 intro pins s σ H D I h
 exact wpAny_Return_some (thn (he pins s σ H _ I h) fun v s1 ⟨x,H1,I1,r1,q1⟩=>⟨x,σ,H1,I1,r1,q1⟩)
def HC(c:TT)(t u:TS):TS:=fun D σ H=>c σ H fun b H1=>if b=true then t D σ H1 else u D σ H1
theorem fE{c:MB}{a b:List M3}{tc:TT}(hc:PT X c tc)(ha:PSs X a t)(hb:PSs X b u):PS X (.If c a b pos) (HC tc t u):=by
 intro pins s σ H D I h
 refine wpAny_If (thn (hc pins s σ H _ I h) ?_)
 rintro d s1 ⟨H1,I1,q1⟩
 cases d with
 | true=>exact ha pins s1 σ H1 D I1 q1
 | false=>exact hb pins s1 σ H1 D I1 q1
def Cr:TS:=fun _ _ _=>False
theorem vP{sts:List M3}:PSs X sts Cr:=fun _ _ _ _ _ _ h=>h.elim
end
abbrev TG:=V->St->Hp->(St->Hp->Prop)->Prop
abbrev TGs:=List V->St->Hp->(St->Hp->Prop)->Prop
noncomputable def PG(X:Cx)(target:MB)(t:TG):Prop:=
 ∀(pins:List (Ml × Obj)) (s:Mm) (σ:St) (H:Hp) (v:V) (u:Mj) (Q:St->Hp->Prop),Inv X pins σ H s->RelV v u->t v σ H Q->
  Mr (Mw X.prog X.w) X.A (OV target X.env u) (fun _ s'=>∃ σ' H',Inv X pins σ' H' s'/\Q σ' H') X.xe s
noncomputable def PGs(X:Cx)(ts:List MB)(t:TGs):Prop:=
 ∀(pins:List (Ml × Obj)) (s:Mm) (σ:St) (H:Hp) (vs:List V) (us:List Mj) (Q:St->Hp->Prop),Inv X pins σ H s->Vals vs us->t vs σ H Q->
  Mr (Mw X.prog X.w) X.A (Q2 ((NP ts X.env).map (·.2)) us) (fun _ s'=>∃ σ' H',Inv X pins σ' H' s'/\Q σ' H') X.xe s
abbrev B7:=V->V->V->Hp->(Hp->Prop)->Prop
noncomputable def qZ(X:Cx)(t:B7):Prop:=
 ∀(pins:List (Ml × Obj)) (s:Mm) (σ:St) (H:Hp) (o i v:V) (ov iv u:Mj) (Q:Hp->Prop),Inv X pins σ H s->RelV o ov->RelV i iv->RelV v u->t o i v H Q->
  Mr (Mw X.prog X.w) X.A (Sj ov iv u) (fun _ s'=>∃ H',Inv X pins σ H' s'/\Q H') X.xe s
abbrev TIp:=V->V->Hp->VK->Prop
noncomputable def PIp(X:Cx)(op:P9)(t:TIp):Prop:=
 ∀(pins:List (Ml × Obj)) (s:Mm) (σ:St) (H:Hp) (x y:V) (v u:Mj) (Q:VK),Inv X pins σ H s->RelV x v->RelV y u->t x y H Q->
  Mr (Mw X.prog X.w) X.A (inplaceOp op v u) (EP X pins σ Q) X.xe s
section
variable{X:Cx}{pos:Pos}
def su(i:Nat):TG:=fun v σ H Q=>Q (σ.set i (some v)) H
theorem j4{i:Nat}{x:Str}(hN:X.N.Nodup)(hi:X.N[i]?=some x)(hx:Loc X.env.scope x)(hf:X.fn x=true\/X.env.scope.names.lookup x=some .local:=by first | exact .inl rfl | exact .inr rfl | assumption):PG X (.Name x pos) (su i):=by
 intro pins s σ H v u Q I r h
 exact Rv (dJ I hN hi hx r (fun s' I'=>⟨_,H,I',h⟩) hf)
def HE:TGs:=fun vs σ H Q=>vs=[]/\Q σ H
def G4(t:TG)(u:TGs):TGs:=fun vs σ H Q=>∃ v r,vs=v::r/\t v σ H fun σ' H'=>u r σ' H' Q
theorem mH:PGs X [] HE:=by
 intro pins s σ H vs us Q I r h
 obtain⟨e,h⟩:=h
 subst e
 cases r
 exact Rw ⟨σ,H,I,h⟩
theorem dA{e:MB}{es:List MB}{t:TG}{u:TGs}(h1:PG X e t)(h2:PGs X es u)
  (hs:(NP (e::es) X.env).map (·.2)=OV e X.env::(NP es X.env).map (·.2):=by rfl):PGs X (e::es) (G4 t u):=by
 intro pins s σ H vs us Q I r h
 obtain⟨v,vr,e1,h⟩:=h
 subst e1
 cases r with
 | cons r rr=>
  rw[hs]
  refine Pq (thn (h1 pins s σ H _ _ _ I r h) ?_)
  rintro _ s1 ⟨σ1,H1,I1,q1⟩
  exact h2 pins s1 σ1 H1 _ _ Q I1 rr q1
def H0(K:Mk)(n:Nat)(t:TGs):TG:=fun v σ H Q=>∃ a xs,v=.ref a/\SqT K H a xs/\xs.length=n/\t xs σ H Q
theorem rj{es:List MB}{k:Nat}{t:TGs}{n:Nat}(hc:X.calm=true)(h:PGs X es t)
  (hn:(NP es X.env).length=n:=by rfl) (hst:(NP es X.env).findIdx? (·.1)=none:=by rfl):PG X (.Tuple es k pos) (H0 X.K n t):=by
 intro pins s σ H v u Q I r hw
 obtain⟨a,xs,e1,hq,hl,hw⟩:=hw
 subst e1
 cases r
 obtain⟨its,rv,ht,hz⟩:=I.tuple hq
 refine assign_Tuple_tuple (I.ok.hd hc) ht (by simp[hn,<-hl,rv.length]) hst fun h' hx=>?_
 have I1:Inv X pins σ H { s with heap:=h' }:=I.kept (t':=s.toks) fun b o e=>hx b o (u_ (Mu e)) e
 exact h pins _ σ H xs _ Q I1 (by simpa using rv) hw
noncomputable def HH(to ti:TE)(t:B7):TG:=fun v σ H Q=>to σ H fun o H1=>ti σ H1 fun i H2=>t o i v H2 fun H3=>Q σ H3
theorem yp{o i:MB}{to ti:TE}{t:B7}(ho:PE X o to)(hi:PE X i ti)(hs:qZ X t)
  (ha:∀ v,OV (.Subscript o i pos) X.env v=(do
   let ov <-OK [v] (MQ o X.env)
   let iv <-OK [v,ov] (MQ i X.env)
   Rq pos
   OK [v,ov,iv] (Sj ov iv v)
   release [v,ov,iv] []):=by intro _;rfl):PG X (.Subscript o i pos) (HH to ti t):=by
 intro pins s σ H v u Q I r h
 rw[ha]
 refine Mi (MM (thn (ho pins s σ H _ I h) ?_))
 rintro ov s1 ⟨x,H1,I1,r1,q1⟩
 refine Mi (MM (thn (hi pins s1 σ H1 _ I1 q1) ?_))
 rintro iv s2 ⟨y,H2,I2,r2,q2⟩
 refine Mi (Ox (Mi (MM (thn (hs pins s2 σ H2 x y v ov iv u _ I2 r1 r2 r q2) ?_))))
 rintro _ s3 ⟨H3,I3,q3⟩
 exact wpAny_release ⟨σ,H3,I3,q3⟩
def Bi(te:TE)(g:TG):TS:=fun D σ H=>te σ H fun x H1=>g x σ H1 D.nx
theorem wb{tg e:MB}{te:TE}{g:TG}(he:PE X e te)(hg:PG X tg g)(hs:PH [tg] e pos.line X.env=pure false:=by rfl)(hw:PJ [tg] e X.env=pure none:=by rfl)
  (h1:(NP [tg] X.env).map (·.2)=[OV tg X.env]:=by rfl):PS X (.Assign [tg] e pos) (Bi te g):=by
 intro pins s σ H D I h
 refine wpAny_Assign_stores (thn (he pins s σ H _ I h) fun v s1 ⟨x,H1,I1,r1,q1⟩=>?_) hs hw
 rw[h1]
 exact thn (hg pins s1 σ H1 x v _ I1 r1 q1) fun _ s2 q=>q
theorem dY{i:Nat}{x:Str}{e:MB}{te:TE}{pos':Pos}(hN:X.N.Nodup)(hi:X.N[i]?=some x)(hx:Loc X.env.scope x)(he:PE X e te)(hs:OG e (some (.Name x pos')) pos.line X.env=pure false:=by rfl)(hf:X.fn x=true\/X.env.scope.names.lookup x=some .local:=by first | exact .inl rfl | exact .inr rfl | assumption) :
  PS X (.Assign [.Name x pos'] e pos) (Bi te (su i)):=by
 intro pins s σ H D I h
 refine wpAny_Assign_Name (thn (he pins s σ H _ I h) fun v s1 ⟨y,H1,I1,r1,q1⟩=>?_) hs
 exact dJ I1 hN hi hx r1 (fun s2 I2=>⟨_,H1,I2,q1⟩) hf
noncomputable def Hg(i j:Nat)(ta:TA):TS:=fun D σ H=>ta σ H fun vs H1=>∃ v w,vs=[v,w]/\D.nx ((σ.set i (some v)).set j (some w)) H1
theorem CJ{i j:Nat}{x y:Str}{a b:MB}{ta:TA}{px py pt:Pos}{kt k2 pt2}(hc:X.calm=true)(hN:X.N.Nodup)(hi:X.N[i]?=some x)(hj:X.N[j]?=some y)(hij:i≠j)
  (hx:X.env.scope.names.lookup x=some .local) (hy:X.env.scope.names.lookup y=some .local) (ha:PA X [a,b] ta)
  (hw:PJ [.Tuple [.Name x px,.Name y py] kt pt] (.Tuple [a,b] k2 pt2) X.env=pure (some [x,y]))
  (hs:PH [.Tuple [.Name x px,.Name y py] kt pt] (.Tuple [a,b] k2 pt2) pos.line X.env=pure false:=by rfl) :
  PS X (.Assign [.Tuple [.Name x px,.Name y py] kt pt] (.Tuple [a,b] k2 pt2) pos) (Hg i j ta):=by
 intro pins s σ H D I h
 rw[exec_Assign_arm]
 refine Mi (Ox ?_)
 rw[hs]
 refine Mi (Mn ?_)
 rw[if_neg (by decide)]
 refine Mi (Tuple_ (thn (ha _ pins s σ H _ I h) ?_))
 rintro us s1 ⟨vs,H1,I1,r1,q1⟩
 obtain⟨v,w,e1,q1⟩:=q1
 subst e1
 obtain⟨u1,u2,rfl,rv,rw'⟩:∃ u1 u2,us=[u1,u2]/\RelV v u1/\RelV w u2:=by
  cases r1 with
  | cons p q=>
   cases q with
   | cons p' q'=>
    cases q'
    exact⟨_,_,rfl,p,p'⟩
 refine ML ?_ (by show 2<=sizeLine;decide)
 have I2:Inv X pins σ H1 { s1 with heap:=s1.heap.push { cls:=.type "tuple",data:=.seq [u1,u2].toArray } }:=I1.kept (t':=s1.toks) fun b o e=>Mo _ e
 rw[hw]
 refine Mi (Mn ?_)
 show Mr (Mw X.prog X.w) X.A (do rule "assign.swapped-stores";let items <-unpackItems (.ref s1.heap.objs.size) 2 none;Q2 [fun v=>RJ X.env y v,fun v=>RJ X.env x v] items.reverse;pure Uw) _ _ _
 refine Mi (NQ (Mi (unpackItems_tuple (items:=#[u1,u2]) (I.ok.hd hc) (Q9 s1.heap _) fun h' hx'=>?_)))
 have I3:=I2.kept (h':=h') (t':=s1.toks) fun b o e=>hx' b o (u_ (Mu e)) e
 show Mr _ _ (Q2 [fun v=>RJ X.env y v,fun v=>RJ X.env x v] [u2,u1] >>= fun _=>pure Uw) _ _ _
 refine Mi (Pq (Sl (dJ I3 hN hj (.inl hy) rw' (fun s2 I4=>?_) (.inr hy))))
 refine Pq (Sl (dJ I4 hN hi (.inl hx) rv (fun s3 I5=>Rw (Mn ?_)) (.inr hx)))
 rw[List.set_comm _ _ (N4 hij)]at I5
 exact⟨_,H1,I5,q1⟩
noncomputable def Ho(i:Nat)(te:TE)(ti:TIp):TS:=fun D σ H=>∃ x,σ[i]?=some (some x)/\te σ H fun y H1=>ti x y H1 fun z H2=>D.nx (σ.set i (some z)) H2
theorem El{i:Nat}{x:Str}{e:MB}{te:TE}{op:P9}{ti:TIp}{pos':Pos}(hN:X.N.Nodup)(hi:X.N[i]?=some x)(hx:Loc X.env.scope x)(he:PE X e te)(ho:PIp X op ti)(hf:X.fn x=true\/X.env.scope.names.lookup x=some .local:=by first | exact .inl rfl | exact .inr rfl | assumption) :
  PS X (.AugAssign (.Name x pos') op e pos) (Ho i te ti):=by
 intro pins s σ H D I h
 obtain⟨v,e1,h⟩:=h
 obtain⟨m,hn,hl⟩:=I.loc
 have vis:Vis X.env.scope x:=by rcases hx with k | k;exact .inl k;exact .inr (.inl k)
 obtain⟨u,r,l⟩:=hl i x v hi e1 vis
 refine wpAny_AugAssign_Name ?_
 have go:Mr (Mw X.prog X.w) X.A (MQ e X.env) (fun w s₂=>Mr (Mw X.prog X.w) X.A (inplaceOp op u w) (fun r s₃=>Mr (Mw X.prog X.w) X.A (Sz X.env x r) (fun _=>SP X pins D .next) X.xe s₃) X.xe s₂) X.xe s:=by
  refine thn (he pins s σ H _ I h) ?_
  rintro w s1 ⟨y,H1,I1,r1,q1⟩
  refine thn (ho pins s1 σ H1 v y u w _ I1 r r1 q1) ?_
  rintro z s2 ⟨zv,H2,I2,r2,q2⟩
  exact dJ I2 hN hi hx r2 (fun s3 I3=>⟨_,H2,I3,q2⟩) hf
 rcases l with⟨hk,hm⟩ | ⟨hk,c,hc,hcell⟩
 ·exact QR I.ok.kind hk hn hm go
 rcases hk with hk | hk
 ·exact Q6 I.ok.kind hk hc hcell go
 rcases hx with k | k
 ·have:X.env.scope.names.lookup x=some .free:=hk
  rw[k]at this;cases this
 have:X.env.scope.names.lookup x=some .free:=hk
 rw[k]at this;cases this
def ipI(f:Int->Int->Int):TIp:=fun x y H Q=>∃ i j,x=.int i/\y=.int j/\Q (.int (f i j)) H
theorem Cm:PIp X .Add (ipI fun i j=>i + j):=by
 intro pins s σ H x y v u Q I r1 r2 h
 obtain⟨i,j,e1,e2,q⟩:=h
 subst e1;subst e2
 obtain⟨t,rfl⟩:=r1
 obtain⟨t',rfl⟩:=r2
 exact iadd_int ⟨.int _,H,I.tok _,⟨_,rfl⟩,q⟩
end
section
variable{X:Cx}{pos:Pos}
noncomputable def D8(c:TT)(tb:TS):TS:=fun D σ H=>∃ W:Nat->St->Hp->Prop,(∃ m,W m σ H)/\∀ m σ H,W m σ H->
 c σ H fun b H1=>if b=true then ∃ N:St->Hp->Prop,(∀ σ' H',N σ' H'->∃ m',m' < m/\W m' σ' H')/\tb { D with nx:=N,ct:=N,bk:=D.nx } σ H1 else D.nx σ H1
theorem zd{c:MB}{body:List M3}{tc:TT}{tb:TS}(hp:Q_ (Mw X.prog X.w) X.A X.env X.xe)(hc:PT X c tc)(hb:PSs X body tb):PS X (.While c body [] pos) (D8 tc tb):=by
 intro pins s σ H D I h
 obtain⟨W,⟨m0,w0⟩,turn⟩:=h
 refine wpAny_While (codeAny_whileLoop (fun n s'=>∃ σ' H',Inv X pins σ' H' s'/\W n σ' H') ?_ m0 ⟨σ,H,I,w0⟩)
 rintro n s1 ⟨σ1,H1,I1,w1⟩
 refine NW hp (thn (hc pins s1 σ1 H1 _ I1 (turn n σ1 H1 w1)) ?_)
 rintro b s2 ⟨H2,I2,q2⟩
 cases b with
 | true=>
  obtain⟨N,hN,q2⟩:=q2
  rw[if_pos rfl]
  refine NW hp (thn (hb pins s2 σ1 H2 _ I2 q2) fun f s3 q3=>?_)
  cases f with
  | next=>
   obtain⟨σ3,H3,I3,n3⟩:=q3
   obtain⟨m',hm,w3⟩:=hN σ3 H3 n3
   exact⟨m',hm,σ3,H3,I3,w3⟩
  | cont=>
   obtain⟨σ3,H3,I3,n3⟩:=q3
   obtain⟨m',hm,w3⟩:=hN σ3 H3 n3
   exact⟨m',hm,σ3,H3,I3,w3⟩
  | brk=>exact q3
  | ret v=>exact q3
 | false=>
  rw[if_neg B_]
  exact O6 ⟨σ1,H2,I2,q2⟩
end
structure It where
 go:Nat->Hp->Prop
 yld:Nat->Hp->V->Hp->Prop
 stop:Nat->Hp->Prop
noncomputable def fX(X:Cx)(pins:List (Ml × Obj))(H:Hp)(b:Ml):Prop:=
 H b=none/\b≠X.env.locals/\b ∉ X.fs/\(b∈X.ex\/X.s₀.heap.objs.size<=b)/\(∀ x c,X.env.cells.lookup x=some c->c≠b)/\∀ p∈X.pn++pins,p.1≠b
theorem Inv.vy {X:Cx}{pins:List (Ml × Obj)}{σ:St}{H H':Hp}{s:Mm}{b:Ml}(I:Inv X pins σ H s)(hb:s.heap.objs.size<=b)(hn:H' b=none):fX X pins H' b:=by
 refine⟨hn,Jk (x_ I.lt hb),I.Ha hb,.inr (v_ I.sz hb),fun x c e z=>?_,fun p hp z=>?_⟩
 ·obtain⟨v,q⟩:=I.cell x c e
  exact absurd (x_ q.lt (by rw[z];exact hb)) (IX _)
 exact absurd (x_ (Mu (I.pin p hp).1) (by rw[z];exact hb)) (IX _)
structure Turn (P:MA) (w:MC) (K:Mk) (tg:MB) (J:It) (fp:List Ml) (it:Ml) (tn:Nat->MD->Prop):Prop where
 mem:it∈fp
 obj:∀ i h,tn i h->∀ b∈fp,∃ o,h.get? b=some o/\∀ v,o.data≠.cell v
 keep:∀ i h h',tn i h->(∀ b∈fp,∀ o,h.get? b=some o->h'.get? b=some o)->tn i h'
 item:∀(X:Cx),X.prog=P->X.w=w->X.K=K->X.calm=true->∀(i:Nat) (pins:List (Ml × Obj)) (s:Mm) (σ:St) (H:Hp) (E:Mj->Mm->Prop),Inv X pins σ H s->(∀ b∈fp,fX X pins H b)->tn i s.heap->J.go i H->
  Mr (Mw P w) X.A (NZ (.ref it)) (fun r s1=>∃ u,r=some u/\
   Mr (Mw P w) X.A (O7 tg (.ref it) u) (fun _ s2=>∃ x H',Inv X pins σ H' s2/\RelV x u/\J.yld i H x H'/\tn (i + 1) s2.heap/\∀ b∈fp,H' b=none) E s1) E s
 done:∀(X:Cx),X.prog=P->X.w=w->X.K=K->X.calm=true->∀(i:Nat) (pins:List (Ml × Obj)) (s:Mm) (σ:St) (H:Hp) (E:Mj->Mm->Prop),Inv X pins σ H s->(∀ b∈fp,fX X pins H b)->tn i s.heap->J.stop i H->
  Mr (Mw P w) X.A (NZ (.ref it)) (fun r s1=>r=none/\Inv X pins σ H s1) E s
 self:∀(A:MJ) (i:Nat) (s:Mm) (Q:Mj->Mm->Prop) (E:Mj->Mm->Prop),tn i s.heap->Q (.ref it) s->Mr (Mw P w) A (Pu (.ref it)) Q E s
abbrev TI:=St->Hp->(It->Hp->Prop)->Prop
noncomputable def PIE(X:Cx)(pins:List (Ml × Obj))(σ:St)(tg:MB)(R:It->Hp->Prop)(itv:Mj)(s2:Mm):Prop:=
 ∃(it:Ml) (fp:List Ml) (tn:Nat->MD->Prop) (J:It) (H':Hp),itv=.ref it/\Inv X pins σ H' s2/\Turn X.prog X.w X.K tg J fp it tn/\tn 0 s2.heap/\(∀ b∈fp,fX X pins H' b)/\R J H'
noncomputable def PI(X:Cx)(tg iter:MB)(wi:TI):Prop:=
 ∀(pins:List (Ml × Obj)) (s:Mm) (σ:St) (H:Hp) (R:It->Hp->Prop),Inv X pins σ H s->wi σ H R->
  Mr (Mw X.prog X.w) X.A (MQ iter X.env) (fun v s1=>Mr (Mw X.prog X.w) X.A (Pu v) (PIE X pins σ tg R) X.xe s1) X.xe s
theorem xa{M:Om}{A:MJ}{E:Mj->Mm->Prop}{s:Mm}{tg:MB}{it:Ml}{u:Mj}{o:Obj}{n:String}{vs:Array Mj}{Q:Unit->Mm->Prop}(ho:s.heap.get? it=some o)(hc:o.cls=.type n)(hd:o.data=.fields vs)
    (hn:["enumerate","zip","dict_itemiterator","dict_reverseitemiterator","odict_iterator","itertools.zip_longest","itertools.pairwise"].contains n=false) (hQ:Q () s):Mr M A (O7 tg (.ref it) u) Q E s:=by
  unfold O7
  cases tg <;> first
    | exact Mn hQ
    | (cases u <;> first
        | exact Mn hQ
        | (refine Mi (QS ho ?_)
           rw[hc,hd]
           show Mr M A (if(["enumerate","zip","dict_itemiterator","dict_reverseitemiterator","odict_iterator","itertools.zip_longest","itertools.pairwise"].contains n && vs[0]? == some (Nm _))=true then _ else _) Q E s
           rw[if_neg (by intro h;rw[hn,Bool.false_and]at h;cases h)]
           exact Mn hQ))
noncomputable def Itl(K:Mk)(a:Ml):It:=
 ⟨fun i H=>∃ xs x,SqL K H a xs/\xs[i]?=some x,fun i H x H'=>H'=H/\∀ xs,SqL K H a xs->xs[i]?=some x,fun i H=>∃ xs,SqL K H a xs/\xs.length<=i⟩
noncomputable def Itt(K:Mk)(a:Ml):It:=
 ⟨fun i H=>∃ xs x,SqT K H a xs/\xs[i]?=some x,fun i H x H'=>H'=H/\∀ xs,SqT K H a xs->xs[i]?=some x,fun i H=>∃ xs,SqT K H a xs/\xs.length<=i⟩
def Itr(lo:Int)(n:Nat):It:=⟨fun i _=>i < n,fun i H x H'=>H'=H/\x=.int (lo + i),fun i _=>n<=i⟩
theorem vq{P:MA}{w:MC}{K:Mk}{tg:MB}(a it:Ml):Turn P w K tg (Itl K a) [it] it (fun i h=>h.IsListIter it a i) where
 mem:=by simp
 obj:=fun i h st b hb=>by
  have e:b=it:=by simpa using hb
  subst e
  obtain⟨o,e,c,d⟩:=st
  exact⟨o,e,fun v z=>by rw[d]at z;cases z⟩
 keep:=fun i h h' st k=>st.at fun o e=>k it (by simp) o e
 item:=by
  intro X hP hw hK hc i pins s σ H E I hf st hg
  subst hP hw hK
  obtain⟨xs,x,hq,hx⟩:=hg
  obtain⟨its,rv,p,hz⟩:=I.list hq
  obtain⟨u,hu,ru⟩:=rv.get hx
  obtain⟨f0,f1,f2,f3,f4,f5⟩:=hf it (by simp)
  refine wpAny_pyNext_list_item st p.isList (x:=u) (by simpa using hu) fun h' st' sb=>?_
  have I1:Inv X pins σ H { s with heap:=h' }:=I.turned (t':=s.toks) (fun b o hb e=>(sb.2 b hb).trans e) f0 f1 f3 f4 f5
  obtain⟨o,e,c,d⟩:=id st'
  exact⟨u,rfl,xa (s:={ s with heap:=h' }) e c d (by decide) ⟨x,H,I1,ru,⟨rfl,fun ys hy=>by rw[I.jF hy hq];exact hx⟩,st',fun b hb=>(hf b hb).1⟩⟩
 done:=by
  intro X hP hw hK hc i pins s σ H E I hf st hg
  subst hP hw hK
  obtain⟨xs,hq,hx⟩:=hg
  obtain⟨its,rv,p,hz⟩:=I.list hq
  obtain⟨f0,f1,f2,f3,f4,f5⟩:=hf it (by simp)
  have hl:=rv.length
  exact wpAny_pyNext_list_end (I.ok.hd hc) st p.isList (by simp;lia) fun h' eb=>⟨rfl,I.turned (t':=s.toks) (fun b o hb e=>eb b o hb e) f0 f1 f3 f4 f5⟩
 self:=fun _ _ _ _ _ st h=>wpAny_pyIter_listiter st h
theorem rF{P:MA}{w:MC}{K:Mk}{tg:MB}(a it:Ml):Turn P w K tg (Itt K a) [it] it (fun i h=>h.IsTupleIter it a i) where
 mem:=by simp
 obj:=fun i h st b hb=>by
  have e:b=it:=by simpa using hb
  subst e
  obtain⟨o,e,c,d⟩:=st
  exact⟨o,e,fun v z=>by rw[d]at z;cases z⟩
 keep:=fun i h h' st k=>st.at fun o e=>k it (by simp) o e
 item:=by
  intro X hP hw hK hc i pins s σ H E I hf st hg
  subst hP hw hK
  obtain⟨xs,x,hq,hx⟩:=hg
  obtain⟨its,rv,p,hz⟩:=I.tuple hq
  obtain⟨u,hu,ru⟩:=rv.get hx
  obtain⟨f0,f1,f2,f3,f4,f5⟩:=hf it (by simp)
  refine wpAny_pyNext_tuple_item st (show s.heap.IsTuple a its.toArray from p) (x:=u) (by simpa using hu) fun h' st' sb=>?_
  have I1:Inv X pins σ H { s with heap:=h' }:=I.turned (t':=s.toks) (fun b o hb e=>(sb.2 b hb).trans e) f0 f1 f3 f4 f5
  obtain⟨o,e,c,d⟩:=id st'
  exact⟨u,rfl,xa (s:={ s with heap:=h' }) e c d (by decide) ⟨x,H,I1,ru,⟨rfl,fun ys hy=>by rw[I.d8 hy hq];exact hx⟩,st',fun b hb=>(hf b hb).1⟩⟩
 done:=by
  intro X hP hw hK hc i pins s σ H E I hf st hg
  subst hP hw hK
  obtain⟨xs,hq,hx⟩:=hg
  obtain⟨its,rv,p,hz⟩:=I.tuple hq
  obtain⟨f0,f1,f2,f3,f4,f5⟩:=hf it (by simp)
  have hl:=rv.length
  exact wpAny_pyNext_tuple_end (I.ok.hd hc) st (show s.heap.IsTuple a its.toArray from p) (by simp;lia) fun h' eb=>⟨rfl,I.turned (t':=s.toks) (fun b o hb e=>eb b o hb e) f0 f1 f3 f4 f5⟩
 self:=fun _ _ _ _ _ st h=>wpAny_pyIter_tupleiter st h
theorem qm{P:MA}{w:MC}{K:Mk}{tg:MB}(it:Ml)(lo:Int)(n:Nat):Turn P w K tg (Itr lo n) [it] it (fun i h=>T_ h it (lo + (i:Nat) * 1) ((n:Int) - (i:Nat)) 1) where
 mem:=by simp
 obj:=fun i h st b hb=>by
  have e:b=it:=by simpa using hb
  subst e
  exact⟨_,st,fun v z=>by
   have z':T' _=Ra v:=z
   cases z'⟩
 keep:=fun i h h' st k=>k it (by simp) _ st
 item:=by
  intro X hP hw hK hc i pins s σ H E I hf st hg
  subst hP hw hK
  obtain⟨f0,f1,f2,f3,f4,f5⟩:=hf it (by simp)
  have W:=Walks.range (prog:=X.prog) (w:=X.w) (I.ok.hd hc) it lo 1 n
  refine W.item i s _ _ hg st fun v h' tk hv st' kk=>?_
  obtain⟨t,rfl⟩:=hv
  have I1:Inv X pins σ H { s with heap:=h',toks:=tk }:=I.turned (fun b o hb e=>kk b o (by simpa using hb) e) f0 f1 f3 f4 f5
  refine⟨_,rfl,xa (s:={ s with heap:=h',toks:=tk }) (n:="range_iterator") st' rfl rfl (by decide) ⟨.int (lo + i),H,I1,⟨t,?_⟩,⟨rfl,rfl⟩,st',fun b hb=>(hf b hb).1⟩⟩
  rw[Iu]
 done:=by
  intro X hP hw hK hc i pins s σ H E I hf st hg
  subst hP hw hK
  obtain⟨f0,f1,f2,f3,f4,f5⟩:=hf it (by simp)
  exact wpAny_pyNext_range_end (I.ok.hd hc) st (by have:n<=i:=hg;lia) fun h' eb=>⟨rfl,I.turned (t':=s.toks) (fun b o hb e=>eb b o hb e) f0 f1 f3 f4 f5⟩
 self:=fun _ _ _ _ _ st h=>wpAny_pyIter_rangeiter st h
section
variable{X:Cx}{tg:MB}
theorem oN{pins:List (Ml × Obj)}{σ:St}{H:Hp}{s:Mm}{R:It->Hp->Prop}{E:Mj->Mm->Prop}{lo hi:Int}{t u v:Tok}{tk:Nat}(I:Inv X pins σ H s)(h1:-(2 ^ 62)<=lo)(h2:lo < 2 ^ 62)(h3:-(2 ^ 62)<=hi)(h4:hi < 2 ^ 62)
  (q:R (Itr lo (hi - lo).toNat) H):Mr (Mw X.prog X.w) X.A (Pu (.ref s.heap.objs.size)) (PIE X pins σ tg R) E { s with heap:=s.heap.push { cls:=.type "range",data:=.fields #[.int lo t,.int hi u,.int 1 v] },toks:=tk }:=by
 refine wpAny_pyIter_range (Ua ..) (small_one h1 h2 h3 h4) ?_
 have I1:Inv X pins σ H { s with heap:=s.heap.push { cls:=.type "range",data:=.fields #[.int lo t,.int hi u,.int 1 v] },toks:=tk }:=I.kept fun b o e=>Mo _ e
 refine⟨(s.heap.push { cls:=.type "range",data:=.fields #[.int lo t,.int hi u,.int 1 v] }).objs.size,[(s.heap.push { cls:=.type "range",data:=.fields #[.int lo t,.int hi u,.int 1 v] }).objs.size],_,_,H,rfl,
  I1.kept (t':=tk) fun b o e=>Mo _ e,qm _ lo (hi - lo).toNat,?_,fun b hb=>?_,q⟩
 ·have e1:lo + ((0:Nat):Int) * 1=lo:=by simp
  have e2:(((hi - lo).toNat:Nat):Int) - ((0:Nat):Int)=T3 lo hi 1:=by rw[rangeSize_one];split <;> lia
  show T_ _ _ (lo + ((0:Nat):Int) * 1) ((((hi - lo).toNat:Nat):Int) - ((0:Nat):Int)) 1
  rw[e1,e2]
  exact Mt _ rfl
 have e:b=(s.heap.push { cls:=.type "range",data:=.fields #[.int lo t,.int hi u,.int 1 v] }).objs.size:=by simpa using hb
 subst e
 exact I1.vy (f_ _) (I1.hok.fresh (f_ _))
noncomputable def EK(ta:TA):TI:=fun σ H R=>ta σ H fun vs H1=>∃ j:Int,vs=[.int j]/\-(2 ^ 62)<=j/\j < 2 ^ 62/\R (Itr 0 j.toNat) H1
noncomputable def Fb(ta:TA):TI:=fun σ H R=>ta σ H fun vs H1=>∃ i j:Int,vs=[.int i,.int j]/\(-(2 ^ 62)<=i/\i < 2 ^ 62/\-(2 ^ 62)<=j/\j < 2 ^ 62)/\R (Itr i (j - i).toNat) H1
theorem vJ{a:MB}{ta:TA}{p pos:Pos}(hg:Gl X "range")(hm:X.mg "range"=none)(ha:PA X [a] ta)(hs:ME [a] X.env=[(false,MQ a X.env)]:=by rfl):PI X tg (.Call (.Name "range" p) [a] [] pos) (EK ta):=by
 intro pins s σ H R I h
 refine Call_ (cL I hg hm RW (NS (thn (ha pos pins s σ H _ I h) fun us s1 ⟨vs,H1,I1,r1,q1⟩=>?_) hs rfl))
 obtain⟨j,e,q1,q2,q⟩:=q1
 subst e
 cases r1 with
 | cons r rr=>
  cases rr
  obtain⟨t,rfl⟩:=r
  exact call_range_1 (oN I1 (by lia) (by lia) q1 q2 (by simpa using q))
theorem uP{a b:MB}{ta:TA}{p pos:Pos}(hg:Gl X "range")(hm:X.mg "range"=none)(ha:PA X [a,b] ta)(hs:ME [a,b] X.env=[(false,MQ a X.env),(false,MQ b X.env)]:=by rfl)(hs2:ME [b] X.env=[(false,MQ b X.env)]:=by rfl) :
  PI X tg (.Call (.Name "range" p) [a,b] [] pos) (Fb ta):=by
 intro pins s σ H R I h
 refine Call_ (cL I hg hm RW (NS (thn (ha pos pins s σ H _ I h) fun us s1 ⟨vs,H1,I1,r1,q1⟩=>?_) (by rw[hs,hs2]) (by rw[hs2];rfl)))
 obtain⟨i,j,e,⟨q1,q2,q3,q4⟩,q⟩:=q1
 subst e
 cases r1 with
 | cons r rr=>
  cases rr with
  | cons r' rr=>
   cases rr
   obtain⟨t,rfl⟩:=r
   obtain⟨t',rfl⟩:=r'
   exact Ti (oN I1 q1 q2 q3 q4 q)
noncomputable def Hw(wi:TI)(g:TG)(tb:TS):TS:=fun D σ H=>wi σ H fun J H1=>∃ W:Nat->Nat->St->Hp->Prop,(∃ m,W 0 m σ H1)/\∀ i m σ H,W i m σ H->
 (J.stop i H/\D.nx σ H)\/(J.go i H/\∃ N:St->Hp->Prop,(∀ σ' H',N σ' H'->∃ m',m' < m/\W (i + 1) m' σ' H')/\∀ x H',J.yld i H x H'->g x σ H' fun σ2 H2=>tb { D with nx:=N,ct:=N,bk:=D.nx } σ2 H2)
def i6(fp:List Ml)(h:MD):List (Ml × Obj):=fp.filterMap fun b=>(h.get? b).map fun o=>(b,o)
theorem cc{fp:List Ml}{h:MD}{b:Ml}{o:Obj}(hb:b∈fp)(e:h.get? b=some o):(b,o)∈i6 fp h:=Ls.mpr ⟨b,hb,by rw[e];rfl⟩
theorem uK{fp:List Ml}{h:MD}{p:Ml × Obj}(hp:p∈i6 fp h):p.1∈fp/\h.get? p.1=some p.2:=by
 obtain⟨b,hb,e⟩:=Ls.mp hp
 cases q:h.get? b with
 | none=>rw[q]at e;cases e
 | some o=>
  rw[q]at e
  have e':(b,o)=p:=HU e
  subst e'
  exact⟨hb,q⟩
theorem Inv.pinned {pins:List (Ml × Obj)}{σ:St}{H:Hp}{s:Mm}{fp:List Ml}(I:Inv X pins σ H s)(hf:∀ b∈fp,fX X pins H b)(ho:∀ b∈fp,∃ o,s.heap.get? b=some o/\∀ v,o.data≠.cell v):Inv X (pins++i6 fp s.heap) σ H s:=
 I.sR fun p hp=>(z_.mp hp).elim (fun z=>I.pin p (n_ _ z)) fun z=>by
  obtain⟨hb,e⟩:=uK z
  obtain⟨f0,f1,f2,_⟩:=hf p.1 hb
  obtain⟨o,e',d⟩:=ho p.1 hb
  rw[e]at e';cases e'
  exact⟨e,f0,f1,f2,d⟩
theorem Inv.dy {pins pl:List (Ml × Obj)}{σ:St}{H:Hp}{s:Mm}(I:Inv X (pins++pl) σ H s):Inv X pins σ H s:=I.sR fun p hp=>I.pin p (n_ _ (w_ _ hp))
theorem Eb{iter:MB}{body:List M3}{wi:TI}{g:TG}{tb:TS}{pos:Pos}(hp:Q_ (Mw X.prog X.w) X.A X.env X.xe)(hc:X.calm=true)(hi:PI X tg iter wi)(hg:PG X tg g)(hb:PSs X body tb)
  (hs:∀ x,Nd iter X.env x=pure x:=by intro _;rfl):PS X (.For tg iter body [] pos) (Hw wi g tb):=by
 intro pins s σ H D I h
 refine wpAny_For (thn (hi pins s σ H _ I h) fun v s1 h1=>thn h1 fun itv s2 h2=>?_) hs
 obtain⟨it,fp,tn,J,H2,e,I2,T,st2,f2,W,⟨m0,w0⟩,turn⟩:=h2
 subst e
 have stat:∀ {H':Hp},(∀ b∈fp,H' b=none)->∀ b∈fp,fX X pins H' b:=fun hn b hb=>⟨hn b hb,(f2 b hb).2⟩
 refine codeAny_forLoop_any (fun n s'=>∃ i σ' H',Inv X pins σ' H' s'/\tn i s'.heap/\(∀ b∈fp,H' b=none)/\W i n σ' H') ?_ m0 ⟨0,σ,H2,I2,st2,fun b hb=>(f2 b hb).1,w0⟩
 rintro n s3 ⟨i,σ3,H3,I3,st3,fr3,w3⟩
 rcases turn i n σ3 H3 w3 with⟨stop,qn⟩ | ⟨go,N,hN,step⟩
 ·refine NW hp (thn (T.done X rfl rfl rfl hc i pins s3 σ3 H3 X.xe I3 (stat fr3) st3 stop) ?_)
  rintro r s4 ⟨hr,I4⟩
  subst hr
  exact O6 ⟨σ3,H3,I4,qn⟩
 refine NW hp (thn (T.item X rfl rfl rfl hc i pins s3 σ3 H3 X.xe I3 (stat fr3) st3 go) ?_)
 rintro r s4 ⟨u,hr,h4⟩
 subst hr
 refine NW hp (thn h4 ?_)
 rintro _ s5 ⟨x,H5,I5,r5,y5,st5,fr5⟩
 have I5':=I5.pinned (stat fr5) (T.obj _ _ st5)
 refine NW hp (thn (hg _ s5 σ3 H5 x u _ I5' r5 (step x H5 y5)) ?_)
 rintro _ s6 ⟨σ6,H6,I6,q6⟩
 refine NW hp (thn (hb _ s6 σ6 H6 _ I6 q6) fun f s7 q7=>?_)
 have again:∀ {σ7:St} {H7:Hp},Inv X (pins++i6 fp s5.heap) σ7 H7 s7->N σ7 H7->∃ m,m < n/\∃ i σ' H',Inv X pins σ' H' s7/\tn i s7.heap/\(∀ b∈fp,H' b=none)/\W i m σ' H':=fun{σ7 H7} I7 n7=>by
  obtain⟨m',hm,w7⟩:=hN σ7 H7 n7
  refine⟨m',hm,i + 1,σ7,H7,I7.dy,T.keep _ _ _ st5 fun b hb o e=>(I7.pin (b,o) (n_ _ (n_ _ (cc hb e)))).1,fun b hb=>?_,w7⟩
  obtain⟨o,e,d⟩:=T.obj _ _ st5 b hb
  exact(I7.pin (b,o) (n_ _ (n_ _ (cc hb e)))).2.1
 cases f with
 | next=>obtain⟨σ7,H7,I7,n7⟩:=q7;exact again I7 n7
 | cont=>obtain⟨σ7,H7,I7,n7⟩:=q7;exact again I7 n7
 | brk=>obtain⟨σ7,H7,I7,q7⟩:=q7;exact⟨σ7,H7,I7.dy,q7⟩
 | ret v=>obtain⟨x7,σ7,H7,I7,r7,q7⟩:=q7;exact⟨x7,σ7,H7,I7.dy,r7,q7⟩
end
abbrev R2:=V->V->Hp->VK->Prop
noncomputable def OpR(X:Cx)(f:Mj->Mj->Sem Mj)(r:R2):Prop:=
 ∀(pins:List (Ml × Obj)) (s:Mm) (σ:St) (H:Hp) (x y:V) (v u:Mj) (Q:VK),Inv X pins σ H s->RelV x v->RelV y u->r x y H Q->
  Mr (Mw X.prog X.w) X.A (f v u) (EP X pins σ Q) X.xe s
noncomputable def UnR(X:Cx)(f:Mj->Sem Mj)(r:V->Hp->VK->Prop):Prop:=
 ∀(pins:List (Ml × Obj)) (s:Mm) (σ:St) (H:Hp) (x:V) (v:Mj) (Q:VK),Inv X pins σ H s->RelV x v->r x H Q->
  Mr (Mw X.prog X.w) X.A (f v) (EP X pins σ Q) X.xe s
noncomputable def bA(X:Cx)(f:Mj)(r:List V->Hp->VK->Prop):Prop:=
 ∀(pins:List (Ml × Obj)) (s:Mm) (σ:St) (H:Hp) (xs:List V) (us:List Mj) (Q:VK),Inv X pins σ H s->Vals xs us->r xs H Q->
  Mr (Mw X.prog X.w) X.A (call f us) (EP X pins σ Q) X.xe s
noncomputable def Hq(X:Cx)(r:V->Hp->(Bool->Hp->Prop)->Prop):Prop:=
 ∀(pins:List (Ml × Obj)) (s:Mm) (σ:St) (H:Hp) (x:V) (v:Mj) (Q:Bool->Hp->Prop),Inv X pins σ H s->RelV x v->r x H Q->
  Mr (Mw X.prog X.w) X.A (Tf v) (TP X pins σ Q) X.xe s
def tOp(r:R2)(ta tb:TE):TE:=fun σ H Q=>ta σ H fun x H1=>tb σ H1 fun y H2=>r x y H2 Q
def tUn(r:V->Hp->VK->Prop)(ta:TE):TE:=fun σ H Q=>ta σ H fun x H1=>r x H1 Q
noncomputable def rI(C:Int->Int->Prop)(g:Int->Int->V):R2:=fun x y H Q=>∃ i j,x=.int i/\y=.int j/\C i j/\Q (g i j) H
def rI0(g:Int->Int->V):R2:=fun x y H Q=>∃ i j,x=.int i/\y=.int j/\Q (g i j) H
def rU(g:Int->V):V->Hp->VK->Prop:=fun x H Q=>∃ i,x=.int i/\Q (g i) H
section
variable{X:Cx}{a b c:MB}{ta tb tc:TE}{pos:Pos}
theorem DM(ha:PE X a ta)(hb:PE X b tb){pins:List (Ml × Obj)}{s:Mm}{σ:St}{H:Hp}{R:V->V->Hp->Prop}(I:Inv X pins σ H s)
  (h:ta σ H fun x H1=>tb σ H1 fun y H2=>R x y H2) {Q:Mj->Mm->Prop} {f:Mj->Mj->Sem Mj}
  (hf:∀ v u s2 x y H2,Inv X pins σ H2 s2->RelV x v->RelV y u->R x y H2->Mr (Mw X.prog X.w) X.A (f v u) Q X.xe s2) :
  Mr (Mw X.prog X.w) X.A (MQ a X.env) (fun v s₁=>Mr (Mw X.prog X.w) X.A (MQ b X.env) (fun u s₂=>Mr (Mw X.prog X.w) X.A (f v u) Q X.xe s₂) X.xe s₁) X.xe s:=by
 refine thn (ha pins s σ H _ I h) ?_
 rintro v s1 ⟨x,H1,I1,r1,q1⟩
 refine thn (hb pins s1 σ H1 _ I1 q1) ?_
 rintro u s2 ⟨y,H2,I2,r2,q2⟩
 exact hf v u s2 x y H2 I2 r1 r2 q2
theorem bU{op:P9}{r:R2}(ho:OpR X (Nn op) r)(ha:PE X a ta)(hb:PE X b tb):PE X (.BinOp a op b pos) (tOp r ta tb):=by
 intro pins s σ H Q I h
 exact wpAny_BinOp (DM ha hb I h fun v u s2 x y H2 I2 rx ry q=>ho pins s2 σ H2 x y v u Q I2 rx ry q)
theorem Gh{op:UnaryOp}{r:V->Hp->VK->Prop}(ho:UnR X (unaryOp op) r)(ha:PE X a ta):PE X (.UnaryOp op a pos) (tUn r ta):=by
 intro pins s σ H Q I h
 exact UnaryOp_ (thn (ha pins s σ H _ I h) fun v s1 ⟨x,H1,I1,r1,q1⟩=>ho pins s1 σ H1 x v Q I1 r1 q1)
theorem opI{f:Mj->Mj->Sem Mj}{C:Int->Int->Prop}{g:Int->Int->Int}
  (rule:∀(i j:Int) (t u:Tok) (s:Mm) (Q:Mj->Mm->Prop) (E:Mj->Mm->Prop),C i j->Q (.int (g i j) s.toks) { s with toks:=s.toks + 1 }->Mr (Mw X.prog X.w) X.A (f (.int i t) (.int j u)) Q E s) :
  OpR X f (rI C fun i j=>.int (g i j)):=by
 intro pins s σ H x y v u Q I rx ry h
 obtain⟨i,j,rfl,rfl,hc,q⟩:=h
 obtain⟨t,rfl⟩:=rx
 obtain⟨t',rfl⟩:=ry
 exact rule i j t t' s _ _ hc ⟨.int (g i j),H,I.tok _,⟨_,rfl⟩,q⟩
theorem GH{f:Mj->Mj->Sem Mj}{g:Int->Int->Int}
  (rule:∀(i j:Int) (t u:Tok) (s:Mm) (Q:Mj->Mm->Prop) (E:Mj->Mm->Prop),Q (.int (g i j) s.toks) { s with toks:=s.toks + 1 }->Mr (Mw X.prog X.w) X.A (f (.int i t) (.int j u)) Q E s) :
  OpR X f (rI0 fun i j=>.int (g i j)):=by
 intro pins s σ H x y v u Q I rx ry h
 obtain⟨i,j,rfl,rfl,q⟩:=h
 obtain⟨t,rfl⟩:=rx
 obtain⟨t',rfl⟩:=ry
 exact rule i j t t' s _ _ ⟨.int (g i j),H,I.tok _,⟨_,rfl⟩,q⟩
theorem An{f:Mj->Mj->Sem Mj}{g:Int->Int->Bool}
  (rule:∀(i j:Int) (t u:Tok) (s:Mm) (Q:Mj->Mm->Prop) (E:Mj->Mm->Prop),Q (.bool (g i j)) s->Mr (Mw X.prog X.w) X.A (f (.int i t) (.int j u)) Q E s) :
  OpR X f (rI0 fun i j=>.bl (g i j)):=by
 intro pins s σ H x y v u Q I rx ry h
 obtain⟨i,j,rfl,rfl,q⟩:=h
 obtain⟨t,rfl⟩:=rx
 obtain⟨t',rfl⟩:=ry
 exact rule i j t t' s _ _ ⟨.bl (g i j),H,I,rfl,q⟩
def Bm(i j:Int):Prop:=0 < j/\j < 1073741824
def B4(i j:Int):Prop:=0<=j/\j<=1000000/\i.natAbs < 2 ^ 64
def mC(i j:Int):Prop:=(-(2 ^ 64) < i/\i < 2 ^ 64)\/(-(2 ^ 64) < j/\j < 2 ^ 64)
theorem mC.ok {i j:Int}(h:mC i j):IntMulOk i j:=by
 rcases h with⟨h1,h2⟩ | ⟨h1,h2⟩
 ·exact .of_left (SJ h1 h2)
 exact .of_right (SJ h1 h2)
theorem k7:OpR X (Nn .Add) (rI0 fun i j=>.int (i + j)):=GH fun _ _ _ _ _ _ _ q=>add_int q
theorem Ek:OpR X (Nn .Sub) (rI0 fun i j=>.int (i - j)):=GH fun _ _ _ _ _ _ _ q=>sub_int q
theorem f9:OpR X (Nn .Mult) (rI mC fun i j=>.int (i * j)):=opI fun _ _ _ _ _ _ _ hc q=>mul_int q hc.ok
theorem t7:OpR X (Nn .FloorDiv) (rI Bm fun i j=>.int (i / j)):=opI fun i j _ _ _ _ _ hc q=>by
 have h1:(0:Int) < j:=hc.1
 have h2:j < 1073741824:=hc.2
 exact floordiv_int (by lia) (by rw[KC i (by lia)];exact q) (.inl (Qs (by lia)))
theorem gP:OpR X (Nn .Mod) (rI (fun _ j=>0 < j) fun i j=>.int (i % j)):=opI fun i j _ _ _ _ _ hc q=>by
 have h1:(0:Int) < j:=hc
 exact mod_int' (by lia) (by rw[KD i (by lia)];exact q)
theorem yi:OpR X (Nn .Pow) (rI B4 fun i j=>.int (i ^ j.toNat)):=opI fun _ _ _ _ _ _ _ hc q=>pow_int_small hc.1 hc.2.1 hc.2.2 q
theorem unI{f:Mj->Sem Mj}{g:Int->Int}
  (rule:∀(i:Int) (t:Tok) (s:Mm) (Q:Mj->Mm->Prop) (E:Mj->Mm->Prop),Q (.int (g i) s.toks) { s with toks:=s.toks + 1 }->Mr (Mw X.prog X.w) X.A (f (.int i t)) Q E s) :
  UnR X f (rU fun i=>.int (g i)):=by
 intro pins s σ H x v Q I rx h
 obtain⟨i,rfl,q⟩:=h
 obtain⟨t,rfl⟩:=rx
 exact rule i t s _ _ ⟨.int (g i),H,I.tok _,⟨_,rfl⟩,q⟩
theorem Em:UnR X (unaryOp .USub) (rU fun i=>.int (-i)):=unI fun _ _ _ _ _ q=>neg_int q
end
noncomputable def ES:V->V->Bool
 | .non,.non=>true | .non,.int _=>true | .int _,.non=>true | .non,.bl _=>true | .bl _,.non=>true | .non,.str _=>true | .str _,.non=>true
 | .int _,.int _=>true | .bl _,.bl _=>true | .str _,.str _=>true | .byt _,.byt _=>true
 | .int _,.str _=>true | .str _,.int _=>true | .bl _,.str _=>true | .str _,.bl _=>true
 | _,_=>false
def rEq:R2:=fun x y H Q=>ES x y=true/\Q (.bl (decide (x=y))) H
def rNe:R2:=fun x y H Q=>ES x y=true/\Q (.bl (!decide (x=y))) H
theorem uE{i j:Int}:decide (V.int i=V.int j)=(i == j):=by
 rw[Kd]
 simp
theorem yV{i j:Bool}:decide (V.bl i=V.bl j)=(i == j):=by
 rw[Kd]
 simp
theorem ug{i j:Str}:decide (V.str i=V.str j)=(i == j):=by
 rw[Kd]
 simp
theorem rZ{i j:Array UInt8}:decide (V.byt i=V.byt j)=(i.toList == j.toList):=by
 rw[Kd]
 cases i
 cases j
 simp
section
variable{X:Cx}{a b c:MB}{ta tb tc:TE}{pos:Pos}
theorem aN{pins:List (Ml × Obj)}{σ:St}{H:Hp}{s:Mm}{Q:VK}{k k':Bool}(I:Inv X pins σ H s)(q:Q (.bl k) H)(e:k=k'):EP X pins σ Q (.bool k') s:=by
 subst e
 exact⟨.bl k,H,I,rfl,q⟩
theorem C9:OpR X (M4 .Eq) rEq:=by
 intro pins s σ H x y v u Q I rx ry h
 obtain⟨hs,q⟩:=h
 cases x with
 | non=>
  cases rx
  cases y with
  | non=>cases ry;exact S0 (aN I q (by simp))
  | bl j=>cases ry;exact S3 (aN I q (by simp))
  | int j=>obtain⟨t',rfl⟩:=ry;exact Tj (aN I q (by simp))
  | str j=>obtain⟨t',rfl⟩:=ry;exact Tn (aN I q (by simp))
  | _=>exact absurd (show false=true from hs) B_
 | bl i=>
  cases rx
  cases y with
  | non=>cases ry;exact S4 (aN I q (by simp))
  | bl j=>cases ry;exact eq_bool (aN I q yV)
  | str j=>obtain⟨t',rfl⟩:=ry;exact S5 (aN I q (by simp))
  | _=>exact absurd (show false=true from hs) B_
 | int i=>
  obtain⟨t,rfl⟩:=rx
  cases y with
  | non=>cases ry;exact To (aN I q (by simp))
  | int j=>obtain⟨t',rfl⟩:=ry;exact eq_int (aN I q uE)
  | str j=>obtain⟨t',rfl⟩:=ry;exact Tp (aN I q (by simp))
  | _=>exact absurd (show false=true from hs) B_
 | str i=>
  obtain⟨t,rfl⟩:=rx
  cases y with
  | non=>cases ry;exact Tq (aN I q (by simp))
  | bl j=>cases ry;exact S6 (aN I q (by simp))
  | int j=>obtain⟨t',rfl⟩:=ry;exact Tr (aN I q (by simp))
  | str j=>obtain⟨t',rfl⟩:=ry;exact eq_str (aN I q ug)
  | _=>exact absurd (show false=true from hs) B_
 | byt i=>
  obtain⟨t,rfl⟩:=rx
  cases y with
  | byt j=>obtain⟨t',rfl⟩:=ry;exact PySem.W.eq_bytes (aN I q rZ)
  | _=>exact absurd (show false=true from hs) B_
 | _=>cases y <;> exact absurd (show false=true from hs) B_
theorem w9:OpR X (M4 .NotEq) rNe:=by
 intro pins s σ H x y v u Q I rx ry h
 obtain⟨hs,q⟩:=h
 cases x with
 | non=>
  cases rx
  cases y with
  | non=>cases ry;exact S7 (aN I q (by simp))
  | bl j=>cases ry;exact S8 (aN I q (by simp))
  | int j=>obtain⟨t',rfl⟩:=ry;exact Ts (aN I q (by simp))
  | str j=>obtain⟨t',rfl⟩:=ry;exact Tt (aN I q (by simp))
  | _=>exact absurd (show false=true from hs) B_
 | bl i=>
  cases rx
  cases y with
  | non=>cases ry;exact S9 (aN I q (by simp))
  | bl j=>cases ry;exact ne_bool (aN I q (congrArg not yV))
  | str j=>obtain⟨t',rfl⟩:=ry;exact S_ (aN I q (by simp))
  | _=>exact absurd (show false=true from hs) B_
 | int i=>
  obtain⟨t,rfl⟩:=rx
  cases y with
  | non=>cases ry;exact Tu (aN I q (by simp))
  | int j=>obtain⟨t',rfl⟩:=ry;exact ne_int (aN I q (congrArg not uE))
  | str j=>obtain⟨t',rfl⟩:=ry;exact Tv (aN I q (by simp))
  | _=>exact absurd (show false=true from hs) B_
 | str i=>
  obtain⟨t,rfl⟩:=rx
  cases y with
  | non=>cases ry;exact Tw (aN I q (by simp))
  | bl j=>cases ry;exact Ta (aN I q (by simp))
  | int j=>obtain⟨t',rfl⟩:=ry;exact Tx (aN I q (by simp))
  | str j=>obtain⟨t',rfl⟩:=ry;exact ne_str (aN I q (congrArg not ug))
  | _=>exact absurd (show false=true from hs) B_
 | byt i=>
  obtain⟨t,rfl⟩:=rx
  cases y with
  | byt j=>obtain⟨t',rfl⟩:=ry;exact PySem.W.ne_bytes (aN I q (congrArg not rZ))
  | _=>exact absurd (show false=true from hs) B_
 | _=>cases y <;> exact absurd (show false=true from hs) B_
theorem Fy:OpR X (M4 .Lt) (rI0 fun i j=>.bl (decide (i < j))):=An fun _ _ _ _ _ _ _ q=>lt_int q
theorem Fj:OpR X (M4 .LtE) (rI0 fun i j=>.bl (decide (i<=j))):=An fun _ _ _ _ _ _ _ q=>le_int q
theorem EL:OpR X (M4 .Gt) (rI0 fun i j=>.bl (decide (j < i))):=An fun _ _ _ _ _ _ _ q=>gt_int q
theorem Cb:OpR X (M4 .GtE) (rI0 fun i j=>.bl (decide (j<=i))):=An fun _ _ _ _ _ _ _ q=>ge_int q
theorem bP(b:MB){op:O5}(h:op≠.In:=by decide)(h2:op≠.NotIn:=by decide):NK op b=false:=by
 have e1:(op == UL)=false:=by cases op <;> first | rfl | exact absurd rfl h
 have e2:(op == T8)=false:=by cases op <;> first | rfl | exact absurd rfl h2
 cases b <;> simp[NK,e1,e2]
theorem u7{op:O5}{r:R2}(ho:OpR X (M4 op) r)(ha:PE X a ta)(hb:PE X b tb)(hm:NK op b=false):PE X (.Compare a [op] [b] pos) (tOp r ta tb):=by
 intro pins s σ H Q I h
 exact Si (DM ha hb I h fun v u s2 x y H2 I2 rx ry q=>ho pins s2 σ H2 x y v u Q I2 rx ry q) hm
def wD(t:TE):TT:=fun σ H Q=>t σ H fun x H'=>∃ k,x=.bl k/\Q k H'
theorem eE{op:O5}{r:R2}(ho:OpR X (M4 op) r)(ha:PE X a ta)(hb:PE X b tb)(hm:NK op b=false):PT X (.Compare a [op] [b] pos) (wD (tOp r ta tb)):=by
 intro pins s σ H Q I h
 refine QD (thn (ha pins s σ H _ I h) fun v s1 ⟨x,H1,I1,r1,q1⟩=>thn (hb pins s1 σ H1 _ I1 q1) fun u s2 ⟨y,H2,I2,r2,q2⟩=>
  thn (ho pins s2 σ H2 x y v u _ I2 r1 r2 q2) fun c s3 ⟨z,H3,I3,r3,k,e,q3⟩=>?_) hm
 subst e
 cases r3
 exact Nb ⟨H3,I3,q3⟩
noncomputable def qR(r r':R2)(ta tb tc:TE):TE:=fun σ H Q=>ta σ H fun x H1=>tb σ H1 fun y H2=>r x y H2 fun z H3=>∃ k,z=.bl k/\
 (if k=true then tc σ H3 fun w' H4=>r' y w' H4 Q else Q (.bl false) H3)
theorem yk{op op':O5}{r r':R2}(ho:OpR X (M4 op) r)(ho':OpR X (M4 op') r')(ha:PE X a ta)(hb:PE X b tb)(hc:PE X c tc)
  (hm:Rb [op,op'] [b,c]=false:=by with_unfolding_all rfl):PE X (.Compare a [op,op'] [b,c] pos) (qR r r' ta tb tc):=by
 intro pins s σ H Q I h
 refine Compare_chain (thn (ha pins s σ H _ I h) fun v s1 ⟨x,H1,I1,r1,q1⟩=>chain_link (thn (hb pins s1 σ H1 _ I1 q1) fun u s2 ⟨y,H2,I2,r2,q2⟩=>
  thn (ho pins s2 σ H2 x y v u _ I2 r1 r2 q2) fun d s3 ⟨z,H3,I3,r3,k,e,q3⟩=>?_)) hm
 subst e
 cases r3
 refine Nb ?_
 cases k with
 | false=>exact ite_ff ⟨.bl false,H3,I3,rfl,q3⟩
 | true=>exact ite_tt (chain_last (thn (hc pins s3 σ H3 _ I3 q3) fun w' s4 ⟨z',H4,I4,r4,q4⟩=>ho' pins s4 σ H4 y z' u w' Q I4 r2 r4 q4))
theorem y0{op op':O5}{r r':R2}(ho:OpR X (M4 op) r)(ho':OpR X (M4 op') r')(ha:PE X a ta)(hb:PE X b tb)(hc:PE X c tc)
  (hm:Rb [op,op'] [b,c]=false:=by with_unfolding_all rfl):PT X (.Compare a [op,op'] [b,c] pos) (wD (qR r r' ta tb tc)):=by
 intro pins s σ H Q I h
 refine isTrue_chain (thn (ha pins s σ H _ I h) fun v s1 ⟨x,H1,I1,r1,q1⟩=>test_link (thn (hb pins s1 σ H1 _ I1 q1) fun u s2 ⟨y,H2,I2,r2,q2⟩=>
  thn (ho pins s2 σ H2 x y v u _ I2 r1 r2 q2) fun d s3 ⟨z,H3,I3,r3,k,e,q3⟩=>?_)) hm
 subst e
 cases r3
 refine Nb ?_
 cases k with
 | false=>
  obtain⟨k',e',q'⟩:=q3
  cases e'
  exact ite_ff ⟨H3,I3,q'⟩
 | true=>
  refine ite_tt (test_last (thn (hc pins s3 σ H3 _ I3 q3) fun w' s4 ⟨z',H4,I4,r4,q4⟩=>thn (ho' pins s4 σ H4 y z' u w' _ I4 r2 r4 q4) ?_))
  rintro d' s5 ⟨z2,H5,I5,r5,k2,e2,q5⟩
  subst e2
  cases r5
  exact Nb ⟨H5,I5,q5⟩
noncomputable def Dm(K:Mk)(x:V)(H:Hp)(k:Bool):Prop:=
 match x with
 | .non=>k=false
 | .bl b=>k=b
 | .int i=>k=(i != 0)
 | .str y=>y.length<=sizeLine/\k=((y.length:Int) != 0)
 | .byt y=>y.size<=sizeLine/\k=((y.size:Int) != 0)
 | .ref p=>(∃ xs,SqL K H p xs/\k=!xs.isEmpty)\/(∃ xs,SqT K H p xs/\k=!xs.isEmpty)\/∃ kvs,H p=some (.dK kvs)/\k=!kvs.isEmpty
 | _=>False
theorem qx{κ:Type}{kvs:List (κ × V)}{vs:List (κ × Mj)}(r:KV kvs vs):(!vs.isEmpty)=!kvs.isEmpty:=by
 cases r <;> rfl
theorem jG{xs:List V}{its:List Mj}(r:Vals xs its):(!its.toArray.isEmpty)=!xs.isEmpty:=by
 cases r <;> simp
theorem eY:(sizeLine:Nat) < 2 ^ 63:=by rw[sizeLine_eq];decide
theorem Dk:Hq X (fun x H Q=>∃ k,Dm X.K x H k/\Q k H):=by
 intro pins s σ H x v Q I rx h
 obtain⟨k,e,q⟩:=h
 have hl:=eY
 have hs:sizeLine=16777216:=sizeLine_eq
 cases x with
 | non=>
  cases rx
  have e':k=false:=e
  subst e'
  exact truthy_none ⟨H,I,q⟩
 | bl b=>
  cases rx
  have e':k=b:=e
  subst e'
  exact Nb ⟨H,I,q⟩
 | int i=>
  obtain⟨t,rfl⟩:=rx
  have e':k=(i != 0):=e
  subst e'
  exact PySem.P.truthy_int ⟨H,I,q⟩
 | str y=>
  obtain⟨t,rfl⟩:=rx
  obtain⟨hy,e'⟩:y.length<=sizeLine/\k=((y.length:Int) != 0):=e
  subst e'
  exact PySem.P.truthy_str (by lia) ⟨H,I.tok _,q⟩
 | byt y=>
  obtain⟨t,rfl⟩:=rx
  obtain⟨hy,e'⟩:y.size<=sizeLine/\k=((y.size:Int) != 0):=e
  subst e'
  exact PySem.W.truthy_bytes (by lia) ⟨H,I.tok _,q⟩
 | ref p=>
  cases rx
  have e':(∃ xs,SqL X.K H p xs/\k=!xs.isEmpty)\/(∃ xs,SqT X.K H p xs/\k=!xs.isEmpty)\/∃ kvs,H p=some (.dK kvs)/\k=!kvs.isEmpty:=e
  rcases e' with⟨xs,hx,e'⟩ | ⟨xs,hx,e'⟩ | ⟨kvs,hx,e'⟩
  ·subst e'
   obtain⟨its,r,pl,hz⟩:=I.list hx
   have hlen:=r.length
   exact wpAny_truthy_list pl.isList (by simp only[q_];lia) ⟨H,I.tok _,by rw[jG r];exact q⟩
  ·subst e'
   obtain⟨its,r,pl,hz⟩:=I.tuple hx
   have hlen:=r.length
   exact truthy_tuple pl (by simp only[q_];lia) ⟨H,I.tok _,by rw[jG r];exact q⟩
  ·subst e'
   obtain⟨hz,hS,vs,r,m⟩:kvs.length<=sizeLine/\(p == Nj)=false/\∃ vs,KV kvs vs/\s.heap.DictOf (bB X.prog X.w) p vs:=I.hok p _ hx
   have hlen:kvs.length=vs.length:=Ow r
   exact wpAny_truthy_dict hS m (by lia) ⟨H,I.tok _,by rw[qx r];exact q⟩
 | _=>exact(show False from e).elim
theorem y9(ha:PE X a ta)(he:∀ whole,QC a X.env whole=(do let v <-whole;Rq a.pos;OK [v] (Tf v))) :
  PT X a (fun σ H Q=>ta σ H fun x H'=>∃ k,Dm X.K x H' k/\Q k H'):=by
 intro pins s σ H Q I h
 exact Tg (thn (ha pins s σ H _ I h) fun v s1 ⟨x,H1,I1,r1,q1⟩=>Dk pins s1 σ H1 x v Q I1 r1 q1) (he _)
theorem qF:OpR X (Nn .Add) (fun x y H Q=>∃ i j,x=.str i/\y=.str j/\i.length + j.length<=sizeLine/\Q (.str (i++j)) H):=by
 intro pins s σ H x y v u Q I rx ry h
 obtain⟨i,j,rfl,rfl,hz,q⟩:=h
 obtain⟨t,rfl⟩:=rx
 obtain⟨t',rfl⟩:=ry
 exact add_str (fun t' tk=>⟨.str (i++j),H,I.tok _,⟨_,rfl⟩,q⟩) hz
theorem vals1{x:V}{us:List Mj}(r:Vals [x] us):∃ u,us=[u]/\RelV x u:=by
 cases r with
 | cons r1 r2=>cases r2;exact⟨_,rfl,r1⟩
theorem vals2{x y:V}{us:List Mj}(r:Vals [x,y] us):∃ u w',us=[u,w']/\RelV x u/\RelV y w':=by
 cases r with
 | cons r1 r2=>
  cases r2 with
  | cons r3 r4=>cases r4;exact⟨_,_,rfl,r1,r3⟩
theorem vm(hc:X.calm=true):bA X (.builtin "max") (fun xs H Q=>∃ i j,xs=[.int i,.int j]/\Q (.int (if j > i then j else i)) H):=by
 intro pins s σ H xs us Q I r h
 obtain⟨i,j,rfl,q⟩:=h
 obtain⟨u,w',rfl,⟨t,rfl⟩,⟨t',rfl⟩⟩:=vals2 r
 refine max_two_ints (I.ok.hd hc) fun h' tk k=>⟨_,H,I.kept k,?_,q⟩
 by_cases hj:j > i
 ·rw[if_pos hj,if_pos hj];exact⟨_,rfl⟩
 rw[if_neg hj,if_neg hj];exact⟨_,rfl⟩
theorem vb(hc:X.calm=true):bA X (.builtin "min") (fun xs H Q=>∃ i j,xs=[.int i,.int j]/\Q (.int (if j < i then j else i)) H):=by
 intro pins s σ H xs us Q I r h
 obtain⟨i,j,rfl,q⟩:=h
 obtain⟨u,w',rfl,⟨t,rfl⟩,⟨t',rfl⟩⟩:=vals2 r
 refine min_two_ints (I.ok.hd hc) fun h' tk k=>⟨_,H,I.kept k,?_,q⟩
 by_cases hj:j < i
 ·rw[if_pos hj,if_pos hj];exact⟨_,rfl⟩
 rw[if_neg hj,if_neg hj];exact⟨_,rfl⟩
theorem o7:bA X (.builtin "divmod") (fun xs H Q=>∃ i j,xs=[.int i,.int j]/\Bm i j/\∀ p,H p=none->Q (.ref p) (upd H p (.tup [.int (i / j),.int (i % j)]))):=by
 intro pins s σ H xs us Q I r h
 obtain⟨i,j,rfl,⟨h1,h2⟩,q⟩:=h
 obtain⟨u,w',rfl,⟨t,rfl⟩,⟨t',rfl⟩⟩:=vals2 r
 refine divmod_int (by lia) ?_ (.inl (Qs (by lia)))
 rw[KC i (by lia),KD i (by lia)]
 have hn:H s.heap.objs.size=none:=I.hok.fresh (f_ _)
 refine⟨.ref s.heap.objs.size,_,?_,rfl,q _ hn⟩
 refine I.laid (fun b o e=>Mo _ e) (f_ _) ⟨by simp only[k_,Jp];rw[sizeLine_eq];decide,[.int (i / j) s.toks,.int (i % j) (s.toks + 1)],.cons ⟨_,rfl⟩ (.cons ⟨_,rfl⟩ .nil),?_⟩
 exact⟨_,Mt s.heap rfl,rfl,0,rfl⟩
end
theorem kE.some_of {v:V}{o:Option Mj}(r:kE (some v) o):∃ u,o=some u/\RelV v u:=by
 cases o with
 | none=>exact(show False from r).elim
 | some u=>exact⟨u,rfl,r⟩
structure Room (k:Nat) (A:MJ):Prop where
 hd:A.handled=none
 dp:A.depth + 3 * k + 5 < recursionLimit
 un:A.units + 16 * k + 200 < cLine
 gs:A.guards=some []
theorem Room.mono {j k:Nat}{A:MJ}(r:Room k A)(h:j<=k):Room j A:=⟨r.hd,by have:=r.dp;lia,by have:=r.un;lia,r.gs⟩
theorem Room.deeper {k:Nat}{A:MJ}(r:Room (k + 1) A)(env:Env):Room k (A.deeper env):=
 ⟨r.hd,by have:=r.dp;show A.depth + 1 + 3 * k + 5 < _;lia,by have:=r.un;show A.units + 3 + 16 * k + 200 < _;lia,r.gs⟩
theorem Room.depth {k:Nat}{A:MJ}(r:Room k A):A.depth < recursionLimit:=by have:=r.dp;lia
theorem Room.units {k:Nat}{A:MJ}(r:Room k A):A.units + 64 < cLine:=by have:=r.un;lia
def Hd:TA:=fun _ H Q=>Q [] H
def FJ(ta:TE)(tr:TA):TA:=fun σ H Q=>ta σ H fun x H1=>tr σ H1 fun xs H2=>Q (x::xs) H2
section
variable{X:Cx}{e:MB}{es:List MB}{te:TE}{t:TA}{pos:Pos}
theorem bc:PA X [] Hd:=fun _ _ _ _ H Q I h=>Rx ⟨[],H,I,.nil,h⟩
theorem ax(ha:PE X e te)(hr:PA X es t)(hs:ME (e::es) X.env=(false,MQ e X.env)::ME es X.env:=by rfl):PA X (e::es) (FJ te t):=by
 intro pos pins s σ H Q I h
 rw[hs]
 show Mr _ _ (spliced ((false,MQ e X.env)::Ot pos (ME es X.env))) _ _ s
 refine Oi (thn (ha pins s σ H _ I h) ?_)
 rintro u s1 ⟨x,H1,I1,r1,q1⟩
 exact thn (hr pos pins s1 σ H1 _ I1 q1) fun us s2 ⟨xs,H2,I2,r2,q2⟩=>⟨x::xs,H2,I2,.cons r1 r2,q2⟩
noncomputable def HB(t:TA):TE:=fun σ H Q=>t σ H fun xs H1=>xs.length<=sizeLine/\∀ p,H1 p=none->Q (.ref p) (upd H1 p (.lst xs))
theorem x9(h:PA X es t):PE X (.List es pos) (HB t):=by
 intro pins s σ H Q I hq
 refine Rc (thn (h pos pins s σ H _ I hq) fun us s1 ⟨xs,H1,I1,r,z,q⟩=>⟨by rw[<-r.length];exact z,?_⟩)
 have hf:H1 s1.heap.objs.size=none:=I1.hok.fresh (f_ _)
 refine⟨.ref s1.heap.objs.size,upd H1 s1.heap.objs.size (.lst xs),I1.laid (t':=s1.toks) (fun b u e=>Mo _ e) (f_ _) ?_,rfl,q _ hf⟩
 exact⟨z,us,0,r,Mt _ rfl⟩
end
abbrev Sp:=List V->Hp->VK->XK->Prop
abbrev CXT:=List Env->Hp->Mm->XK->Mj->Mm->Prop
structure Env0 (P:MA) (w:MC) (K:Mk) (mg:Str->Option Mj) (base:MD) (A:MJ) (outer:List Env) (s:Mm) (H:Hp):Prop where
 frames:A.frames=some outer
 mod:Mod K mg base
 bs:∀ b o,base.get? b=some o->s.heap.get? b=some o/\H b=none
 bsz:base.objs.size<=s.heap.objs.size
 jx:s.heap.FunFrames base outer
 frf:∀ b∈frs outer,H b=none
 hok:HOk P w H s.heap
 bare:O3 s.gens
noncomputable def CE(outer:List Env)(P:MA)(w:MC)(H:Hp)(s:Mm)(Q:VK)(u:Mj)(s':Mm):Prop:=
 ∃ v H',s'.os=s.os/\O3 s'.gens/\Un (frs outer) [] H H' s.heap s'.heap/\HOk P w H' s'.heap/\RelV v u/\Q v H'
noncomputable def CR(CX:CXT)(outer:List Env)(P:MA)(w:MC)(H:Hp)(s:Mm)(Q:VK)(E:XK)(r:Tz)(s':Mm):Prop:=
 match r with
 | .ok (.ret u)=>CE outer P w H s Q u s'
 | .ok _=>False
 | .error e=>CX outer H s E e s'
structure FnOk (P:MA) (w:MC) (K:Mk) (mg:Str->Option Mj) (base:MD) (CX:CXT) (k:Nat) (f:Ml) (fd:MR) (ps:List Str) (sp:Sp):Prop where
 len:∀ vs H Q E,sp vs H Q E->vs.length=ps.length
 run:∀(A:MJ) (outer:List Env) (s:Mm) (H:Hp) (args:Args) (us:List Mj) (vs:List V) (Q:VK) (E:XK),Room k A->Env0 P w K mg base A outer s H->QE s fd args (ps.zip us)->Vals vs us->sp vs H Q E->
  Oh (Mw P w) A (.call (.ref f) args) (CR CX outer P w H s Q E) s
theorem FnOk.imp {P:MA}{w:MC}{K:Mk}{mg:Str->Option Mj}{base:MD}{CX:CXT}{k:Nat}{f:Ml}{fd:MR}{ps:List Str}{sp sp':Sp}(F:FnOk P w K mg base CX k f fd ps sp)
  (h:∀ vs H Q E,sp' vs H Q E->sp vs H Q E):FnOk P w K mg base CX k f fd ps sp':=
 ⟨fun vs H Q E q=>F.len vs H Q E (h _ _ _ _ q),fun A outer s H args us vs Q E hr he hb hv hs=>F.run A outer s H args us vs Q E hr he hb hv (h _ _ _ _ hs)⟩
section
variable{X:Cx}{pins:List (Ml × Obj)}{σ:St}{H:Hp}{s s':Mm}
theorem Inv.GX (I:Inv X pins σ H s):Env0 X.prog X.w X.K X.mg X.base X.A X.stack s H:=
 ⟨I.ok.frames,I.ok.mod,I.bs,v_ I.ok.bsz I.sz,I.stack,I.sk,I.hok,I.bare⟩
theorem Inv.after {Q:VK}{u:Mj}(I:Inv X pins σ H s)(h:CE X.stack X.prog X.w H s Q u s'):EP X pins σ Q u s':=by
 obtain⟨v,H',os,bare,un,hok,r,q⟩:=h
 obtain⟨hh,g,d,t,os'⟩:=s'
 obtain rfl:os'=s.os:=os
 exact⟨v,H',I.call (h':=hh) (g':=g) (d':=d) (t':=t) (ch:=[]) un hok bare (fun b z=>absurd z (by simp)),r,q⟩
end
def xj(sp:Sp)(dvs:List V)(E:XK)(t:TA):TE:=fun σ H Q=>t σ H fun vs H1=>sp (vs++dvs) H1 Q E
noncomputable def Binds(K:Mk)(fd:MR)(ps:List Str)(ds:List Mj):Prop:=
 ∀(s:Mm) (us:List Mj),K.In s.heap->(us++ds).length=ps.length->QE s fd ⟨us,[]⟩ (ps.zip (us++ds))
theorem Binds.all {K:Mk}{fd:MR}{ps:List Str}(h:∀ us:List Mj,us.length=ps.length->TB fd ⟨us,[]⟩=pure (ps.zip us)):Binds K fd ps []:=fun s us _ hl=>by
 rw[Iz]at hl ⊢
 exact .of_eq (h us hl)
noncomputable def Passes(CX:CXT)(X:Cx)(E:XK):Prop:=∀(pins:List (Ml × Obj)) (σ:St) (H:Hp) (s:Mm) (e:Mj) (s':Mm),Inv X pins σ H s->CX X.stack H s E e s'->X.xe e s'
section
variable{X:Cx}{CX:CXT}{k:Nat}{f C:Ml}{fd:MR}{ps:List Str}{sp:Sp}{dvs:List V}{ds:List Mj}{E:XK}{x m:Str}{p pos apos:Pos}{e o:MB}{es:List MB}{ta:TE}{t:TA}
theorem Dg{pins:List (Ml × Obj)}{σ:St}{H:Hp}{s:Mm}{Q:VK}{us:List Mj}{vs:List V}(F:FnOk X.prog X.w X.K X.mg X.base CX k f fd ps sp)(hr:Room k X.A)(hb:Binds X.K fd ps ds)(hd:Vals dvs ds)(hx:Passes CX X E)
  (I:Inv X pins σ H s) (r:Vals vs us) (h:sp (vs++dvs) H Q E):Mr (Mw X.prog X.w) X.A (call (.ref f) us) (EP X pins σ Q) X.xe s:=by
 have r2:Vals (vs++dvs) (us++ds):=r.append hd
 have hl:(us++ds).length=ps.length:=by rw[<-r2.length];exact F.len _ _ _ _ h
 refine wpAny_call (NT (F.run X.A X.stack s H ⟨us,[]⟩ (us++ds) (vs++dvs) Q E hr I.GX (hb s us I.kIn hl) r2 h) fun r s' hq=>?_)
 cases r with
 | error e=>exact hx pins σ H s e s' I hq
 | ok fl=>
  cases fl with
  | ret u=>exact I.after hq
  | next=>exact MI hq
  | brk=>exact MI hq
  | cont=>exact MI hq
theorem zt(F:FnOk X.prog X.w X.K X.mg X.base CX k f fd ps sp)(hr:Room k X.A)(hg:Gl X x)(hm:X.mg x=some (.ref f))(hk:OL X.K (.ref f)=true)(hb:Binds X.K fd ps ds)(hd:Vals dvs ds)(hx:Passes CX X E)
  (ha:PA X (e::es) t) (hdb:(x ==("__debug__":Str))=false:=by decide) (he:ME (e::es) X.env=(false,MQ e X.env)::ME es X.env:=by rfl) (hpl:(Ot pos (ME es X.env)).any (·.1)=false:=by rfl) :
  PE X (.Call (.Name x p) (e::es) [] pos) (xj sp dvs E t):=by
 intro pins s σ H Q I h
 refine Np (AA I hg hm ?_ hdb)
 refine PySem.W.callWith_K (h₀:=X.base) I.ok.mod.kin hk (thn (ha pos pins s σ H _ I h) fun us s1 ⟨vs,H1,I1,r,q⟩=>⟨I1.kIn,?_⟩) he hpl
 exact Dg F hr hb hd hx I1 r q
end
structure FnScope (N P:List Str) (sc:Nk):Prop where
 kind:sc.kind=.function
 co:sc.isCoroutine=false
 gen:sc.isGenerator=false
 nd:N.Nodup
 pre:N.take P.length=P
 par:∀ x∈P,sc.names.lookup x=some .local\/sc.names.lookup x=some .cell
 nofree:∀ y∈sc.names,y.2≠.free
theorem lL{kindOf:Str->Option N7}{x:Str}:∀ {binds:List (Str × Mj)} {m:Str->Option Mj},(∀ v,(x,v) ∉ binds)->QT kindOf binds m x=m x
 | [],_,_=>rfl
 | (n,v)::r,m,h=>by
  unfold QT
  rw[lL fun w hw=>h w (r_ _ hw)]
  split
  ·have:x≠n:=by rintro rfl;exact h v s_
   simp[this]
  rfl
theorem kW{kindOf:Str->Option N7}{x:Str}:∀ {binds:List (Str × Mj)} {m:Str->Option Mj},(∀ v,(x,v) ∉ binds)->QU kindOf binds m x=m x
 | [],_,_=>rfl
 | (n,v)::r,m,h=>by
  unfold QU
  rw[kW fun w hw=>h w (r_ _ hw)]
  split
  ·rfl
  have:x≠n:=by rintro rfl;exact h v s_
  simp[this]
theorem l8{kindOf:Str->Option N7}{x:Str}{v:Mj}:∀ {P:List Str} {vs:List Mj} {i:Nat} {m:Str->Option Mj},P.Nodup->P[i]?=some x->vs[i]?=some v->kindOf x=some .local->
  QT kindOf (P.zip vs) m x=some v
 | [],_,_,_,_,h,_,_=>by simp at h
 | _::_,[],_,_,_,_,h,_=>by simp at h
 | p::P,w::vs,0,m,nd,h1,h2,hk=>by
  simp at h1 h2;subst h1;subst h2
  show QT kindOf ((p,w)::P.zip vs) m p=_
  unfold QT
  rw[lL fun v hv=>(G_.mp nd).1 (K8 hv).1,if_pos hk]
  simp
 | p::P,w::vs,i + 1,m,nd,h1,h2,hk=>by
  show QT kindOf ((p,w)::P.zip vs) m x=_
  unfold QT
  exact l8 (i:=i) (G_.mp nd).2 (by simpa using h1) (by simpa using h2) hk
theorem lB{kindOf:Str->Option N7}{x:Str}{v:Mj}:∀ {P:List Str} {vs:List Mj} {i:Nat} {m:Str->Option Mj},P.Nodup->P[i]?=some x->vs[i]?=some v->kindOf x≠some .local->
  QU kindOf (P.zip vs) m x=some v
 | [],_,_,_,_,h,_,_=>by simp at h
 | _::_,[],_,_,_,_,h,_=>by simp at h
 | p::P,w::vs,0,m,nd,h1,h2,hk=>by
  simp at h1 h2;subst h1;subst h2
  show QU kindOf ((p,w)::P.zip vs) m p=_
  unfold QU
  rw[kW fun v hv=>(G_.mp nd).1 (K8 hv).1,if_neg hk]
  simp
 | p::P,w::vs,i + 1,m,nd,h1,h2,hk=>by
  show QU kindOf ((p,w)::P.zip vs) m x=_
  unfold QU
  exact lB (i:=i) (G_.mp nd).2 (by simpa using h1) (by simpa using h2) hk
def start(N:List Str)(vs:List V):St:=vs.map some++Iw (N.length - vs.length) none
noncomputable def qq(CX:CXT)(P:MA)(w:MC)(K:Mk)(mg:Str->Option Mj)(base:MD)(N:List Str)(qual:Str)(scope:Nk)(f:Ml)(cd:Mj)(A:MJ)(outer:List Env)(s:Mm)(H:Hp)(E:XK):Cx where
 prog:=P
 w:=w
 K:=K
 mg:=mg
 base:=base
 A:=A.deeper (O8 qual scope s.heap.objs.size f cd)
 N:=N
 s₀:=s
 H₀:=H
 env:=O8 qual scope s.heap.objs.size f cd
 outer:=outer
 stack:=O8 qual scope s.heap.objs.size f cd::outer
 ex:=[]
 calm:=true
 fn:=fun _=>true
 pn:=[]
 xe:=fun e s'=>Mr (Mw P w) (A.deeper (O8 qual scope s.heap.objs.size f cd)) (leaving (O8 qual scope s.heap.objs.size f cd) e) (fun _ s''=>CX outer H s E e s'') (fun e' s''=>CX outer H s E e' s'') s'
theorem pX{sc:Nk}{n:Nat}{x:Str}(h:sc.names.lookup x=some .cell):∃ c,(SD n sc.names []).lookup x=some c:=by
 have q:=Qu sc.names n [] (.inl h)
 exact Option.isSome_iff_exists.mp q
theorem uY{CX:CXT}{P:MA}{w:MC}{K:Mk}{mg:Str->Option Mj}{base:MD}{N ps:List Str}{qual:Str}{scope:Nk}{f:Ml}{cd:Mj}{A:MJ}{outer:List Env}{s s1:Mm}{H:Hp}{E:XK}{us:List Mj}{vs:List V}
  (S:FnScope N ps scope) (hd:A.handled=none) (e0:Env0 P w K mg base A outer s H) (hl:vs.length=ps.length) (r:Vals vs us)
  (x:InCallC s s.heap.objs.size (QT (O8 qual scope s.heap.objs.size f cd).kindOf (ps.zip us) fun _=>none) (SD (s.heap.objs.size + 1) scope.names []) (QU (O8 qual scope s.heap.objs.size f cd).kindOf (ps.zip us) fun _=>none) s1) :
  Inv (qq CX P w K mg base N qual scope f cd A outer s H E) [] (start N vs) H s1:=by
 have hpl:ps.length<=N.length:=by have:=congrArg J6 S.pre;rw[D_]at this;lia
 obtain⟨h1,tk,rfl,hk⟩:=x.done
 have noA:∀ b:Ml,b ∉ (qq CX P w K mg base N qual scope f cd A outer s H E).ex:=fun b z=>absurd (show b∈([]:List Ml)from z) (by simp)
 refine⟨⟨e0.mod,S.kind,rfl,rfl,f_ _,fun y z c h1 h2=>?_,fun y hy=>?_,fun y c _ h=>?_,fun _=>hd,Around.frames_deeper e0.frames,.inr ⟨rfl,rfl⟩,fun b z=>absurd z (noA b),e0.bs,e0.bsz,fun b _ _=>noA b,fun b z=>absurd z (noA b),e0.jx,e0.frf⟩,
  rfl,e0.bare,Un.kept hk,⟨_,x.toInCall.ns,fun i y v h1 h2 h3=>?_⟩,fun y c h=>⟨_,x.cell y c h⟩,e0.hok.fresh (f_ _),fun y c h=>?_,fun p hp=>absurd (show p∈([]:List (Ml × Obj))from hp) (by simp),e0.hok.kept hk,?_⟩
 ·exact name_of_addr x.apart (Nz h1) (Nz h2)
 ·have hy:scope.names.lookup y=some .cell\/scope.names.lookup y=some .free:=hy
  rcases hy with hy | hy
  ·exact pX hy
  exact absurd rfl (S.nofree _ (Nz hy))
 ·exact HN (x.above y c (Nz h))
 ·have hi:i < vs.length:=by
   unfold start at h2
   by_cases hi:i < vs.length
   ·exact hi
   rw[H_ (by simpa using hi)]at h2
   rw[List.getElem?_replicate]at h2
   split at h2 <;> cases h2
  have ha:vs[i]?=some v:=by
   unfold start at h2
   rw[IQ (by simpa using hi),HM]at h2
   cases e:vs[i]? with
   | none=>rw[e]at h2;cases h2
   | some a=>rw[e]at h2;cases h2;rfl
  obtain⟨u,hu,rv⟩:=r.get ha
  have hp:ps[i]?=some y:=by
   rw[<-S.pre,List.getElem?_take_of_lt (by lia)];exact h1
  have ndP:ps.Nodup:=by rw[<-S.pre];exact S.nd.sublist (Jx _ _)
  refine⟨u,rv,?_⟩
  rcases S.par y (HW hp)with k | k
  ·exact .inl ⟨k,l8 ndP hp hu k⟩
  obtain⟨c,e⟩:=pX (n:=s.heap.objs.size + 1) k
  refine .inr ⟨.inl k,c,e,?_⟩
  have q:=x.cell y c e
  rw[lB ndP hp hu (by show scope.names.lookup y≠_;rw[k];decide)]at q
  exact q
 ·exact e0.hok.fresh (HN (x.above y c (Nz h)))
 unfold start
 show _=N.length
 rw[f',a_,List.length_replicate]
 lia
theorem EW{CX:CXT}{P:MA}{w:MC}{K:Mk}{mg:Str->Option Mj}{base:MD}{k:Nat}{f:Ml}{name qual:Str}{params:Arguments}{body:List M3}{scope:Nk}{dV kV doc pm cdv ct oc:Mj}{an od:Option Ml}
  {osl:Array (Option Mj)} {N ps:List Str} {sp:Sp} (lk:K.lookup f=some ⟨oc,od,.func (NU name qual params body scope dV kV doc pm an cdv ct),osl⟩) (hcd:Pg K cdv qual=true) (S:FnScope N ps scope)
  (len:∀ vs H Q E,sp vs H Q E->vs.length=ps.length)
  (hbody:∀(A:MJ) (outer:List Env) (s:Mm) (H:Hp) (vs:List V) (Q:VK) (E:XK),Room k (A.deeper (O8 qual scope s.heap.objs.size f cdv))->sp vs H Q E->
   ∃ t,PSs (qq CX P w K mg base N qual scope f cdv A outer s H E) body t/\t { nx:=fun _ H'=>Q .non H',rt:=Q } (start N vs) H) :
  FnOk P w K mg base CX (k + 1) f (NU name qual params body scope dV kV doc pm an cdv ct) ps sp:=by
 refine⟨len,fun A outer s H args us vs Q E hr e0 hb r hsp=>?_⟩
 have hl:=len _ _ _ _ hsp
 have KX:K.In s.heap:=e0.mod.kin.keeps fun b o e=>(e0.bs b o e).1
 have lim:s.heap.NoLimit:=e0.mod.nolimit.keeps fun b o e=>(e0.bs b o e).1
 have hkind:∀ y∈ps.zip us,scope.names.lookup y.1=some .local\/(scope.names.lookup y.1=some .cell/\((SD (s.heap.objs.size + 1) scope.names []).lookup y.1).isSome=true):=fun⟨n,v⟩ hy=>by
  rcases S.par n (K8 hy).1 with q | q
  ·exact .inl q
  exact .inr ⟨q,Qu _ _ _ (.inl q)⟩
 refine codeAny_call_function hr.depth (KX _ _ lk) rfl S.co S.gen rfl (PySem.W.codeRec_of KX hcd) (hb _ _ _ _ ?_)
 refine wpAny_newFunctionEnv_cells S.kind hkind fun env he s1 x=>?_
 subst he
 refine⟨lim.keeps x.toInCall.keep,codeAny_func ?_⟩
 obtain⟨t,ht,hq⟩:=hbody A outer s H vs Q E (hr.deeper _) hsp
 have I:Inv (qq CX P w K mg base N qual scope f cdv A outer s H E) [] (start N vs) H s1:=uY S hr.hd e0 hl r x
 refine MP (ht [] s1 (start N vs) H _ I hq) (fun fl s' hs=>?_) fun e s' hs=>hs
 have fin:∀ {σ':St} {H':Hp} {v:V} {u:Mj},Inv (qq CX P w K mg base N qual scope f cdv A outer s H E) [] σ' H' s'->RelV v u->Q v H'->CE outer P w H s Q u s':=
  fun{σ' H' v u} J rv q=>⟨v,H',J.os,J.bare,J.base,J.hok,rv,q⟩
 cases fl with
 | ret u=>
  obtain⟨v,σ',H',J,rv,q⟩:=hs
  exact fin J rv q
 | next=>
  obtain⟨σ',H',J,q⟩:=hs
  exact fin (v:=V.non) (u:=MV) J rfl q
 | brk=>
  obtain⟨_,_,_,q⟩:=hs
  exact MI q
 | cont=>
  obtain⟨_,_,_,q⟩:=hs
  exact MI q
section
variable{X:Cx}{x:Str}{p pos:Pos}{e:MB}{es:List MB}{t:TA}{id T:String}{r:List V->Hp->VK->Prop}
def tCB(r:List V->Hp->VK->Prop)(t:TA):TE:=fun σ H Q=>t σ H fun vs H1=>r vs H1 Q
theorem aX(hc:bA X (.builtin id) r)(hg:Gl X x)(hm:X.mg x=none)(hv:N6 x=some (.builtin id))(ha:PA X (e::es) t)(hn:x≠"__name__":=by decide)(hdb:(x ==("__debug__":Str))=false:=by decide)
  (he:ME (e::es) X.env=(false,MQ e X.env)::ME es X.env:=by rfl) (hpl:(Ot pos (ME es X.env)).any (·.1)=false:=by rfl):PE X (.Call (.Name x p) (e::es) [] pos) (tCB r t):=by
 intro pins s σ H Q I h
 refine Np (cL I hg hm hv ?_ hn hdb)
 exact RX (thn (ha pos pins s σ H _ I h) fun us s1 ⟨vs,H1,I1,r1,q1⟩=>hc pins s1 σ H1 vs us Q I1 r1 q1) he hpl
theorem lG(hc:bA X (.type T) r)(hg:Gl X x)(hm:X.mg x=none)(hv:N6 x=some (.type T))(ha:PA X (e::es) t)(hn:x≠"__name__":=by decide)(hdb:(x ==("__debug__":Str))=false:=by decide)
  (he:ME (e::es) X.env=(false,MQ e X.env)::ME es X.env:=by rfl) (hpl:(Ot pos (ME es X.env)).any (·.1)=false:=by rfl):PE X (.Call (.Name x p) (e::es) [] pos) (tCB r t):=by
 intro pins s σ H Q I h
 refine Np (cL I hg hm hv ?_ hn hdb)
 exact NS (thn (ha pos pins s σ H _ I h) fun us s1 ⟨vs,H1,I1,r1,q1⟩=>hc pins s1 σ H1 vs us Q I1 r1 q1) he hpl
end
end L2
namespace HT
open PySem PyProof.Rows
section
variable{prog:MA}{w:MC}{A:MJ}{E:Mj->Mm->Prop}{s:Mm}
theorem zN{t b:Ml}{vs ws:List Mj}{Q:Mj->Mm->Prop}(ht:SX s.heap t vs.toArray)(hb:SX s.heap b ws.toArray)(hv:vs≠[])
  (h1:ws=[]->Q (.ref t) s) (h2:ws≠[]->Q (.ref s.heap.objs.size) { s with heap:=s.heap.push { cls:=.type "tuple",data:=.seq (vs++ws).toArray } })
  (hsz:vs.length + ws.length<=sizeLine):Mr (Mw prog w) A (Nn .Add (.ref t) (.ref b)) Q E s:=by
 obtain⟨⟨cls,dd,data,sl⟩,ho,hc,n,hd⟩:=id ht
 obtain⟨⟨cls2,dd2,data2,sl2⟩,ho2,hc2,n2,hd2⟩:=id hb
 simp only at hc hd hc2 hd2
 subst hc hd hc2 hd2
 have e:vs.toArray++ws.toArray=(vs++ws).toArray:=by simp
 by_cases hw:ws=[]
 ·exact Rf ⟨_,ho,rfl⟩ ⟨_,ho2,rfl⟩ P_ Q3 OW OM (OH _ _)
   (tuple_addW1 t b vs.toArray ws.toArray n n2 dd dd2 sl sl2 (by simpa using hv) (by simp[hw])) ⟨ho,ho2,h1 hw⟩
 refine Rf ⟨_,ho,rfl⟩ ⟨_,ho2,rfl⟩ P_ Q3 OW OM (OH _ _)
  (tuple_addW2 t b vs.toArray ws.toArray n n2 dd dd2 sl sl2 (by simpa using hv) (by simpa using hw) (by rw[q_,q_];exact hsz)) ⟨ho,ho2,?_⟩
 rw[e]
 exact h2 hw
noncomputable def sIx(n d:Nat):Option Int->Nat
 | none=>d
 | some v=>if v < 0 then(v + (n:Int)).toNat else min v.toNat n
theorem pO(n d:Nat):sIx n d none=d:=rfl
theorem sQ(n d k:Nat):sIx n d (some (k:Int))=min k n:=by
 show(if(k:Int) < 0 then((k:Int) + (n:Int)).toNat else min (k:Int).toNat n)=min k n
 rw[if_neg (by lia),Ii]
theorem Dl(n d:Nat)(hd:d<=n)(o:Option Int):sIx n d o<=n:=by
 cases o with
 | none=>exact hd
 | some v=>
  show(if v < 0 then(v + (n:Int)).toNat else min v.toNat n)<=n
  by_cases hv:v < 0
  ·rw[if_pos hv];lia
  rw[if_neg hv];exact Nat.min_le_right _ _
theorem tq(v:Int)(n d:Nat):(if v < 0 then max (v + (n:Int)) 0 else min v (n:Int))=((sIx n d (some v):Nat):Int):=by
 show(if v < 0 then max (v + (n:Int)) 0 else min v (n:Int))=(((if v < 0 then(v + (n:Int)).toNat else min v.toNat n):Nat):Int)
 by_cases hv:v < 0
 ·simp only[if_pos hv];lia
 simp only[if_neg hv];lia
theorem rD(lo hi:Option Int)(n:Nat):OF lo hi 1 (n:Int)=(((sIx n 0 lo:Nat):Int),((sIx n n hi:Nat):Int)):=by
 have h1:¬((1:Int) < 0):=by lia
 unfold OF
 simp only[h1,if_false]
 refine Ku ?_ ?_
 ·cases lo with
  | none=>rfl
  | some v=>exact tq v n 0
 cases hi with
 | none=>rfl
 | some v=>exact tq v n n
theorem qU(i j:Nat):N1 (i:Int) (j:Int) 1=j - i:=by
 unfold N1
 have h1:(1:Int) > 0:=by lia
 simp only[h1,if_true,Int.ediv_one]
 split <;> lia
theorem jK{v:Mj}{o:Option Int}{Q:Option Int->Mm->Prop}(p:P' v o)(h:Q o s):Mr (Mw prog w) A (Sn v) Q E s:=by
 cases p with
 | none=>exact So h
 | int i t=>exact slicePart_int h
theorem hX{sl:Ml}{vl vu:Mj}{lo hi:Option Int}{n:Nat}{Q:Int × Int × Nat->Mm->Prop}(hs:s.heap.IsSliceOf sl vl vu .none)(pl:P' vl lo)(pu:P' vu hi)
  (h:Q (((sIx n 0 lo:Nat):Int),1,sIx n n hi - sIx n 0 lo) s):Mr (Mw prog w) A (PK (.ref sl) (pure (n:Int))) Q E s:=by
 obtain⟨os,hos,hcs,hds⟩:=id hs
 unfold PK Tb
 refine Mi (Mi (Ni hos hds (x:=vl) rfl (Mi (Ni hos hds (x:=vu) rfl (Mi (Ni hos hds (x:=.none) rfl (Mn ?_)))))))
 refine Mi (So ?_)
 show Mr _ _ (if((1:Int) == 0)=true then _ else _) _ _ s
 rw[if_neg (by decide)]
 refine Mi (jK pl (Mi (jK pu (Mi (Mn ?_)))))
 show Mr _ _ (match OF lo hi 1 (n:Int)with | (lo,hi)=>pure (lo,(1:Int),N1 lo hi 1)) _ _ s
 rw[rD lo hi n]
 show Mr _ _ (pure (((sIx n 0 lo:Nat):Int),(1:Int),N1 ((sIx n 0 lo:Nat):Int) ((sIx n n hi:Nat):Int) 1)) _ _ s
 rw[qU]
 exact Mn h
theorem xy(xs:Array Mj)(i k:Nat):((y_ k).filterMap fun(m:Nat)=>xs[((i:Int) + (m:Int) * 1).toNat]?).toArray=((xs.toList.drop i).take k).toArray:=by
 have e:(fun(m:Nat)=>xs[((i:Int) + (m:Int) * 1).toNat]?)=fun m=>xs[i + m]?:=by
  funext m
  have:((i:Int) + (m:Int) * 1).toNat=i + m:=by lia
  rw[this]
 rw[e]
 have:=pick_run xs i k
 rw[List.filterMap_map]at this
 have e2:((fun x=>xs[x]?) ∘ fun x=>i + x)=fun m=>xs[i + m]?:=rfl
 rw[e2]at this
 rw[this]
theorem fZ{t sl:Ml}{items:Array Mj}{vl vu:Mj}{lo hi:Option Int}{Q:Mj->Mm->Prop}(ht:SX s.heap t items)(hs:s.heap.IsSliceOf sl vl vu .none)(pl:P' vl lo)(pu:P' vu hi)
  (hw:¬(sIx items.size 0 lo=0/\sIx items.size items.size hi=items.size))
  (h:Q (.ref s.heap.objs.size) { s with heap:=s.heap.push { cls:=.type "tuple",data:=.seq ((items.toList.drop (sIx items.size 0 lo)).take (sIx items.size items.size hi - sIx items.size 0 lo)).toArray } })
  (hsz:items.size<=sizeLine):Mr (Mw prog w) A (Ph (.ref t) (.ref sl)) Q E s:=by
 have htake:sizeOk (.seq ((items.toList.drop (sIx items.size 0 lo)).take (sIx items.size items.size hi - sIx items.size 0 lo)).toArray):=by
  show((items.toList.drop (sIx items.size 0 lo)).take (sIx items.size items.size hi - sIx items.size 0 lo)).toArray.size<=sizeLine
  rw[q_,D_,HL,g_]
  omega
 have hj:sIx items.size items.size hi<=items.size:=Dl _ _ (f_ _) hi
 obtain⟨os,hos,hcs,hds⟩:=id hs
 have hTs:s.TypeIs (.ref sl) "slice":=⟨os,hos,hcs⟩
 unfold Ph
 try with_reducible refine MM ?_
 first | refine Mi (Mn ?_) | skip
 refine Mi (wpAny_sequenceKey ht.typeIs (by decide) ?_)
 refine Mi (MZ (name:=Nf "__getitem__") ht.typeIs Of
  (MX Of ht.typeIs entry_tuple_getitem ?_ (args_tuple_getitem _ _)))
 show Mr _ _ (SK (.ref t) >>= _) _ _ s
 refine Mi (tupleItemsOf_ ht ?_)
 refine Mi (Rg hTs ?_)
 rw[if_pos (by decide)]
 refine Mi (hX hs pl pu ?_)
 have hno:¬((((sIx items.size 0 lo:Nat):Int) == 0 && (1:Int) == 1 && (sIx items.size items.size hi - sIx items.size 0 lo) == items.size)=true):=by
  intro q
  rw[HP,HP]at q
  have q1:((sIx items.size 0 lo:Nat):Int)=0:=eq_of_beq q.1.1
  have q2:sIx items.size items.size hi - sIx items.size 0 lo=items.size:=eq_of_beq q.2
  exact hw ⟨by lia,by lia⟩
 show Mr _ _ (if(((sIx items.size 0 lo:Nat):Int) == 0 && (1:Int) == 1 && (sIx items.size items.size hi - sIx items.size 0 lo) == items.size)=true then _ else _) _ _ s
 rw[if_neg hno,xy]
 first
  | exact Mi (m:=N8 _) (ML (Mn ⟨_,rfl,Mn h⟩) htake)
  | exact Mi (m:=N8 _) (ML (Mi (Mn (Mn ⟨_,rfl,Mn h⟩))) htake)
  | exact Mi (Mi (m:=N8 _) (ML (Mn (Mn ⟨_,rfl,Mn h⟩)) htake))
  | exact Mi (Mi (m:=N8 _) (ML (Mn ⟨_,rfl,Mn h⟩) htake))
end
end HT
namespace L2
open PySem PySem.Spec PyProof.Rows
abbrev TO:=St->Hp->(Option Int->Hp->Prop)->Prop
noncomputable def PO(X:Cx)(e:Option MB)(t:TO):Prop:=
 ∀(pins:List (Ml × Obj)) (s:Mm) (σ:St) (H:Hp) (Q:Option Int->Hp->Prop),Inv X pins σ H s->t σ H Q->
  Mr (Mw X.prog X.w) X.A (evalPart e X.env) (fun u s'=>∃ o H',Inv X pins σ H' s'/\P' u o/\Q o H') X.xe s
def AL:TO:=fun _ H Q=>Q none H
def GF(t:TE):TO:=fun σ H Q=>t σ H fun x H1=>∃ i,x=.int i/\Q (some i) H1
theorem intsAre_of{ns:List Int}:∀ {us:List Mj},Vals (ns.map V.int) us->Nr us ns:=by
 induction ns with
 | nil=>intro us r;rw[Ja]at r;cases r;exact .nil
 | cons n ns ih=>
  intro us r
  rw[j']at r
  cases r with
  | cons r1 r2=>
   obtain⟨t,e⟩:=r1
   subst e
   exact .cons n t (ih r2)
section
variable{X:Cx}{e:MB}{te:TE}{lo hi:Option MB}{tl th:TO}{pos p2:Pos}
theorem sE:PO X none AL:=by
 intro pins s σ H Q I h
 rw[SM]
 exact Mn ⟨none,H,I,.none,h⟩
theorem ui(h:PE X e te):PO X (some e) (GF te):=by
 intro pins s σ H Q I hw
 rw[evalPart_some]
 refine thn (h pins s σ H _ I hw) ?_
 rintro u s1 ⟨x,H1,I1,r1,q1⟩
 obtain⟨i,rfl,q⟩:=q1
 obtain⟨t,rfl⟩:=r1
 exact⟨some i,H1,I1,.int i t,q⟩
noncomputable def SlR(X:Cx)(r:V->Option Int->Option Int->Hp->VK->Prop):Prop:=
 ∀(pins:List (Ml × Obj)) (s:Mm) (σ:St) (H:Hp) (x:V) (v vl vu:Mj) (lo hi:Option Int) (sl:Ml) (Q:VK),Inv X pins σ H s->RelV x v->s.heap.IsSliceOf sl vl vu .none->P' vl lo->P' vu hi->r x lo hi H Q->
  ∃ T id,typeLookup (.type T) "__getitem__"=pure (some (.builtin id))/\s.TypeIs v T/\Mr (Mw X.prog X.w) X.A (Ph v (.ref sl)) (EP X pins σ Q) X.xe s
noncomputable def tSl(r:V->Option Int->Option Int->Hp->VK->Prop)(te:TE)(tl th:TO):TE:=fun σ H Q=>te σ H fun x H1=>tl σ H1 fun l H2=>th σ H2 fun u H3=>r x l u H3 Q
theorem pR{r:V->Option Int->Option Int->Hp->VK->Prop}(hr:SlR X r)(he:PE X e te)(hl:PO X lo tl)(hu:PO X hi th):PE X (.Subscript e (.Slice lo hi none p2) pos) (tSl r te tl th):=by
 intro pins s σ H Q I h
 refine RY (thn (he pins s σ H _ I h) ?_)
 rintro v s1 ⟨x,H1,I1,r1,q1⟩
 refine wpAny_Slice (thn (hl pins s1 σ H1 _ I1 q1) fun vl s2 ⟨l,H2,I2,pl,q2⟩=>thn (hu pins s2 σ H2 _ I2 q2) ?_)
 rintro vu s3 ⟨u,H3,I3,pu,q3⟩
 rw[SM]
 refine Mn ?_
 have I4:Inv X pins σ H3 { s3 with heap:=s3.heap.push { cls:=.type "slice",data:=.fields #[vl,vu,.none] } }:=I3.kept (t':=s3.toks) fun b ob q=>Mo _ q
 obtain⟨T,id,hT,ht,hg⟩:=hr pins { s3 with heap:=s3.heap.push { cls:=.type "slice",data:=.fields #[vl,vu,.none] } } σ H3 x v vl vu l u s3.heap.objs.size Q I4 r1 (Ux ..) pl pu q3
 show Mr (Mw X.prog X.w) X.A (OZ e (.Slice lo hi none p2) v (.ref s3.heap.objs.size)) (EP X pins σ Q) X.xe { s3 with heap:=s3.heap.push { cls:=.type "slice",data:=.fields #[vl,vu,.none] } }
 exact tail_any (ops:=[.ref s3.heap.objs.size,v]) ht hT hg (by with_unfolding_all rfl)
noncomputable def dG(xs:List V)(lo hi:Option Int):List V:=(xs.drop (HT.sIx xs.length 0 lo)).take (HT.sIx xs.length xs.length hi - HT.sIx xs.length 0 lo)
theorem iw(xs:List V)(lo hi:Option Int):(dG xs lo hi).length<=xs.length:=by
 unfold dG
 rw[D_,HL]
 lia
noncomputable def HG(K:Mk):V->Option Int->Option Int->Hp->VK->Prop:=fun x lo hi H Q=>∃ a xs,x=.ref a/\SqT K H a xs/\
 ¬(HT.sIx xs.length 0 lo=0/\HT.sIx xs.length xs.length hi=xs.length)/\∀ p,H p=none->Q (.ref p) (upd H p (.tup (dG xs lo hi)))
theorem E8:SlR X (HG X.K):=by
 intro pins s σ H x v vl vu lo hi sl Q I rx hs pl pu h
 obtain⟨a,xs,rfl,hx,hw,q⟩:=h
 cases rx
 obtain⟨its,r,ht,hz⟩:=I.tuple hx
 have hlen:its.toArray.size=xs.length:=by rw[q_];exact r.length.symm
 refine⟨"tuple",_,Of.lookup,ht.typeIs,?_⟩
 refine HT.fZ ht hs pl pu (by rw[hlen];exact hw) ?_ (by rw[hlen];exact hz)
 rw[hlen]
 refine⟨.ref s.heap.objs.size,_,I.laid (t':=s.toks) (o:=.tup (dG xs lo hi)) (fun b ob q=>Mo _ q) (f_ _) ?_,rfl,q _ (I.hok.fresh (f_ _))⟩
 exact⟨v_ (iw xs lo hi) hz,_,(r.drop (HT.sIx xs.length 0 lo)).take (HT.sIx xs.length xs.length hi - HT.sIx xs.length 0 lo),Q9 _ _⟩
noncomputable def Gj(K:Mk):R2:=fun x y H Q=>∃ a b xs ys,x=.ref a/\y=.ref b/\SqT K H a xs/\SqT K H b ys/\xs≠[]/\xs.length + ys.length<=sizeLine/\
 (ys=[]->Q (.ref a) H)/\(ys≠[]->∀ p,H p=none->Q (.ref p) (upd H p (.tup (xs++ys))))
theorem Vals.mV {xs:List V}{us:List Mj}(r:Vals xs us):us=[]↔xs=[]:=by
 cases r with
 | nil=>simp
 | cons _ _=>simp
theorem Bx:OpR X (Nn .Add) (Gj X.K):=by
 intro pins s σ H x y v u Q I rx ry h
 obtain⟨a,b,xs,ys,rfl,rfl,ha,hb,hx,hz,q1,q2⟩:=h
 cases rx
 cases ry
 obtain⟨its,r1,p1,_⟩:=I.tuple ha
 obtain⟨its2,r2,p2,_⟩:=I.tuple hb
 refine HT.zN p1 p2 (fun z=>hx (r1.mV.mp z)) (fun z=>⟨.ref a,H,I,rfl,q1 (r2.mV.mp z)⟩) (fun z=>?_) (by rw[<-r1.length,<-r2.length];exact hz)
 refine⟨.ref s.heap.objs.size,_,I.laid (t':=s.toks) (o:=.tup (xs++ys)) (fun b ob q=>Mo _ q) (f_ _) ?_,rfl,q2 (fun w=>z (r2.mV.mpr w)) _ (I.hok.fresh (f_ _))⟩
 exact⟨by rw[f'];exact hz,_,r1.append r2,Q9 _ _⟩
theorem iH:bA X (.type "tuple") (fun xs H Q=>∃ a ys,xs=[.ref a]/\SqT X.K H a ys/\Q (.ref a) H):=by
 intro pins s σ H xs us Q I r h
 obtain⟨a,ys,rfl,ha,q⟩:=h
 obtain⟨u,rfl,ru⟩:=vals1 r
 cases ru
 obtain⟨its,_,p1,_⟩:=I.tuple ha
 exact RZ (items:=its.toArray) p1 ⟨.ref a,H,I,rfl,q⟩
end
noncomputable def ixN(n:Nat)(i:Int):Option Nat:=if 0<=i then(if i < n then some i.toNat else none)else if -(n:Int)<=i then some (i + n).toNat else none
def atI{α:Type}(xs:List α)(i:Int):Option α:=(ixN xs.length i).bind fun j=>xs[j]?
theorem nM{n:Nat}{i:Int}{j:Nat}(h:ixN n i=some j):seqIndex? i n=some j/\j < n/\-(n:Int)<=i/\i < n:=by
 unfold ixN at h
 by_cases h0:0<=i
 ·rw[if_pos h0]at h
  by_cases h1:i < n
  ·rw[if_pos h1]at h
   have e:i.toNat=j:=HU h
   exact⟨by rw[RE h0 h1,e],by lia,by lia,h1⟩
  rw[if_neg h1]at h;cases h
 rw[if_neg h0]at h
 by_cases h1:-(n:Int)<=i
 ·rw[if_pos h1]at h
  have e:(i + n).toNat=j:=HU h
  exact⟨by rw[Rh (by lia) h1,e],by lia,h1,by lia⟩
 rw[if_neg h1]at h;cases h
theorem nq{α:Type}{xs:List α}{i:Int}{v:α}(h:atI xs i=some v):∃ j,seqIndex? i xs.length=some j/\xs[j]?=some v/\j < xs.length/\-(xs.length:Int)<=i/\i < xs.length:=by
 unfold atI at h
 cases e:ixN xs.length i with
 | none=>rw[e]at h;cases h
 | some j=>
  rw[e]at h
  obtain⟨h1,h2,h3,h4⟩:=nM e
  exact⟨j,h1,h,h2,h3,h4⟩
theorem cz{α:Type}{xs:List α}{j:Nat}{v:α}(h:xs[j]?=some v):atI xs (j:Int)=some v:=by
 have hj:j < xs.length:=(gV.mp h).1
 have e:ixN xs.length (j:Int)=some j:=by
  unfold ixN
  rw[if_pos (by lia),if_pos (by lia)];simp
 unfold atI;rw[e];exact h
def tP(b:MB):Prop:=∀ o i,Pp b false o i=Uk [o,i] (Ph o i)
noncomputable def IxR(X:Cx)(r:R2):Prop:=
 ∀(value slice:MB) (pins:List (Ml × Obj)) (s:Mm) (σ:St) (H:Hp) (x y:V) (v u:Mj) (Q:VK),Inv X pins σ H s->RelV x v->RelV y u->r x y H Q->
  Pp slice false v u=Uk [v,u] (Ph v u)->Mr (Mw X.prog X.w) X.A (OZ value slice v u) (EP X pins σ Q) X.xe s
noncomputable def MtR(X:Cx)(id:String)(r:V->List V->Hp->VK->Prop):Prop:=
 ∀(pins:List (Ml × Obj)) (s:Mm) (σ:St) (H:Hp) (x:V) (xs:List V) (v:Mj) (us:List Mj) (Q:VK),Inv X pins σ H s->RelV x v->Vals xs us->r x xs H Q->
  Mr (Mw X.prog X.w) X.A (call (.builtin id) (v::us)) (EP X pins σ Q) X.xe s
section
variable{X:Cx}{a b:MB}{ta tb:TE}{pos:Pos}
theorem IxR.or {r r':R2}(h:IxR X r)(h':IxR X r'):IxR X (fun x y H Q=>r x y H Q\/r' x y H Q):=by
 intro value slice pins s σ H x y v u Q I rx ry q hs
 rcases q with q | q
 ·exact h value slice pins s σ H x y v u Q I rx ry q hs
 exact h' value slice pins s σ H x y v u Q I rx ry q hs
theorem BQ{r:R2}(hr:IxR X r)(ha:PE X a ta)(hb:PE X b tb)(hs:tP b):PE X (.Subscript a b pos) (tOp r ta tb):=by
 intro pins s σ H Q I h
 exact RY (DM ha hb I h fun v u s2 x y H2 I2 rx ry q=>hr a b pins s2 σ H2 x y v u Q I2 rx ry q (hs _ _))
def FR(K:Mk):R2:=fun x y H Q=>∃ p xs i v,x=.ref p/\y=.int i/\SqL K H p xs/\atI xs i=some v/\Q v H
def Ga(K:Mk):R2:=fun x y H Q=>∃ p xs i v,x=.ref p/\y=.int i/\SqT K H p xs/\atI xs i=some v/\Q v H
noncomputable def G5:R2:=fun x y H Q=>∃ z i c,x=.str z/\y=.int i/\z.length<=sizeLine/\atI z.cps.toList i=some c/\Q (.str ⟨#[c]⟩) H
theorem sJ:IxR X (FR X.K):=by
 intro value slice pins s σ H x y v u Q I rx ry h hs
 obtain⟨p,xs,i,z,rfl,rfl,hq,he,q⟩:=h
 cases rx
 obtain⟨t,rfl⟩:=ry
 obtain⟨its,r,pl,hz⟩:=I.list hq
 obtain⟨j,h1,h2,h3,h4,h5⟩:=nq he
 obtain⟨w,ew,rw'⟩:=r.get h2
 have hl:=r.length
 have hn:=eY
 have fin:EP X pins σ Q w s:=⟨z,H,I,rw',q⟩
 by_cases h0:0<=i
 ·have hj:i.toNat=j:=by
   rw[RE h0 h5]at h1
   exact HU h1
  exact item_listR pl.isList h0 (by lia) (by rw[hj];simpa using ew) fin hs
 have hj:(i + (its.toArray.size:Int)).toNat=j:=by
  rw[Rh (by lia) h4]at h1
  rw[q_,<-hl]
  exact HU h1
 exact Qv (x:=w) pl.isList.typeIs slot_list_getitem.lookup
  (wpAny_getItem_list_neg (Q:=fun r s'=>r=w/\EP X pins σ Q r s') pl.isList (by lia) (by rw[q_] <;> lia) (by lia) (by rw[hj];simpa using ew) ⟨rfl,fin⟩) hs
theorem EI:IxR X (Ga X.K):=by
 intro value slice pins s σ H x y v u Q I rx ry h hs
 obtain⟨p,xs,i,z,rfl,rfl,hq,he,q⟩:=h
 cases rx
 obtain⟨t,rfl⟩:=ry
 obtain⟨its,r,pl,hz⟩:=I.tuple hq
 obtain⟨j,h1,h2,h3,h4,h5⟩:=nq he
 obtain⟨w,ew,rw'⟩:=r.get h2
 have hl:=r.length
 have hn:=eY
 have fin:EP X pins σ Q w s:=⟨z,H,I,rw',q⟩
 exact Qv (x:=w) pl.typeIs slot_tuple_getitem.lookup
  (getItem_tuple (j:=j) (Q:=fun r s'=>r=w/\EP X pins σ Q r s') pl (by lia) (by lia) (by rw[q_,<-hl];exact h1) (by simpa using ew) ⟨rfl,fin⟩) hs
theorem ye:IxR X G5:=by
 intro value slice pins s σ H x y v u Q I rx ry h hs
 obtain⟨z,i,c,rfl,rfl,hz,he,q⟩:=h
 obtain⟨t,rfl⟩:=rx
 obtain⟨t',rfl⟩:=ry
 obtain⟨j,h1,h2,h3,h4,h5⟩:=nq he
 have hl:z.cps.toList.length=z.length:=by simp[Str.length]
 rw[hl]at h1 h4 h5
 have hn:=eY
 exact tail_any (typeIs_str s z t) slot_str_getitem.lookup (getItem_str (c:=c) (by
  have e1:decide (i < -(2 ^ 63:Int))=false:=decide_eq_false (by lia)
  have e2:decide (i>=2 ^ 63)=false:=decide_eq_false (by lia)
  rw[e1,e2,L4]) (by rw[h1];simpa using h2) ⟨.str ⟨#[c]⟩,H,I.tok _,⟨_,rfl⟩,q⟩) hs
def rIx(K:Mk):R2:=fun x y H Q=>FR K x y H Q\/Ga K x y H Q\/G5 x y H Q
theorem CZ:IxR X (rIx X.K):=sJ.or (EI.or ye)
theorem ql(its:List Mj)(n j:Nat)(u:Mj):MN (·.setIfInBounds j u) { cls:=.type "list",data:=.seq its.toArray n }={ cls:=.type "list",data:=.seq (its.set j u).toArray n }:=by
 simp[MN]
theorem Inv.lst {pins:List (Ml × Obj)}{σ:St}{H:Hp}{s:Mm}{p:Ml}{xs:List V}(I:Inv X pins σ H s)(h:H p=some (.lst xs)) :
  ∃(its:List Mj) (n:Nat),Vals xs its/\s.heap.get? p=some { cls:=.type "list",data:=.seq its.toArray n }/\xs.length<=sizeLine:=by
 obtain⟨z,its,n,r,e⟩:=I.hok p _ h
 exact⟨its,n,r,e,z⟩
theorem Inv.E6 {pins:List (Ml × Obj)}{σ:St}{H:Hp}{s:Mm}{p:Ml}{xs ys:List V}{its its':List Mj}{n n':Nat}{f:Obj->Obj}(I:Inv X pins σ H s)(h:H p=some (.lst xs))
  (ho:s.heap.get? p=some { cls:=.type "list",data:=.seq its.toArray n }) (hf:f { cls:=.type "list",data:=.seq its.toArray n }={ cls:=.type "list",data:=.seq its'.toArray n' }) (r:Vals ys its') (hz:ys.length<=sizeLine) (t:Nat) :
  Inv X pins σ (upd H p (.lst ys)) { s with heap:=s.heap.update p f,toks:=t }:=by
 have e:(s.heap.update p f).get? p=some { cls:=.type "list",data:=.seq its'.toArray n' }:=by
  rw[M6 f ho (by rw[hf] <;> rfl),hf]
 refine I.write (x:=p) (e:=p) (by rw[h];trivial) (.inl rfl) (fun b u hb q=>(NA _ _ (N4 hb)).trans q) ⟨_,e⟩ ?_
 exact⟨hz,its',n',r,e⟩
noncomputable def Gm:V->V->V->Hp->(Hp->Prop)->Prop:=fun o i v H Q=>∃ p xs k j,o=.ref p/\i=.int k/\H p=some (.lst xs)/\ixN xs.length k=some j/\Q (upd H p (.lst (xs.set j v)))
theorem set_list:qZ X Gm:=by
 intro pins s σ H o i v ov iv u Q I ro ri rv h
 obtain⟨p,xs,k,j,rfl,rfl,hp,hj,q⟩:=h
 cases ro
 obtain⟨t,rfl⟩:=ri
 obtain⟨its,n,r,ho,hz⟩:=I.lst hp
 obtain⟨h1,h2,h3,h4⟩:=nM hj
 have hl:=r.length
 have hn:=eY
 have I':Inv X pins σ (upd H p (.lst (xs.set j v))) { s with heap:=s.heap.update p (MN (·.setIfInBounds j u)) }:=
  I.E6 hp ho (ql its n j u) (r.set rv j) (by rw[HV];exact hz) s.toks
 by_cases h0:0<=k
 ·have hk:k.toNat=j:=by
   rw[RE h0 h4]at h1
   exact HU h1
  exact PySem.W.ki_setAt ho h0 (by lia) (by rw[q_,<-hl];exact h4) (by rw[hk];exact⟨_,I',q⟩)
 have hk:(k + (its.toArray.size:Int)).toNat=j:=by
  rw[Rh (by lia) h3]at h1
  rw[q_,<-hl]
  exact HU h1
 exact PySem.W.ki_setBack ho (by lia) (by rw[q_,<-hl];exact h3) (by lia) (by rw[hk];exact⟨_,I',q⟩)
theorem n6(lo hi:Option Int)(n:Nat):(OB lo hi none n).1=((HT.sIx n 0 lo:Nat):Int)/\(OB lo hi none n).2.1=((HT.sIx n n hi:Nat):Int)/\(OB lo hi none n).2.2=1:=by
 refine⟨?_,?_,rfl⟩
 ·cases lo with
  | none=>simp[OB,HT.sIx]
  | some i=>
   simp only[OB,HT.sIx,LK,show(1:Int) > 0 by decide,if_true]
   by_cases h:i < 0
   ·simp only[h,if_true] <;> lia
   simp only[h,if_false] <;> lia
 cases hi with
 | none=>simp[OB,HT.sIx]
 | some i=>
  simp only[OB,HT.sIx,LK,show(1:Int) > 0 by decide,if_true]
  by_cases h:i < 0
  ·simp only[h,if_true] <;> lia
  simp only[h,if_false] <;> lia
theorem kA(its:List Mj)(lo hi:Option Int):slicePick its.toArray lo hi none=((its.drop (HT.sIx its.length 0 lo)).take (HT.sIx its.length its.length hi - HT.sIx its.length 0 lo)).toArray:=by
 obtain⟨h1,h2,h3⟩:=n6 lo hi its.toArray.size
 unfold slicePick
 rw[h1,h2,h3]
 simp only[sliceRange_one,pick_run,q_] <;> rfl
noncomputable def HD(K:Mk):V->Option Int->Option Int->Hp->VK->Prop:=fun x lo hi H Q=>∃ a xs,x=.ref a/\SqL K H a xs/\∀ p,H p=none->Q (.ref p) (upd H p (.lst (dG xs lo hi)))
theorem tj:SlR X (HD X.K):=by
 intro pins s σ H x v vl vu lo hi sl Q I rx hs pl pu h
 obtain⟨a,xs,rfl,hx,q⟩:=h
 cases rx
 obtain⟨its,r,ht,hz⟩:=I.list hx
 have hlen:=r.length
 refine⟨"list",_,slot_list_getitem.lookup,ht.isList.typeIs,?_⟩
 refine wpAny_getItem_list_slice ht.isList hs pl pu .none (by simp) ?_ (by rw[q_] <;> lia)
 rw[kA,<-hlen]
 refine⟨.ref s.heap.objs.size,_,I.laid (t':=s.toks) (o:=.lst (dG xs lo hi)) (fun b ob q=>Mo _ q) (f_ _) ?_,rfl,q _ (I.hok.fresh (f_ _))⟩
 exact⟨v_ (iw xs lo hi) hz,_,0,(r.drop (HT.sIx xs.length 0 lo)).take (HT.sIx xs.length xs.length hi - HT.sIx xs.length 0 lo),Mt _ rfl⟩
theorem cB:bA X (.builtin "len") (fun xs H Q=>∃ p ys,xs=[.ref p]/\(SqL X.K H p ys\/SqT X.K H p ys)/\Q (.int ys.length) H):=by
 intro pins s σ H xs us Q I r h
 obtain⟨p,ys,rfl,hq,q⟩:=h
 obtain⟨u,rfl,rx⟩:=vals1 r
 cases rx
 have hn:=eY
 rcases hq with hq | hq
 ·obtain⟨its,r',pl,hz⟩:=I.list hq
  have hlen:=r'.length
  exact Calls.call_len_list pl.isList (by simp only[q_] <;> lia) ⟨.int ys.length,H,I.tok _,⟨s.toks + 1,by rw[q_,hlen]⟩,q⟩
 obtain⟨its,r',pl,hz⟩:=I.tuple hq
 have hlen:=r'.length
 exact len_tuple pl (by simp only[q_] <;> lia) ⟨.int ys.length,H,I.tok _,⟨s.toks + 1,by rw[q_,hlen]⟩,q⟩
theorem mG:bA X (.builtin "len") (fun xs H Q=>∃ z,xs=[.str z]/\z.length<=sizeLine/\Q (.int z.length) H):=by
 intro pins s σ H xs us Q I r h
 obtain⟨z,rfl,hz,q⟩:=h
 obtain⟨u,rfl,t,rfl⟩:=vals1 r
 have hn:=eY
 exact len_str (by lia) ⟨.int z.length,H,I.tok _,⟨_,rfl⟩,q⟩
theorem mN:bA X (.type "list") (fun xs H Q=>∃ p ys,xs=[.ref p]/\(SqL X.K H p ys\/SqT X.K H p ys)/\∀ l,H l=none->Q (.ref l) (upd H l (.lst ys))):=by
 intro pins s σ H xs us Q I r h
 obtain⟨p,ys,rfl,hq,q⟩:=h
 obtain⟨u,rfl,rx⟩:=vals1 r
 cases rx
 have fin:∀(its:List Mj),Vals ys its->ys.length<=sizeLine->∀(h':MD) (c':Nat),(∀ b o',s.heap.get? b=some o'->h'.get? b=some o')->
   h'.get? s.heap.objs.size=some { cls:=.type "list",dict:=none,data:=.seq its.toArray c',slots:=#[] }->EP X pins σ Q (.ref s.heap.objs.size) { s with heap:=h' }:=fun its r' hz h' c' kp e=>
  ⟨.ref s.heap.objs.size,_,I.laid (t':=s.toks) kp (f_ _) (show b9 X.prog X.w _ h' _ (.lst ys)from⟨hz,its,c',r',e⟩),rfl,q _ (I.hok.fresh (f_ _))⟩
 rcases hq with hq | hq
 ·obtain⟨its,r',pl,hz⟩:=I.list hq
  have hlen:=r'.length
  obtain⟨o,ho,hc,n,hd⟩:=pl.isList
  exact SN p (.inl rfl) ho hc hd (fun h' c' kp e=>fin its r' hz h' c' kp e) (by simp only[q_] <;> lia)
 obtain⟨its,r',pl,hz⟩:=I.tuple hq
 have hlen:=r'.length
 obtain⟨o,ho,hc,n,hd⟩:=pl
 exact SN p (.inr rfl) ho hc hd (fun h' c' kp e=>fin its r' hz h' c' kp e) (by simp only[q_] <;> lia)
theorem kF:bA X (.type "tuple") (fun xs H Q=>∃ p ys,xs=[.ref p]/\((SqL X.K H p ys/\∀ l,H l=none->Q (.ref l) (upd H l (.tup ys)))\/(SqT X.K H p ys/\Q (.ref p) H))):=by
 intro pins s σ H xs us Q I r h
 obtain⟨p,ys,rfl,h⟩:=h
 obtain⟨u,rfl,rx⟩:=vals1 r
 cases rx
 rcases h with⟨hq,q⟩ | ⟨hq,q⟩
 ·obtain⟨its,r',pl,hz⟩:=I.list hq
  have hlen:=r'.length
  refine call_tuple_list pl.isList (fun h' kp=>?_) (by simp only[q_] <;> lia)
  have I1:Inv X pins σ H { s with heap:=h' }:=I.kept (t':=s.toks) kp
  have I2:Inv X pins σ (upd H h'.objs.size (.tup ys)) { s with heap:=h'.push { cls:=.type "tuple",data:=.seq its.toArray } }:=
   I1.laid (t':=s.toks) (fun b o e=>Mo _ e) (f_ _) (show b9 X.prog X.w _ _ _ (.tup ys)from⟨hz,its,r',Q9 _ _⟩)
  exact⟨.ref h'.objs.size,_,I2,rfl,q _ (I1.hok.fresh (f_ _))⟩
 obtain⟨its,r',pl,hz⟩:=I.tuple hq
 exact RZ pl ⟨.ref p,H,I,rfl,q⟩
noncomputable def tyV(K:Mk)(T:String)(x:V)(H:Hp):Prop:=match x with
 | .str _=>T="str"
 | .int _=>T="int"
 | .ref p=>(T="list"/\∃ xs,SqL K H p xs)\/(T="tuple"/\∃ o,K.lookup p=some o/\o.cls=.type "tuple"/\o.dict=none)\/
   (T="dict"/\((∃ kvs,H p=some (.dK kvs))\/∃ kvs,H p=some (.dT kvs)))\/(T="set"/\∃ S n,H p=some (.set S n))
 | _=>False
theorem xJ{pins:List (Ml × Obj)}{σ:St}{H:Hp}{s:Mm}{T:String}{x:V}{v:Mj}(I:Inv X pins σ H s)(r:RelV x v)(ty:tyV X.K T x H) :
  s.TypeIs v T/\∀ a,v=.ref a->∃ ob,s.heap.get? a=some ob/\ob.dict=none:=by
 cases x with
 | str z=>
  obtain⟨t,rfl⟩:=r
  cases (show T="str" from ty)
  exact⟨typeIs_str s z t,fun _ e=>nomatch e⟩
 | int i=>
  obtain⟨t,rfl⟩:=r
  cases (show T="int" from ty)
  exact⟨typeIs_int s i t,fun _ e=>nomatch e⟩
 | ref p=>
  cases r
  rcases ty with⟨rfl,xs,hq⟩ | ⟨rfl,o,hk,hc,hd⟩ | ⟨rfl,hk⟩ | ⟨rfl,S,n,hk⟩
  ·obtain⟨its,_,pl,_⟩:=I.list hq
   refine⟨pl.isList.typeIs,fun a e=>?_⟩
   cases e
   obtain⟨o,n,e,c,hd,_⟩:=pl
   exact⟨o,e,hd⟩
  ·refine⟨⟨o,I.kIn p o hk,hc⟩,fun a e=>?_⟩
   cases e
   exact⟨o,I.kIn _ o hk,hd⟩
  ·have z:∃ o,s.heap.get? p=some o/\o.ExactDict:=by
    rcases hk with⟨kvs,hk⟩ | ⟨kvs,hk⟩
    ·obtain⟨_,_,_,_,o,_,_,e,ex,_⟩:=I.hok p _ hk
     exact⟨o,e,ex⟩
    obtain⟨_,_,_,_,o,_,_,e,ex,_⟩:=I.hok p _ hk
    exact⟨o,e,ex⟩
   obtain⟨o,e,ex⟩:=z
   refine⟨⟨o,e,ex.1⟩,fun a e2=>?_⟩
   cases e2
   exact⟨o,e,ex.2.1⟩
  ·obtain⟨o,_,_,_,e,ex,_⟩:=I.hok p _ hk
   refine⟨⟨o,e,ex.1⟩,fun a e2=>?_⟩
   cases e2
   exact⟨o,e,ex.2.1⟩
 | _=>exact MI ty
noncomputable def Hs(K:Mk)(T:String)(r:V->List V->Hp->VK->Prop)(to:TE):TE:=fun σ H Q=>to σ H fun x H1=>tyV K T x H1/\r x [] H1 Q
noncomputable def tBM(K:Mk)(T:String)(r:V->List V->Hp->VK->Prop)(to:TE)(t:TA):TE:=fun σ H Q=>to σ H fun x H1=>tyV K T x H1/\t σ H1 fun xs H2=>r x xs H2 Q
variable{o e:MB}{es:List MB}{to:TE}{t:TA}{name:Str}{apos cpos:Pos}{T id:String}{r:V->List V->Hp->VK->Prop}
theorem Ct(pa:PlainAttrs T)(slot:TC T name id)(hty:TF (.builtin id)=pure (.type "method_descriptor"))(hm:MtR X id r)(ho:PE X o to)
  (hbase:PN o name X.env (MQ o X.env)=MQ o X.env:=by rfl) (hline:(apos.endLine == cpos.line)=true:=by rfl):PE X (.Call (.Attribute o name apos) [] [] cpos) (Hs X.K T r to):=by
 intro pins s σ H Q I h
 refine wpAny_Call_method0_late hbase hline (thn (ho pins s σ H _ I h) ?_)
 rintro v s1 ⟨x,H1,I1,r1,ty,q1⟩
 obtain⟨h1,h2⟩:=xJ I1 r1 ty
 exact⟨T,id,pa,slot,hty,h1,h2,Qw rfl (PySem.evalArgs_none (hm pins s1 σ H1 x [] v [] Q I1 r1 .nil q1))⟩
theorem Gu(pa:PlainAttrs T)(slot:TC T name id)(hty:TF (.builtin id)=pure (.type "method_descriptor"))(hm:MtR X id r)(ho:PE X o to)(ha:PA X (e::es) t)
  (hbase:PN o name X.env (MQ o X.env)=MQ o X.env:=by rfl)
  (hfew:((Ot cpos (ME (e::es) X.env)).all (fun x=>!x.1) && (backToKw cpos (Ub [] X.env)).all (fun x=>x.1.isSome)
   && decide ((e::es).length + ([]:List Sr).length + (if([]:List Sr).isEmpty then 0 else 1) < 30))=true:=by rfl)
  (hline:(apos.endLine == cpos.line)=true:=by rfl) (hs:ME (e::es) X.env=(false,MQ e X.env)::ME es X.env:=by rfl) (hplain:(Ot cpos (ME es X.env)).any (·.1)=false:=by rfl) :
  PE X (.Call (.Attribute o name apos) (e::es) [] cpos) (tBM X.K T r to t):=by
 intro pins s σ H Q I h
 refine wpAny_Call_method_late hbase hfew hline rfl (thn (ho pins s σ H _ I h) ?_)
 rintro v s1 ⟨x,H1,I1,r1,ty,q1⟩
 obtain⟨h1,h2⟩:=xJ I1 r1 ty
 refine⟨T,id,pa,slot,hty,h1,h2,?_⟩
 have hA:=ha cpos pins s1 σ H1 _ I1 q1
 rw[hs]at hA ⊢
 refine Qw (by show(false || (Ot cpos (ME es X.env)).any (·.1))=false;rw[hplain] <;> rfl) (Calls.evalArgs_plain ?_)
 exact thn hA fun us s2 ⟨vs,H2,I2,r2,q2⟩=>hm pins s2 σ H2 x vs v us Q I2 r1 r2 q2
end
noncomputable def MtM(X:Cx)(id:String)(r:V->List V->Hp->VK->Prop):Prop:=
 ∀(pins:List (Ml × Obj)) (s:Mm) (σ:St) (H:Hp) (x:V) (xs:List V) (v:Mj) (us:List Mj) (Q:VK),Inv X pins σ H s->RelV x v->Vals xs us->r x xs H Q->
  Mr (Mw X.prog X.w) X.A (call (.builtin id) (v::us)) (EP X pins σ Q) X.xe s
theorem Vals.one:∀ {x:V} {us:List Mj},Vals [x] us->∃ u,us=[u]/\RelV x u
 | _,_,.cons r .nil=>⟨_,rfl,r⟩
theorem Vals.zero:∀ {us:List Mj},Vals [] us->us=[]
 | _,.nil=>rfl
theorem Vals.dropLast {xs:List V}{us:List Mj}(h:Vals xs us):Vals xs.dropLast us.dropLast:=by
 induction h with
 | nil=>exact .nil
 | cons r t ih=>
  cases t with
  | nil=>exact .nil
  | cons q t'=>exact .cons r ih
theorem rm{α:Type}(l:List α):l.eraseIdx (l.length - 1)=l.dropLast:=by
 induction l with
 | nil=>rfl
 | cons a r ih=>
  cases r with
  | nil=>rfl
  | cons b r=>
   have e:(a::b::r).length - 1=((b::r).length - 1) + 1:=by
    have h1:(a::b::r).length=r.length + 2:=rfl
    have h2:(b::r).length=r.length + 1:=rfl
    lia
   rw[e,List.eraseIdx_cons_succ,ih]
   all_goals rfl
section
variable{X:Cx}{pins:List (Ml × Obj)}{σ:St}{H:Hp}{s:Mm}{l b:Ml}{xs ys zs:List V}
theorem Inv.Er {its its':List Mj}{n:Nat}{f:Array Mj->Array Mj}{t':Nat}(I:Inv X pins σ H s)(hH:H l=some (.lst xs))
  (e:s.heap.get? l=some { cls:=.type "list",data:=.seq its.toArray n }) (hf:f its.toArray=its'.toArray) (hv:Vals ys its') (hz:ys.length<=sizeLine) :
  Inv X pins σ (upd H l (.lst ys)) { s with heap:=s.heap.update l (MN f),toks:=t' }:=by
 have q:=UM e f
 rw[hf]at q
 refine I.write (x:=l) (e:=l) (by rw[hH];exact trivial) (.inl rfl) (fun b' u hb hu=>(NA s.heap (MN f) (N4 hb)).trans hu) ⟨_,q⟩ ?_
 exact⟨hz,its',_,hv,q⟩
theorem Inv.HJ {its:List Mj}{t':Nat}(I:Inv X pins σ H s)(hv:Vals ys its)(hz:ys.length<=sizeLine) :
  Inv X pins σ (upd H s.heap.objs.size (.lst ys)) { s with heap:=s.heap.push { cls:=.type "list",data:=.seq its.toArray },toks:=t' }:=
 I.laid (fun _ _ q=>Mo _ q) (f_ _) ⟨hz,its,0,hv,Mt _ rfl⟩
theorem Inv.fresh (I:Inv X pins σ H s):H s.heap.objs.size=none:=I.hok.fresh (f_ _)
theorem Inv.zY (I:Inv X pins σ H s)(hH:H l=some (.lst xs)):xs.length<=sizeLine/\∃(its:List Mj) (n:Nat),Vals xs its/\xs.length=its.length/\s.heap.get? l=some { cls:=.type "list",data:=.seq its.toArray n }:=by
 obtain⟨z,its,n,r,e⟩:=I.hok l _ hH
 exact⟨z,its,n,r,r.length,e⟩
theorem wY{n:Nat}(h:n<=sizeLine):OI n=false:=by
 unfold OI
 exact decide_eq_false (by lia)
end
section
variable{X:Cx}
noncomputable def zQ:V->List V->Hp->VK->Prop:=fun x vs H Q=>∃ l xs y,x=.ref l/\vs=[y]/\H l=some (.lst xs)/\xs.length < sizeLine/\Q .non (upd H l (.lst (xs++[y])))
theorem ik:MtM X "list.append" zQ:=by
 intro pins s σ H x vs v us Q I rx rv h
 obtain⟨l,xs,y,rfl,rfl,hH,hz,q⟩:=h
 cases rx
 obtain⟨u,rfl,ru⟩:=rv.one
 obtain⟨z,its,n,r,hl,e⟩:=I.zY hH
 refine R0 F.slot_list_append ⟨_,e,rfl⟩ F.entry_list_append (F.args_list_append_2 _ _) (PySem.list_append l its.toArray n u (by rw[q_];lia)) ⟨e,?_⟩
 refine⟨.non,_,I.Er (its':=its++[u]) hH e (by simp) (r.append (.cons ru .nil)) ?_,rfl,q⟩
 rw[f',Ld]
 lia
noncomputable def Bc:V->List V->Hp->VK->Prop:=fun x vs H Q=>∃ l b xs zs,x=.ref l/\vs=[.ref b]/\H l=some (.lst xs)/\H b=some (.lst zs)/\xs.length + zs.length<=sizeLine/\Q .non (upd H l (.lst (xs++zs)))
theorem uI:MtM X "list.extend" Bc:=by
 intro pins s σ H x vs v us Q I rx rv h
 obtain⟨l,b,xs,zs,rfl,rfl,hH,hB,hz,q⟩:=h
 cases rx
 obtain⟨u,rfl,ru⟩:=rv.one
 cases ru
 obtain⟨z,its,n,r,hl,e⟩:=I.zY hH
 obtain⟨z2,its2,n2,r2,hl2,e2⟩:=I.zY hB
 have hsz:its.toArray.size + its2.toArray.size<=sizeLine:=by rw[q_,q_];lia
 have hlong:¬(!its.toArray.isEmpty && OI (its.toArray.size + its2.toArray.size))=true:=by
  rw[wY hsz,L0]
  exact B_
 refine R0 F.slot_list_extend ⟨_,e,rfl⟩ F.entry_list_extend (F.args_list_extend_2 _ _)
  (RK l its.toArray n b its2.toArray n2 hlong (by rw[q_];lia) (by lia)) ⟨e,e2,?_⟩
 refine⟨.non,_,I.Er (its':=its++its2) hH e (by simp) (r.append r2) ?_,rfl,q⟩
 rw[f']
 omega
noncomputable def Hb:V->List V->Hp->VK->Prop:=fun x vs H Q=>∃ l xs y,x=.ref l/\vs=[]/\H l=some (.lst xs)/\xs[xs.length - 1]?=some y/\Q y (upd H l (.lst xs.dropLast))
theorem CK:MtM X "list.pop" Hb:=by
 intro pins s σ H x vs v us Q I rx rv h
 obtain⟨l,xs,y,rfl,rfl,hH,hy,q⟩:=h
 cases rx
 have hus:=rv.zero
 subst hus
 obtain⟨z,its,n,r,hl,e⟩:=I.zY hH
 obtain⟨u,hu,ru⟩:=r.get hy
 have hy':its.toArray[its.toArray.size - 1]?=some u:=by
  show its.toArray[its.length - 1]?=some u
  rw[<-e_,<-hl]
  exact hu
 refine R0 F.slot_list_pop ⟨_,e,rfl⟩ F.entry_list_pop (F.args_list_pop_1 _) (Uc l its.toArray n u hy' (by rw[q_];lia)) ⟨e,?_⟩
 refine⟨y,_,I.Er (its':=its.dropLast) hH e ?_ r.dropLast ?_,ru,q⟩
 ·show its.toArray.eraseIdxIfInBounds (its.toArray.size - 1)=its.dropLast.toArray
  rw[q_,List.eraseIdxIfInBounds_toArray,rm]
 rw[Jg]
 lia
end
section
variable{κ:Type}[DecidableEq κ]
def cH(kvs:List (κ × V))(k:κ):Option V:=(kvs.find? fun kv=>decide (kv.1=k)).map (·.2)
noncomputable def putK(kvs:List (κ × V))(k:κ)(v:V):List (κ × V):=
 if(kvs.any fun kv=>decide (kv.1=k))=true then kvs.map (fun kv=>if kv.1=k then(kv.1,v)else kv)else kvs++[(k,v)]
theorem jf{p:κ × V}{r:List (κ × V)}{k:κ}(e:p.1=k):cH (p::r) k=some p.2:=by simp[cH,IA,e]
theorem jQ{p:κ × V}{r:List (κ × V)}{k:κ}(e:¬ p.1=k):cH (p::r) k=cH r k:=by simp[cH,IA,e]
theorem fO(k:κ):∀ kvs:List (κ × V),(kvs.any fun kv=>decide (kv.1=k))=(cH kvs k).isSome
 | []=>rfl
 | p::r=>by
  rw[KG]
  by_cases e:p.1=k
  ·simp only[jf e,decide_eq_true e,Bool.true_or,Lu]
  rw[jQ e,decide_eq_false e,Bool.false_or];exact fO k r
theorem dI(kvs:List (κ × V))(k:κ)(v:V):(putK kvs k v).length<=kvs.length + 1:=by
 unfold putK
 split
 ·rw[a_];lia
 rw[f',k_,Jp];lia
theorem qg{kvs:List (κ × V)}{k:κ}(v:V)(h:cH kvs k=none):putK kvs k v=kvs++[(k,v)]:=by
 unfold putK
 rw[fO,h]
 exact if_neg (by decide)
theorem kE.vM {o:Option V}{u:Option Mj}(r:kE o u):o.isSome=u.isSome:=by
 cases o with
 | none=>cases u with
  | none=>rfl
  | some _=>exact(show False from r).elim
 | some _=>cases u with
  | none=>exact(show False from r).elim
  | some _=>rfl
theorem KV.val {kvs:List (κ × V)}{vs:List (κ × Mj)}(r:KV kvs vs)(k:κ):kE (cH kvs k) (P6 vs k):=by
 unfold KV at r
 induction r with
 | nil=>exact N2
 | @cons p q ps qs h t ih=>
  obtain⟨h1,h2⟩:=h
  by_cases e:p.1=k
  ·have e':q.1=k:=h1.symm.trans e
   have b:P6 (q::qs) k=some q.2:=by simp[P6,IA,e']
   rw[jf e,b];exact h2
  have e':¬ q.1=k:=fun z=>e (h1.trans z)
  have b:P6 (q::qs) k=P6 qs k:=by simp[P6,IA,e']
  rw[jQ e,b];exact ih
theorem KV.any {kvs:List (κ × V)}{vs:List (κ × Mj)}(r:KV kvs vs)(k:κ):(kvs.any fun kv=>decide (kv.1=k))=vs.any fun kv=>decide (kv.1=k):=by
 unfold KV at r
 induction r with
 | nil=>rfl
 | cons h t ih=>rw[KG,KG,ih,h.1]
theorem KV.DB {kvs:List (κ × V)}{vs:List (κ × Mj)}(r:KV kvs vs)(k:κ){y:V}{u:Mj}(ry:RelV y u) :
  KV (kvs.map fun kv=>if kv.1=k then(kv.1,y)else kv) (vs.map fun kv=>if kv.1=k then(kv.1,u)else kv):=by
 unfold KV at r ⊢
 induction r with
 | nil=>exact .nil
 | @cons p q ps qs h t ih=>
  rw[j',j']
  refine .cons ?_ ih
  obtain⟨h1,h2⟩:=h
  by_cases e:p.1=k
  ·rw[if_pos e,if_pos (h1.symm.trans e)];exact⟨h1,ry⟩
  rw[if_neg e,if_neg (fun z=>e (h1.trans z))];exact⟨h1,h2⟩
theorem KV.put {kvs:List (κ × V)}{vs:List (κ × Mj)}(r:KV kvs vs)(k:κ){y:V}{u:Mj}(ry:RelV y u):KV (putK kvs k y) (stored vs k u):=by
 unfold putK stored
 rw[r.any k]
 by_cases e:(vs.any fun kv=>decide (kv.1=k))=true
 ·rw[if_pos e,if_pos e];exact r.DB k ry
 rw[if_neg e,if_neg e];exact Ud r ⟨rfl,ry⟩
theorem KV.length {kvs:List (κ × V)}{vs:List (κ × Mj)}(r:KV kvs vs):kvs.length=vs.length:=Ow r
end
theorem uv{P:MA}{w:MC}{k:Key}{u:Mj}(r:RelV (kV k) u):(bB P w).is k u=true:=by
 cases k with
 | inl i=>obtain⟨t,e⟩:=(show ∃ t,u=NR i t from r);subst e;exact oz P w i t
 | inr x=>obtain⟨t,e⟩:=(show ∃ t,u=Q8 x t from r);subst e;exact pF P w x t
theorem kG{P:MA}{w:MC}:∀ {ks:List Key} {us:List Mj},Vals (ks.map kV) us->ItemsAre (bB P w) ks us
 | [],_,r=>by rw[Ja]at r;cases r;exact .nil
 | k::ks,_,r=>by
  rw[j']at r
  cases r with
  | cons h t=>exact .cons (uv h) (kG t)
abbrev KT(H:Hp):List (List Key × V)->List (List Key × Ml × Mj)->Prop:=OU fun p q=>p.1=q.1/\H q.2.1=some (.tup (p.1.map kV))/\RelV p.2 q.2.2
theorem KT.val {H:Hp}{kvs:List (List Key × V)}{xs:List (List Key × Ml × Mj)}(r:KT H kvs xs)(k:List Key):kE (cH kvs k) ((Qn xs k).map (·.2)):=by
 induction r with
 | nil=>exact N2
 | @cons p q ps qs h t ih=>
  obtain⟨h1,_,h2⟩:=h
  by_cases e:p.1=k
  ·have e':q.1=k:=h1.symm.trans e
   have b:Qn (q::qs) k=some q.2:=by simp[Qn,IA,e']
   rw[jf e,b];exact h2
  have e':¬ q.1=k:=fun z=>e (h1.trans z)
  have b:Qn (q::qs) k=Qn qs k:=by simp[Qn,IA,e']
  rw[jQ e,b];exact ih
theorem KT.DB {H:Hp}{kvs:List (List Key × V)}{xs:List (List Key × Ml × Mj)}(r:KT H kvs xs)(k:List Key){y:V}{u:Mj}(ry:RelV y u) :
  KT H (kvs.map fun kv=>if kv.1=k then(kv.1,y)else kv) (xs.map (putAt k u)):=by
 induction r with
 | nil=>exact .nil
 | @cons p q ps qs h t ih=>
  rw[j',j']
  refine .cons ?_ ih
  obtain⟨h1,h2,h3⟩:=h
  unfold putAt
  by_cases e:p.1=k
  ·rw[if_pos e,if_pos (h1.symm.trans e)];exact⟨h1,h2,ry⟩
  rw[if_neg e,if_neg (fun z=>e (h1.trans z))];exact⟨h1,h2,h3⟩
theorem KT.put {H:Hp}{kvs:List (List Key × V)}{xs:List (List Key × Ml × Mj)}(r:KT H kvs xs)(k:List Key){b:Ml}{y:V}{u:Mj}(hb:H b=some (.tup (k.map kV)))(ry:RelV y u) :
  KT H (putK kvs k y) (storedH xs k b u):=by
 have e:(kvs.any fun kv=>decide (kv.1=k))=(Qn xs k).isSome:=by
  rw[fO,(r.val k).vM,Option.isSome_map]
 unfold putK storedH
 rw[e]
 by_cases q:(Qn xs k).isSome=true
 ·rw[if_pos q,if_pos q];exact r.DB k ry
 rw[if_neg q,if_neg q];exact Ud r ⟨rfl,hb,ry⟩
theorem KT.keeps {H H':Hp}{kvs:List (List Key × V)}{xs:List (List Key × Ml × Mj)}(r:KT H kvs xs)(ht:∀ b ys,H b=some (.tup ys)->H' b=some (.tup ys)):KT H' kvs xs:=
 Paired.Dw r fun _ _ z=>⟨z.1,ht _ _ z.2.1,z.2.2⟩
section
variable{P:MA}{w:MC}{H:Hp}{h:MD}{a:Ml}
theorem C3{u:HO}(ok:HOk P w H h)(e:Rd H a u):b9 P w H h a u:=e.ok ok
theorem sL{kvs:List (Key × V)}(ok:HOk P w H h)(e:Rd H a (.dK kvs)):kvs.length<=sizeLine/\(a == Nj)=false/\∃ vs,KV kvs vs/\h.DictOf (bB P w) a vs:=
 show b9 P w H h a (.dK kvs)from C3 ok e
theorem BN{kvs:List (Key × V)}(ok:HOk P w H h)(e:H a=some (.dK kvs)):kvs.length<=sizeLine/\(a == Nj)=false/\∃ vs,KV kvs vs/\h.DictOf (bB P w) a vs:=sL ok (.inl e)
theorem qP{ks:List Key}(ok:HOk P w H h)(e:H a=some (.tup (ks.map kV))):(Qm (bB P w)).is h ks a:=by
 obtain⟨_,its,r,o,h1,h2,n,h3⟩:=(show b9 P w H h a (.tup (ks.map kV))from ok a _ e)
 exact⟨o,its.toArray,n,h1,h2,h3,by simpa using kG r⟩
theorem sA{kvs:List (List Key × V)}(ok:HOk P w H h)(e:Rd H a (.dT kvs)):kvs.length<=sizeLine/\(a == Nj)=false/\
  ∃ xs,KT H kvs xs/\h.DictOfH (Qm (bB P w)) a xs:=by
 obtain⟨z,y,xs,r,o,es,ep,h1,h2,h3,h4,h5⟩:=(show b9 P w H h a (.dT kvs)from C3 ok e)
 refine⟨z,y,xs,r,o,es,ep,h1,h2,h3,h4,fun x hx=>?_,h5⟩
 have all:∀ {l:List (List Key × V)} {m:List (List Key × Ml × Mj)},KT H l m->∀ x∈m,(Qm (bB P w)).is h x.1 x.2.1:=by
  intro l m q
  induction q with
  | nil=>intro x hx;exact nomatch hx
  | @cons p q ps qs hq t ih=>
   intro x hx
   rcases o_.mp hx with e | hx
   ·subst e
    exact qP ok (by rw[<-hq.1];exact hq.2.1)
   exact ih x hx
 exact all r x hx
theorem GK{kvs:List (List Key × V)}(ok:HOk P w H h)(e:H a=some (.dT kvs)):kvs.length<=sizeLine/\(a == Nj)=false/\
  ∃ xs,KT H kvs xs/\h.DictOfH (Qm (bB P w)) a xs:=sA ok (.inl e)
end
noncomputable def iR(H:Hp)(a:Ml)(y:V)(r:Option V):Prop:=
 (∃ kvs k,Rd H a (.dK kvs)/\y=kV k/\r=cH kvs k)\/∃ kvs k b,Rd H a (.dT kvs)/\y=.ref b/\H b=some (.tup (k.map kV))/\r=cH kvs k
noncomputable def vK(H:Hp)(a:Ml)(y v:V)(H':Hp):Prop:=
 (∃ kvs k,H a=some (.dK kvs)/\y=kV k/\kvs.length < sizeLine/\H'=upd H a (.dK (putK kvs k v)))\/
 ∃ kvs k b,H a=some (.dT kvs)/\y=.ref b/\H b=some (.tup (k.map kV))/\kvs.length < sizeLine/\H'=upd H a (.dT (putK kvs k v))
theorem iR.k {H:Hp}{a:Ml}{kvs:List (Key × V)}{k:Key}(e:H a=some (.dK kvs)):iR H a (kV k) (cH kvs k):=.inl ⟨kvs,k,.inl e,rfl,rfl⟩
theorem vK.k {H:Hp}{a:Ml}{kvs:List (Key × V)}{k:Key}{v:V}(e:H a=some (.dK kvs))(hl:kvs.length < sizeLine):vK H a (kV k) v (upd H a (.dK (putK kvs k v))):=.inl ⟨kvs,k,e,rfl,hl,rfl⟩
section
variable{X:Cx}{pins:List (Ml × Obj)}{σ:St}{H:Hp}{s:Mm}{a:Ml}{y v:V}{u r:Mj}{o:Option V}{A:MJ}{E:Mj->Mm->Prop}
theorem Inv.big (I:Inv X pins σ H s):Nj < s.heap.objs.size:=by
 have h:Nh < s.heap.objs.size:=(I.mod.glob.keeps I.bk).lt
 exact Ke (by decide) h
theorem kY{Q:Mj->Mm->Prop}(hu:A.units + 1 < cLine)(I:Inv X pins σ H s)(g:iR H a y (some v))(ry:RelV y u)(h:∀ w' s',Inv X pins σ H s'->RelV v w'->Q w' s') :
  Mr (Mw X.prog X.w) A (Ph (.ref a) u) Q E s:=by
 rcases g with⟨kvs,k,e,ey,l⟩ | ⟨kvs,k,b,e,ey,eb,l⟩
 ·subst ey
  obtain⟨z,hd,vs,rel,dd⟩:=sL I.hok e
  obtain⟨w',hw,rw'⟩:=kE.some_of (v:=v) (o:=P6 vs k) (by rw[l];exact rel.val k)
  exact wpAny_getItem_of (uv ry) dd.mapOf hw (h w' _ (I.tok _) rw')
 subst ey
 cases (show u=MY b from ry)
 obtain⟨z,hd,xs,rel,dd⟩:=sA I.hok e
 obtain⟨w',hw,rw'⟩:=kE.some_of (v:=v) (o:=(Qn xs k).map (·.2)) (by rw[l];exact rel.val k)
 obtain⟨p,hp,hp2⟩:=J7.mp hw
 refine wpAny_getItem_heap (Ri hu) (qP I.hok eb) dd hp ?_
 rw[hp2]
 exact h w' _ (I.tok _) rw'
theorem ny{h':MD}{t':Nat}{ob:HO}(I:Inv X pins σ H s)(mu:Mut (H a))(hs:Na a s.heap h')(he:∃ q,h'.get? a=some q)(new:b9 X.prog X.w (upd H a ob) h' a ob) :
  Inv X pins σ (upd H a ob) { s with heap:=h',toks:=t' }:=
 I.write (x:=a) (e:=a) mu (.inl rfl) (fun b q hb z=>(hs.2 b hb).trans z) he new
theorem vW{P:MA}{w:MC}{H':Hp}{h':MD}{kvs:List (Key × V)}{vs:List (Key × Mj)}(z:kvs.length<=sizeLine)(hd:(a == Nj)=false)(rel:KV kvs vs)(dd:h'.DictOf (bB P w) a vs) :
  b9 P w H' h' a (.dK kvs):=⟨z,hd,vs,rel,dd⟩
theorem gD{H':Hp}{Q:Unit->Mm->Prop}(hu:A.units + 1 < cLine)(I:Inv X pins σ H s)(g:vK H a y v H')(ry:RelV y u)(rv:RelV v r)(h:∀ s',Inv X pins σ H' s'->Q () s') :
  Mr (Mw X.prog X.w) A (Sj (.ref a) u r) Q E s:=by
 rcases g with⟨kvs,k,e,ey,l,eH⟩ | ⟨kvs,k,b,e,ey,eb,l,eH⟩
 ·subst ey eH
  obtain⟨z,hd,vs,rel,dd⟩:=BN I.hok e
  have hz:vs.length<=sizeLine:=by rw[<-rel.length];exact z
  have hl:(putK kvs k v).length<=sizeLine:=by have:=dI kvs k v;lia
  refine wpAny_setItem_pairs (hsz:=hz) (uv ry) dd fun h' dd' hs=>h _ ?_
  have he:∃ q,h'.get? a=some q:=let ⟨q,_,_,hq,_⟩:=dd';⟨q,hq⟩
  exact ny I (by rw[e];exact N2) hs he (vW hl hd (rel.put k rv) dd')
 subst ey eH
 cases (show u=MY b from ry)
 obtain⟨z,hd,xs,rel,dd⟩:=GK I.hok e
 have hz:xs.length<=sizeLine:=by rw[<-Ow rel];exact z
 have hl:(putK kvs k v).length<=sizeLine:=by have:=dI kvs k v;lia
 refine wpAny_setItem_heap (hsz:=hz) (Ri hu) (qP I.hok eb) dd fun h' dd' hs=>h _ ?_
 obtain⟨q,es,ep,hq,h2,h3,h4,_,h5⟩:=dd'
 refine ny I (by rw[e];exact N2) hs ⟨q,hq⟩ ⟨hl,hd,_,(rel.put k eb rv).keeps fun c ys ec=>?_,q,es,ep,hq,h2,h3,h4,h5⟩
 rw[aG (BF ec e (fun z=>nomatch z))]
 exact ec
end
section
variable{X:Cx}{pins:List (Ml × Obj)}{σ:St}{H:Hp}{s:Mm}{a:Ml}{kvs:List (Key × V)}{k:Key}{u:Mj}{A:MJ}{E:Mj->Mm->Prop}
theorem EM{Q:Mj->Mm->Prop}(I:Inv X pins σ H s)(e:Rd H a (.dK kvs))(h:∀ t s',Inv X pins σ H s'->Q (.int kvs.length t) s'):Mr (Mw X.prog X.w) A (call (.builtin "len") [.ref a]) Q E s:=by
 obtain⟨z,hd,vs,rel,dd⟩:=sL I.hok e
 refine call_len_dict hd dd (by rw[<-rel.length];rw[sizeLine_eq]at z;lia) ?_
 rw[<-rel.length]
 exact h _ _ (I.tok _)
end
def ET(i:MB):Prop:=∀ ov iv,Pp i false ov iv=Uk [ov,iv] (Ph ov iv)
theorem zK{prog:MA}{w:MC}{A:MJ}{E:Mj->Mm->Prop}{s:Mm}{env:Env}{value slice:MB}{pos:Pos}{T id:String}{Q:Mj->Mm->Prop}
  (hl:typeLookup (.type T) "__getitem__"=pure (some (.builtin id))) (hs:ET slice)
  (h:Mr (Mw prog w) A (MQ value env) (fun o s₁=>Mr (Mw prog w) A (MQ slice env) (fun i s₂=>s₂.TypeIs o T/\Mr (Mw prog w) A (Ph o i) Q E s₂) E s₁) E s) :
  Mr (Mw prog w) A (MQ (.Subscript value slice pos) env) Q E s:=by
 refine RY (MP h (fun o s₁ h₁=>MP h₁ (fun i s₂ h₂=>?_) fun _ _ x=>x) fun _ _ x=>x)
 obtain⟨hT,h₂⟩:=h₂
 unfold OZ
 refine Mi ?_
 rw[QF hT.not_modules]
 refine Mi (Qo hT hl ?_)
 have fin:Mr (Mw prog w) A (Pp slice false o i) (fun r s₃=>Mr (Mw prog w) A (Ss value o r >>= fun _=>pure r) Q E s₃) E s₂:=by
  rw[hs o i]
  exact R1 (MP h₂ (fun r s₃ h₃=>Mi (QV (Mn h₃))) fun _ _ x=>x)
 first
  | exact Mn (Mi fin)
  | exact Mi (Mn (Mi fin))
  | exact Mi fin
theorem iF{X:Cx}{pins:List (Ml × Obj)}{σ:St}{H:Hp}{s:Mm}{a:Ml}{y:V}{o:Option V}(I:Inv X pins σ H s)(g:iR H a y o):s.TypeIs (.ref a) "dict":=by
 rcases g with⟨kvs,k,e,_,_⟩ | ⟨kvs,k,b,e,_,_,_⟩
 ·obtain⟨_,_,vs,_,dd⟩:=sL I.hok e
  exact dd.typeIs
 obtain⟨_,_,xs,_,dd⟩:=sA I.hok e
 exact dd.typeIs
noncomputable def FE(td ty:TE):TE:=fun σ H Q=>td σ H fun x H1=>ty σ H1 fun y H2=>∃ a v,x=.ref a/\iR H2 a y (some v)/\Q v H2
noncomputable def GU(td ty tv:TE):TS:=fun D σ H=>tv σ H fun v H1=>td σ H1 fun x H2=>ty σ H2 fun y H3=>∃ a H4,x=.ref a/\vK H3 a y v H4/\D.nx σ H4
section
variable{X:Cx}{o i e value:MB}{pos pos' tpos:Pos}{td ty tv:TE}
theorem iX(hu:X.A.units + 1 < cLine)(ho:PE X o td)(hi:PE X i ty)(hs:ET i):PE X (.Subscript o i pos) (FE td ty):=by
 intro pins s σ H Q I h
 refine zK P0.lookup hs (thn (ho pins s σ H _ I h) fun u s1 ⟨x,H1,I1,rx,q1⟩=>thn (hi pins s1 σ H1 _ I1 q1) ?_)
 rintro iv s2 ⟨y,H2,I2,ry,a,v,ex,g,q2⟩
 subst ex
 obtain rfl:u=MY a:=rx
 exact⟨iF I2 g,kY hu I2 g ry fun w' s3 I3 rw'=>⟨v,H2,I3,rw',q2⟩⟩
theorem Af(hu:X.A.units + 1 < cLine)(ho:PE X o td)(hi:PE X i ty)(hv:PE X value tv)(hs:OG value (some (.Subscript o i pos')) pos.line X.env=pure false) :
  PS X (.Assign [.Subscript o i pos'] value pos) (GU td ty tv):=by
 intro pins s σ H D I h
 refine wpAny_Assign_Subscript (thn (hv pins s σ H _ I h) fun r s1 ⟨v,H1,I1,rv,q1⟩=>thn (ho pins s1 σ H1 _ I1 q1) fun u s2 ⟨x,H2,I2,rx,q2⟩=>thn (hi pins s2 σ H2 _ I2 q2) fun iv s3 ⟨y,H3,I3,ry,a,H4,ex,g,q3⟩=>?_) hs
 subst ex
 obtain rfl:u=MY a:=rx
 exact gD hu I3 g ry rv fun s4 I4=>⟨σ,H4,I4,q3⟩
end
theorem xn{P:MA}{w:MC}{H:Hp}(h:MD)(hb:Nj < h.objs.size):b9 P w H (h.push { cls:=.type "dict",data:=.dict #[] }) h.objs.size (.dK []):=
 ⟨F' _,beq_eq_false_iff_ne.mpr (N4 (u_ hb)),[],.nil,US h⟩
theorem wg{P:MA}{w:MC}{H:Hp}(h:MD)(hb:Nj < h.objs.size):b9 P w H (h.push { cls:=.type "dict",data:=.dict #[] }) h.objs.size (.dT []):=
 ⟨F' _,beq_eq_false_iff_ne.mpr (N4 (u_ hb)),[],.nil,_,#[],0,Mt _ rfl,⟨rfl,rfl,rfl⟩,rfl,rfl,IZ⟩
def CC:TE:=fun _ H Q=>∀ p,H p=none->Q (.ref p) (upd H p (.dT []))
section
variable{X:Cx}{pos:Pos}
theorem yK:PE X (.Dict [] [] pos) CC:=fun pins s σ H Q I h=>
 wpAny_Dict_empty ⟨.ref s.heap.objs.size,_,I.laid (a:=s.heap.objs.size) (o:=.dT []) (t':=s.toks) (fun _ _ q=>Mo _ q) (f_ _) (wg s.heap I.big),rfl,h _ (I.hok.fresh (f_ _))⟩
end
noncomputable def rq:List (TE × TE)->St->Hp->(List (V × V)->Hp->Prop)->Prop
 | [],_,H,Q=>Q [] H
 | (tk,tv)::r,σ,H,Q=>tk σ H fun x H1=>tv σ H1 fun y H2=>rq r σ H2 fun ps H3=>Q ((x,y)::ps) H3
abbrev VV:List (V × V)->List (Mj × Mj)->Prop:=OU fun p q=>RelV p.1 q.1/\RelV p.2 q.2
noncomputable def PPs(X:Cx)(pos:Pos)(keys:List (Option MB))(values:List MB)(trs:List (TE × TE)):Prop:=
 ∀(pins:List (Ml × Obj)) (s:Mm) (σ:St) (H:Hp) (Q:List (V × V)->Hp->Prop),Inv X pins σ H s->rq trs σ H Q->
  Mr (Mw X.prog X.w) X.A (evalPairs (pairTrees keys values X.env pos)) (fun vs s'=>∃ ps H',Inv X pins σ H' s'/\VV ps vs/\Q ps H') X.xe s
theorem AH{X:Cx}{pos:Pos}:PPs X pos [] [] []:=fun pins s σ H Q I h=>pairTrees_nil_walk ⟨[],H,I,.nil,h⟩
theorem oK{X:Cx}{pos:Pos}{k v:MB}{ks:List (Option MB)}{vs:List MB}{tk tv:TE}{trs:List (TE × TE)}(hk:PE X k tk)(hv:PE X v tv)(hr:PPs X pos ks vs trs) :
  PPs X pos (some k::ks) (v::vs) ((tk,tv)::trs):=fun pins s σ H Q I h=>
 pairTrees_cons_walk (thn (hk pins s σ H _ I h) fun u s1 ⟨x,H1,I1,rx,q1⟩=>thn (hv pins s1 σ H1 _ I1 q1) fun w2 s2 ⟨y,H2,I2,ry,q2⟩=>
  thn (hr pins s2 σ H2 _ I2 q2) fun ws s3 ⟨ps,H3,I3,rel,q3⟩=>⟨(x,y)::ps,H3,I3,.cons ⟨rx,ry⟩ rel,q3⟩)
def dw(kvs more:List (Key × V)):List (Key × V):=more.foldl (fun acc kv=>putK acc kv.1 kv.2) kvs
theorem KV.merge:∀ {more:List (Key × V)} {rs:List (Key × Mj)} {kvs:List (Key × V)} {vs:List (Key × Mj)},KV more rs->KV kvs vs->KV (dw kvs more) (merged vs rs):=by
 intro more rs kvs vs r
 unfold KV at r
 induction r generalizing kvs vs with
 | nil=>intro q;exact q
 | @cons p q ps qs h t ih=>
  intro r0
  have e:KV (putK kvs p.1 p.2) (stored vs q.1 q.2):=by
   have:=r0.put p.1 h.2
   rw[<-h.1];exact this
  exact ih e
theorem eS:∀(more kvs:List (Key × V)),(dw kvs more).length<=kvs.length + more.length
 | [],kvs=>by show kvs.length<=kvs.length + 0;lia
 | p::r,kvs=>by
  have h1:=eS r (putK kvs p.1 p.2)
  have h2:=dI kvs p.1 p.2
  show(dw (putK kvs p.1 p.2) r).length<=_
  rw[k_];lia
theorem k8{P:MA}{w:MC}:∀ {kvs:List (Key × V)} {ws:List (Mj × Mj)},VV (kvs.map fun kv=>(kV kv.1,kv.2)) ws->∃ rs,Carries (bB P w) ws rs/\KV kvs rs
 | [],_,r=>by rw[Ja]at r;cases r;exact⟨[],N2,.nil⟩
 | p::kvs,_,r=>by
  rw[j']at r
  cases r with
  | @cons a b as bs h t=>
   obtain⟨rs,c,q⟩:=k8 (P:=P) (w:=w) t
   obtain⟨b1,b2⟩:=b
   exact⟨(p.1,b2)::rs,⟨uv h.1,rfl,c⟩,.cons ⟨rfl,h.2⟩ q⟩
noncomputable def FC(trs:List (TE × TE)):TE:=fun σ H Q=>∀ p,H p=none->rq trs σ (upd H p (.dK [])) fun ps H2=>H2 p=some (.dK [])/\∃ kvs:List (Key × V),ps=kvs.map (fun kv=>(kV kv.1,kv.2))/\kvs.length<=15/\Q (.ref p) (upd H2 p (.dK (dw [] kvs)))
theorem B3{X:Cx}{pos:Pos}{keys:List (Option MB)}{values:List MB}{trs:List (TE × TE)}(h:PPs X pos keys values trs)(hall:keys.all (·.isSome)=true)(hl:keys.length=values.length)(h0:keys≠[])
  (h15:keys.length<=15):PE X (.Dict keys values pos) (FC trs):=by
 intro pins s σ H Q I q
 have hn:=I.hok.fresh (f_ s.heap.objs.size)
 have I1:=I.laid (a:=s.heap.objs.size) (o:=.dK []) (h':=s.heap.push { cls:=.type "dict",data:=.dict #[] }) (t':=s.toks) (fun _ _ q=>Mo _ q) (f_ _) (xn s.heap I.big)
 refine wpAny_Dict_walk (knd:=bB X.prog X.w) hall hl h0 h15 (thn (h pins _ σ _ _ I1 (q _ hn)) ?_)
 rintro ws s2 ⟨ps,H2,I2,rel,e,kvs,ep,lk,q2⟩
 subst ep
 obtain⟨rs,c,rk⟩:=k8 (P:=X.prog) (w:=X.w) rel
 obtain⟨z,hd,vs0,r0,dd⟩:=BN I2.hok e
 cases r0
 refine⟨rs,c,dd,fun h' dd' hs=>⟨.ref s.heap.objs.size,_,?_,rfl,q2⟩⟩
 have hz:(dw [] kvs).length<=sizeLine:=by
  have h1:=eS kvs []
  rw[Jp]at h1
  rw[sizeLine_eq];lia
 have he:∃ q,h'.get? s.heap.objs.size=some q:=let ⟨q,_,_,hq,_⟩:=dd';⟨q,hq⟩
 exact ny I2 (by rw[e];exact N2) hs he (vW hz hd (rk.merge .nil) dd')
end L2
namespace Att
open PySem PySem.W PySem.Calls PyProof.Rows
theorem iV{P:Qa}{h:MD}:∀(ns:List Int) (vs:List Mj),WellAll P h vs (ns.map WData.int)->Nr vs ns:=by
 intro ns
 induction ns with
 | nil=>
  intro vs w
  rw[Ja]at w
  cases w
  exact .nil
 | cons n ns ih=>
  intro vs w
  rw[j']at w
  cases w with
  | cons a b=>
   cases a
   exact .cons _ _ (ih _ b)
theorem vh{l:OpenLaw}{n:Nat}(hn:l.most=some n){P:Qa}{h:MD}{args:List WData}{vals:List Mj}
  (hpre:l.row.toRowW.claim.pre args=true) (hwl:WellAll P h vals args) :
  ∃ a vs ns,vals=[MY a]/\args=[WData.list (ns.map WData.int)]/\h.get? a=some { cls:=.type "list",data:=.seq vs.toArray }/\Nr vs ns/\ns.length<=n:=by
 have hsh:WShape.hasAll [] args [.list .int]=true:=(pre_splitW hpre).1
 have hc:l.pre.holds [] { args:=args }=true:=(pre_splitW hpre).2
 obtain⟨d,r,rfl,h1,h2⟩:=hasAllW_cons hsh
 obtain rfl:=hasAllW_nil h2
 obtain⟨xs,rfl,h3⟩:=hasW_list h1
 obtain⟨ns,rfl⟩:=items_int h3
 have hlen:ns.length<=n:=by
  unfold OpenLaw.pre at hc
  have h4:(WTm.not (.lt (.lit (.int (n:Int))) (.len (.arg 0)))).holds [] { args:=[.list (ns.map .int)] }=true:=by
   have h4:=(holds_andW hc).1
   rw[hn]at h4
   exact h4
  have h5:=condW_of h4 (w_not (w_lt w_lit (w_len_list (w_arg rfl))))
  rw[a_]at h5
  refine Ia fun q=>?_
  have q':(n:Int) < ((ns.length:Nat):Int):=by lia
  first
   | (rw[decide_eq_true q']at h5;exact absurd h5 (by decide))
   | (simp at h5;omega)
 cases hwl with
 | cons w1 w2=>
  cases w2
  cases w1 with
  | list ho hall=>exact⟨_,_,ns,rfl,rfl,ho,iV ns _ hall,hlen⟩
theorem vx(l:OpenLaw)(args:List WData):l.row.toRowW.claim.post args (.bool true) args=true:=
 postW_of (r:=l.row.toRowW) (X:=(true == true))
  (show WShape.has [] (.bool true) .bool=true by first | rfl | decide | simp[WShape.has,WShape.arms,WShape.armsAll])
  (show(WTm.eq .res (.lit (.bool true))).value [] { args:=args,res:=some (.bool true),after:=args }=some (.bool (true == true))from w_eq_bool (w_res rfl) w_lit) rfl
theorem oy{l:OpenLaw}{n:Nat}{q:MA}{loose:List Str}{XP:(Str->Option Mj)->MD->Prop}{YP:MC->MD->Prop}{d:DefRec}
  (hn:l.most=some n) (hdf:d.params.defaults=[])
  (call:∀(w:MC) (s₀ s₁:Mm) (mg mb:Str->Option Mj) (fa:Ml) (o:Obj) (pm cd doc:Mj) (a:Ml) (vs:List Mj) (ns:List Int),
   Ground q loose [] XP w s₀ mg mb s₁.heap->YP w s₁.heap->
   s₁.heap.get? fa=some o->o.data=.func (docDef d.name d.params d.body d.scope pm cd doc)->s₁.heap.CodeRec cd d.name->mg d.name=some (.ref fa)->
   s₁.heap.get? a=some { cls:=.type "list",data:=.seq vs.toArray }->Nr vs ns->ns.length<=n->s₁.gens=#[]->
   Oh (Mw l.prog w) P7 (.call (.ref fa) ⟨[.ref a],[]⟩) (fun r s'=>r=.ok (.ret (.bool true))/\OldK s₁.heap s'.heap/\s'.os=s₁.os/\O3 s'.gens) s₁) :
  WalkO q loose XP YP l.row.toRowW d [] (fun f vs=>R3 f vs):=by
 intro w s₀ s₁ mg mb G Y fa o pm cd doc dV kV ho hd hcd hD hmg hg args vals as hpre hlay hrd hwl hlo
 obtain rfl:dV=.none:=Dflts.none hD hdf
 obtain rfl:kV=.none:=Dflts.noKw hD
 obtain⟨a,vs,ns,rfl,rfl,hobj,hints,hlen⟩:=vh hn hpre hwl
 refine enter_call (NT (call w s₀ s₁ mg mb fa o pm cd doc a vs ns G Y ho (fd_plain hd) hcd hmg hobj hints hlen hg) fun r s' hq=>?_)
 obtain⟨rfl,h2,h3,h4⟩:=hq
 exact⟨.inl ⟨.bool true,.bool true,[],rfl,fun _=>rfl,.bool true,vx l _,fun _=>⟨J3,fun _ hm=>(nomatch hm)⟩⟩,h2,h3,h4⟩
section
variable{prog:MA}{w:MC}{A:MJ}{E:Mj->Mm->Prop}{s:Mm}{K:Frag}
noncomputable def ledger(h:MD)(L d:Ml):List (Ml × Obj):=(y_ h.objs.size).filterMap fun a=>if a=L\/a=d then none else(h.get? a).map fun o=>(a,o)
end
end Att
namespace L2
open PySem PySem.Spec PyProof.Rows
theorem kX:∀ {vs:List Mj} {ns:List Int},Nr vs ns->Vals (ns.map V.int) vs
 | _,_,.nil=>.nil
 | _,_,.cons n t h=>.cons ⟨t,rfl⟩ (kX h)
def De(H:Hp):Prop:=∀ b,H b=none\/∃ o xs,H b=some (.frz o (.lst xs))
theorem vQ{P:MA}{w:MC}{K:Mk}{mg mb:Str->Option Mj}{CX:CXT}{k:Nat}{fa a:Ml}{fd:MR}{x:Str}{sp:Sp}{s₁:Mm}{vs:List Mj}{ns:List Int}
  (KX:K.In s₁.heap) (hns:s₁.heap.Ns Nh mg) (hb:s₁.heap.Ns QQ mb) (hbb:∀ x:Str,x≠"__name__"->mb x=N6 x) (hlim:s₁.heap.NoLimit) (hg:s₁.gens=#[])
  (ha:s₁.heap.get? a=some { cls:=.type "list",data:=.seq vs.toArray }) (hi:Nr vs ns) (hl:ns.length<=sizeLine) (hr:Room k P7)
  (F:∀ base:MD,K.In base->base.Ns Nh mg->FnOk P w K mg base CX k fa fd [x] sp) (hbind:∀(s:Mm) (u:Mj),QE s fd ⟨[u],[]⟩ [(x,u)])
  (hsp:∀ H:Hp,De H->SqL K H a (ns.map V.int)->sp [.ref a] H (fun v _=>v=.bl true) fun _ _ _=>False)
  (hCX:∀ H e s',CX [] H s₁ (fun _ _ _=>False) e s'->False) :
  Oh (Mw P w) P7 (.call (.ref fa) ⟨[.ref a],[]⟩) (fun r s'=>r=.ok (.ret (.bool true))/\OldK s₁.heap s'.heap/\s'.os=s₁.os/\O3 s'.gens) s₁:=by
 have rv:=kX hi
 have lenV:=hi.length
 have core:∀ H:Hp,De H->SqL K H a (ns.map V.int)->HOk P w H s₁.heap->(∀ b,H b≠none->b=a)->(H a≠none->K.lookup a=none)->
   Oh (Mw P w) P7 (.call (.ref fa) ⟨[.ref a],[]⟩) (fun r s'=>r=.ok (.ret (.bool true))/\OldK s₁.heap s'.heap/\s'.os=s₁.os/\O3 s'.gens) s₁:=by
  intro H hO hS hok hA hK
  have base_of:∀ {b:Ml} {o:Obj},s₁.heap.get? b=some o->H b=none->(nH s₁.heap H).get? b=some o:=fun e n=>xM e n
  have noA:∀ {b:Ml} {o:Obj} {es:Array Oj} {ep:Nat},s₁.heap.get? b=some o->o.data=.dict es ep->H b=none:=fun{b o es ep} e d=>by
   cases q:H b with
   | none=>rfl
   | some u=>
    have e':b=a:=hA b (by rw[q];simp)
    subst e'
    rw[ha]at e;cases e
    have d':TH vs.toArray _=Data.dict es ep:=d
    cases d'
  have nsK:∀ {b:Ml} {m:Str->Option Mj},s₁.heap.Ns b m->(nH s₁.heap H).Ns b m:=fun{b m} ⟨o,es,ep,e,d,r⟩=>⟨o,es,ep,base_of e (noA e d),d,r⟩
  have hKb:K.In (nH s₁.heap H):=fun b o e=>base_of (KX b o e) (by
   cases q:H b with
   | none=>rfl
   | some u=>
    have e':b=a:=hA b (by rw[q];simp)
    subst e'
    rw[hK (by rw[q];simp)]at e;cases e)
  have hM:Mod K mg (nH s₁.heap H):=⟨hKb,nsK hns,⟨mb,nsK hb,hbb⟩,let ⟨mc,h1,h2⟩:=hlim;⟨mc,nsK h1,h2⟩⟩
  have e0:Env0 P w K mg (nH s₁.heap H) P7 [] s₁ H:=⟨rfl,hM,fun b o e=>AB e,JS (uH _ _),trivial,fun b hb=>absurd (show b∈([]:List Ml)from hb) (by simp),hok,.of_eq hg⟩
  refine NT ((F _ hKb (nsK hns)).run P7 [] s₁ H ⟨[.ref a],[]⟩ [.ref a] [.ref a] _ _ hr e0 (hbind s₁ (.ref a)) (.cons rfl .nil) (hsp H hO hS)) fun r s' h=>?_
  cases r with
  | error e=>exact(hCX H e s' h).elim
  | ok fl=>
   cases fl with
   | next=>exact MI h
   | brk=>exact MI h
   | cont=>exact MI h
   | ret u=>
    obtain⟨v,H',os,bare,un,hok',r',q⟩:=h
    have q':v=.bl true:=q
    subst q'
    obtain rfl:u=RU true:=r'
    refine⟨rfl,OldK.of_keep fun b o e=>?_,os,bare⟩
    cases q:H b with
    | none=>exact un.keep b o e q (by intro z;exact absurd (show b∈([]:List Ml)from z) (by simp)) (by simp)
    | some u=>
     rcases hO b with z | ⟨ob,xs,z⟩
     ·rw[q]at z;cases z
     have z2:=un.frzs b ob _ z
     obtain⟨e1,_⟩:=hok b _ z
     obtain⟨e2,_⟩:=hok' b _ z2
     rw[e]at e1;cases e1
     exact e2
 cases hk:K.lookup a with
 | some o=>
  have e:=KX a o hk
  rw[ha]at e
  cases e
  refine core (fun _=>none) (fun _=>.inl rfl) (.inr ⟨_,vs.toArray,_,hk,rfl,rfl,rfl,by rw[q_,lenV];exact hl,by simpa using rv⟩) (fun b u z=>by have z':(none:Option HO)=some u:=z;cases z') (fun b z=>absurd rfl z) fun z=>absurd rfl z
 | none=>
  refine core (fun b=>if b=a then some (.frz { cls:=.type "list",data:=.seq vs.toArray } (.lst (ns.map V.int)))else none) (fun b=>?_) (.inl (.inr ⟨{ cls:=.type "list",data:=.seq vs.toArray },if_pos rfl⟩)) (fun b u z=>?_) (fun b z=>?_) fun _=>hk
  ·by_cases hb:b=a
   ·exact .inr ⟨_,_,if_pos hb⟩
   exact .inl (if_neg hb)
  ·by_cases hb:b=a
   ·have z':=(if_pos hb).symm.trans z
    cases z'
    subst hb
    exact⟨ha,by rw[a_];exact hl,vs,_,rv,ha⟩
   have z':=(if_neg hb).symm.trans z
   cases z'
  by_cases hb:b=a
  ·exact hb
  exact absurd (if_neg hb) z
theorem zO{l:Qp}{n k:Nat}{q:MA}{loose:List Str}{XP:(Str->Option Mj)->MD->Prop}{YP:MC->MD->Prop}{d:DefRec}{K:Qa->Mk}{CX:MC->CXT}{sp:MC->Sp}{x:Str}
  (hn:l.most=some n) (hn2:n<=sizeLine) (hdf:d.params.defaults=[]) (hr:Room k P7)
  (hY:∀(w:MC) (h:MD),YP w h->(K w.params).In h)
  (F:∀(w:MC) (mg:Str->Option Mj) (fa:Ml) (h:MD),(K w.params).In h->h.Ns Nh mg->mg d.name=some (.ref fa)->
   ∃ fd:MR,(∀(s:Mm) (u:Mj),QE s fd ⟨[u],[]⟩ [(x,u)])/\
    ∀ base:MD,(K w.params).In base->base.Ns Nh mg->FnOk l.prog w (K w.params) mg base (CX w) k fa fd [x] (sp w))
  (hsp:∀(w:MC) (H:Hp) (a:Ml) (ns:List Int),ns.length<=n->De H->SqL (K w.params) H a (ns.map V.int)->sp w [.ref a] H (fun v _=>v=.bl true) fun _ _ _=>False)
  (hCX:∀(w:MC) (H:Hp) (s:Mm) (e:Mj) (s':Mm),CX w [] H s (fun _ _ _=>False) e s'->False) :
  SO q loose XP YP l.row.toRowW d [] (fun f vs=>R3 f vs):=by
 refine Att.oy hn hdf fun w s₀ s₁ mg mb fa o pm cd doc a vs ns G Y ho hd hcd hmg hobj hints hlen hg=>?_
 have KX:=hY w _ Y
 obtain⟨fd,hb,hF⟩:=F w mg fa _ KX G.T.g hmg
 exact vQ KX G.T.g G.T.b G.T.builtins G.T.nolimit hg hobj hints (v_ hlen hn2) hr hF hb (fun H hO hS=>hsp w H a ns hlen hO hS) fun H e s'=>hCX w H s₁ e s'
noncomputable def cN(s:M3):Arguments:=match s with
 | .FunctionDef _ a _ _ _ _ _ _ _ _=>a
 | _=>{ posonlyargs:=[],args:=[],vararg:=none,kwonlyargs:=[],kw_defaults:=[],kwarg:=none,defaults:=[] }
def ck(s:M3):List M3:=match s with
 | .FunctionDef _ _ b _ _ _ _ _ _ _=>b
 | _=>[]
noncomputable def av(s:M3):Nk:=match s with
 | .FunctionDef _ _ _ _ _ _ sc _ _ _=>sc
 | _=>{ kind:=.function,names:=[],isGenerator:=false,isCoroutine:=false }
abbrev CX0:CXT:=fun _ _ _ _ _ _=>False
abbrev E0:XK:=fun _ _ _=>False
theorem GD{X:Cx}:Passes CX0 X E0:=fun _ _ _ _ _ _ _ h=>h.elim
structure Fun (K:Mk) (x qual:Str) (st:M3) (f:Ml) (fd:MR):Prop where
 ex:∃(oc:Mj) (od:Option Ml) (kV doc pm:Mj) (an:Option Ml) (cdv ct:Mj) (osl:Array (Option Mj)),
  fd=NU x qual (cN st) (ck st) (av st) .none kV doc pm an cdv ct/\K.lookup f=some ⟨oc,od,.func fd,osl⟩/\Pg K cdv qual=true
 kp:OL K (.ref f)=true
section
variable{P:MA}{w:MC}{K:Mk}{mg:Str->Option Mj}{base:MD}
theorem Fun.ok {x qual:Str}{st:M3}{f:Ml}{fd:MR}{N ps:List Str}{k:Nat}{sp:Sp}(F:Fun K x qual st f fd)(S:FnScope N ps (av st))(len:∀ vs H Q E,sp vs H Q E->vs.length=ps.length)
  (hbody:∀(cdv:Mj) (A:MJ) (outer:List Env) (s:Mm) (H:Hp) (vs:List V) (Q:VK) (E:XK),Room k (A.deeper (O8 qual (av st) s.heap.objs.size f cdv))->sp vs H Q E->
   ∃ t,PSs (qq CX0 P w K mg base N qual (av st) f cdv A outer s H E).nox (ck st) t/\t { nx:=fun _ H'=>Q .non H',rt:=Q } (start N vs) H):FnOk P w K mg base CX0 (k + 1) f fd ps sp:=by
 obtain⟨oc,od,kV,doc,pm,an,cdv,ct,osl,rfl,lk,hcd⟩:=F.ex
 refine EW lk hcd S len fun A outer s H vs Q E hr hsp=>?_
 obtain⟨t,h,q⟩:=hbody cdv A outer s H vs Q E hr hsp
 exact⟨t,h.nox,q⟩
theorem Fun.binds {x qual:Str}{st:M3}{f:Ml}{fd:MR}{ps:List Str}(F:Fun K x qual st f fd)
  (h:∀(kV doc pm:Mj) (an:Option Ml) (cdv ct:Mj) (us:List Mj),us.length=ps.length->TB (NU x qual (cN st) (ck st) (av st) .none kV doc pm an cdv ct) ⟨us,[]⟩=pure (ps.zip us)):Binds K fd ps []:=by
 obtain⟨oc,od,kV,doc,pm,an,cdv,ct,osl,rfl,lk,hcd⟩:=F.ex
 exact .all (h kV doc pm an cdv ct)
theorem qS{x qual:Str}{st:M3}{f:Ml}{oc:Mj}{od an:Option Ml}{osl:Array (Option Mj)}{kV doc pm cdv ct:Mj}(l:K.lookup f=some ⟨oc,od,.func (NU x qual (cN st) (ck st) (av st) .none kV doc pm an cdv ct),osl⟩)
  (c:Pg K cdv qual=true) (k:OL K (.ref f)=true):Fun K x qual st f (NU x qual (cN st) (ck st) (av st) .none kV doc pm an cdv ct):=⟨⟨oc,od,kV,doc,pm,an,cdv,ct,osl,rfl,l,c⟩,k⟩
end
theorem l5{A:MJ}{k:Nat}(hr:Room k A):A.units + 1 < cLine:=Ij (JN (by decide:1<=64) _) hr.units
section
variable{X:Cx}
theorem pv(i:Nat){x:Str}{pos:Pos}(hN:X.N[i]?=some x:=by rfl)(hv:Vis X.env.scope x:=by first | exact c_ rfl | exact b_ (c_ rfl) | exact b_ (b_ rfl))(hd:(x ==("__debug__":Str))=false:=by decide)
  (hcd:(x ==("__classdict__":Str))=false:=by decide):PE X (.Name x pos) (Cw i):=dH hN hv hd hcd
end
theorem F5{A B:Prop}(h:B):if false=true then A else B:=by
 rw[if_neg B_]
 exact h
theorem DV{A B:Prop}(h:A):if true=true then A else B:=by
 rw[if_pos rfl]
 exact h
def aS(H H':Hp):Prop:=∀ b o,H b=some o->H' b=some o
theorem aS.seq {K:Mk}{H H':Hp}{a:Ml}{xs:List V}(e:aS H H')(h:SqL K H a xs):SqL K H' a xs:=by
 rcases h with (h | ⟨o,h⟩) | h
 ·exact .inl (.inl (e _ _ h))
 ·exact .inl (.inr ⟨o,e _ _ h⟩)
 exact .inr h
end L2
namespace ZG
open PySem
noncomputable def Sq(b:Bool)(h:MD)(l:Ml)(xs:Array Mj):Prop:=match b with
 | true=>h.IsTuple l xs
 | false=>h.IsList l xs
noncomputable def Dr(b:Bool)(h:MD)(i l:Ml)(k:Nat):Prop:=match b with
 | true=>h.IsTupleIter i l k
 | false=>h.IsListIter i l k
theorem Sq.ext {b:Bool}{h h':MD}{l c:Ml}{xs:Array Mj}(x:Sq b h l xs)(k:OC c h h')(n:l≠c):Sq b h' l xs:=by
 cases b with
 | true=>exact Ur (show h.IsTuple l xs from x) k n
 | false=>exact Uy (show h.IsList l xs from x) k n
theorem Dr.ext {b:Bool}{h h':MD}{i l c:Ml}{k:Nat}(x:Dr b h i l k)(e:OC c h h')(n:i≠c):Dr b h' i l k:=by
 cases b with
 | true=>exact T4 (show h.IsTupleIter i l k from x) e n
 | false=>exact Ue (show h.IsListIter i l k from x) e n
theorem Dr.some {b:Bool}{h:MD}{i l:Ml}{k:Nat}(x:Dr b h i l k):∃ o,h.get? i=some o/\∀ v,o.data≠.cell v:=by
 cases b with
 | true=>obtain⟨o,e,_,d⟩:=(show h.IsTupleIter i l k from x);exact⟨o,e,fun v z=>by rw[d]at z;cases z⟩
 | false=>obtain⟨o,e,_,d⟩:=(show h.IsListIter i l k from x);exact⟨o,e,fun v z=>by rw[d]at z;cases z⟩
theorem Dr.at {b:Bool}{h h':MD}{i l:Ml}{k:Nat}(x:Dr b h i l k)(e:∀ o,h.get? i=Md o->h'.get? i=Md o):Dr b h' i l k:=by
 cases b with
 | true=>obtain⟨o,q,r⟩:=(show h.IsTupleIter i l k from x);exact⟨o,e o q,r⟩
 | false=>obtain⟨o,q,r⟩:=(show h.IsListIter i l k from x);exact⟨o,e o q,r⟩
section
variable{prog:MA}{w:MC}{A:MJ}{E:Mj->Mm->Prop}{s:Mm}
theorem AM{i l:Ml}{k:Nat}{xs:Array Mj}{v:Mj}{Q:Mj->Mm->Prop}(d:s.heap.IsTupleIter i l k)(q:s.heap.IsTuple l xs)(hv:xs[k]?=some v)
  (r:∀ g,g.IsTupleIter i l (k + 1)->Na i s.heap g->Q v { s with heap:=g }):Mr (Mw prog w) A (MW (.ref i)) Q E s:=by
 obtain⟨oi,hoi,ci,di⟩:=id d
 obtain⟨ol,hol,_,nl,dl⟩:=q
 unfold MW
 refine Mi (MZ (name:=Nf "__next__") d.typeIs NX (MX NX d.typeIs Pw ?_ (Pj _)))
 show Mr _ _ (QW (.ref i) 0 >>= _) _ _ s
 refine Mi (Ni hoi di (x:=.ref l) rfl ?_)
 show Mr _ _ (if(MY l == MV)=true then _ else _) _ _ s
 rw[if_neg (show ¬((MY l == MV)=true)from B_)]
 show Mr _ _ (QW (.ref i) 1 >>= _) _ _ s
 refine Mi (Ni hoi di (x:=.int k 0) rfl ?_)
 show Mr _ _ (Rj (.ref l) >>= _) _ _ s
 refine Mi (NN hol dl ?_)
 simp only[Ii,hv]
 refine Mi (Nt hoi di (by simp) (Mn ⟨v,rfl,Mn (r _ ?_ (M0 ..))⟩))
 exact⟨_,M6 _ hoi (NG (MU di _)),(Oo ..).trans ci,by rw[MU di];simp[Nm]⟩
theorem Ck{i l:Ml}{k:Nat}{xs:Array Mj}{Q:Mj->Mm->Prop}(hh:A.handled=none)(d:s.heap.IsTupleIter i l k)(q:s.heap.IsTuple l xs)(hv:xs[k]?=none)
  (r:∀ g e,OC i s.heap g->(∃ o,g.get? e=some o/\o.cls=.type "StopIteration")->E (.ref e) { s with heap:=g }):Mr (Mw prog w) A (MW (.ref i)) Q E s:=by
 obtain⟨oi,hoi,ci,di⟩:=id d
 obtain⟨ol,hol,_,nl,dl⟩:=q
 unfold MW
 refine Mi (MZ (name:=Nf "__next__") d.typeIs NX (MX NX d.typeIs Pw ?_ (Pj _)))
 show Mr _ _ (QW (.ref i) 0 >>= _) _ _ s
 refine Mi (Ni hoi di (x:=.ref l) rfl ?_)
 show Mr _ _ (if(MY l == MV)=true then _ else _) _ _ s
 rw[if_neg (show ¬((MY l == MV)=true)from B_)]
 show Mr _ _ (QW (.ref i) 1 >>= _) _ _ s
 refine Mi (Ni hoi di (x:=.int k 0) rfl ?_)
 show Mr _ _ (Rj (.ref l) >>= _) _ _ s
 refine Mi (NN hol dl ?_)
 simp only[Ii,hv]
 refine Mi (NQ (Mi (Nt hoi di (by simp) ?_)))
 show Mr _ _ (Qb (.type "StopIteration") [] >>= _) _ _ _
 refine Mi ?_
 simp only[Qb,RL]
 refine Mi (ML ?_ (by size_fits))
 refine Mi (m:=NO _ _) (OD (a:=MV) (by first | rfl | (simp only[NO];rfl)) ?_)
 refine ML ?_ (by size_fits)
 simp only[RM]
 refine Mi (PQ ?_)
 first | rw[show A.in1.handled=none from hh] | rw[hh]
 refine Mi (Mn (Qx ?_))
 exact r _ _ (((M0 ..).extBut.push _).push _) ⟨_,Mt _ rfl,rfl⟩
theorem qJ{b:Bool}{i l:Ml}{k:Nat}{xs:Array Mj}{v:Mj}{Q:Mj->Mm->Prop}(d:Dr b s.heap i l k)(q:Sq b s.heap l xs)(hv:xs[k]?=some v)
  (r:∀ g,Dr b g i l (k + 1)->Na i s.heap g->Q v { s with heap:=g }):Mr (Mw prog w) A (MW (.ref i)) Q E s:=by
 cases b with
 | true=>exact AM d q hv r
 | false=>exact wpAny_nextOf_list_item d q hv r
theorem Bz{b:Bool}{i l:Ml}{k:Nat}{xs:Array Mj}{Q:Mj->Mm->Prop}(hh:A.handled=none)(d:Dr b s.heap i l k)(q:Sq b s.heap l xs)(hv:xs[k]?=none)
  (r:∀ g e,OC i s.heap g->(∃ o,g.get? e=some o/\o.cls=.type "StopIteration")->E (.ref e) { s with heap:=g }):Mr (Mw prog w) A (MW (.ref i)) Q E s:=by
 cases b with
 | true=>exact Ck hh d q hv r
 | false=>exact wpAny_nextOf_list_end hh d q hv r
structure Off (z TI TO i1 i2 l1 l2:Ml):Prop where
 a1:TI≠z
 a2:TO≠z
 a3:i1≠z
 a4:i2≠z
 a5:TI≠TO
 a6:TI≠i1
 a7:TI≠i2
 a8:TO≠i1
 a9:TO≠i2
 b1:i1≠i2
 c1:l1≠z
 c2:l1≠TO
 c3:l1≠i1
 c4:l1≠i2
 e1:l2≠z
 e2:l2≠TO
 e3:l2≠i1
 e4:l2≠i2
theorem G7{b1 b2:Bool}{z TI TO i1 i2 l1 l2:Ml}{k:Nat}{xs ys:Array Mj}{x y a b:Mj}{Q:Mj->Mm->Prop}(D:Off z TI TO i1 i2 l1 l2)
  (hz:Ou s.heap z TI TO .none) (hi:NB s.heap TI (.ref i1) (.ref i2)) (ho:NB s.heap TO a b)
  (d1:Dr b1 s.heap i1 l1 k) (d2:Dr b2 s.heap i2 l2 k) (q1:Sq b1 s.heap l1 xs) (q2:Sq b2 s.heap l2 ys) (hx:xs[k]?=some x) (hy:ys[k]?=some y)
  (r:∀ g,Ou g z TI TO (Nm s.heap.objs.size)->NB g TO x y->Dr b1 g i1 l1 (k + 1)->Dr b2 g i2 l2 (k + 1)->NB g s.heap.objs.size x y->g.objs.size=s.heap.objs.size + 1->
   (∀ c o,c≠z->c≠TO->c≠i1->c≠i2->s.heap.get? c=some o->g.get? c=some o)->Q (.ref s.heap.objs.size) { s with heap:=g }) :
  Mr (Mw prog w) A (Nu.«zip.__next__» ⟨[.ref z],[]⟩) (fun fin s'=>∃ v,fin=.done (.ret v)/\Q v s') E s:=by
 show Mr _ _ (QW (.ref z) 2 >>= _) _ _ _
 refine Mi (Ni hz rfl (x:=.bool false) rfl ?_)
 show Mr _ _ (QW (.ref z) 3 >>= _) _ _ _
 refine Mi (Ni hz rfl (x:=.ref TI) rfl (Mi (NN hi rfl ?_)))
 show Mr _ _ (Nv (.ref z) >>= _) _ _ _
 refine Mi ?_
 unfold Nv
 refine Mi (Ni hz rfl (x:=.none) rfl (Mn ?_))
 simp only[if_true]
 refine Mi (NQ (Mi (Ni hz rfl (x:=.ref TO) rfl (Mi (NV hz (by simp) fun g1 z1 s1=>?_)))))
 have z1:Ou g1 z TI TO .ellipsis:=z1
 refine Mi ?_
 simp only[KS,LR,K9,Le]
 refine Mi (Mi (PR ?_))
 show Mr _ _ (MW (.ref i1) >>= _) _ _ _
 refine Mi (qJ (d1.ext s1.extBut D.a3) (q1.ext s1.extBut D.c1) hx fun g2 w2 s2=>Mn ?_)
 have o2:NB g2 TO a b:=s2.extBut _ _ D.a8 (s1.extBut _ _ D.a2 ho)
 refine Mi (NN o2 rfl (Mi (O9 o2 fun g3 o3 s3=>?_)))
 have o3:NB g3 TO x b:=o3
 refine Mi (Qy (Mn (Mi (Mi (PR ?_)))))
 show Mr _ _ (MW (.ref i2) >>= _) _ _ _
 refine Mi (qJ (((d2.ext s1.extBut D.a4).ext s2.extBut D.b1.symm).ext s3.extBut D.a9.symm) (((q2.ext s1.extBut D.e1).ext s2.extBut D.e3).ext s3.extBut D.e2) hy fun g4 w4 s4=>Mn ?_)
 have o4:NB g4 TO x b:=s4.extBut _ _ D.a9 o3
 refine Mi (NN o4 rfl (Mi (O9 o4 fun g5 o5 s5=>?_)))
 have o5:NB g5 TO x y:=o5
 refine Mi (Qy (Mn (Mn (Mi (NN o5 rfl (Mi (QG ?_)))))))
 have sz:g5.objs.size=s.heap.objs.size:=by rw[s5.1,s4.1,s3.1,s2.1,s1.1]
 have z5:Ou g5 z TI TO .ellipsis:=s5.extBut _ _ D.a2.symm (s4.extBut _ _ D.a4.symm (s3.extBut _ _ D.a2.symm (s2.extBut _ _ D.a3.symm z1)))
 have k5:∀ c o,c≠z->c≠TO->c≠i1->c≠i2->s.heap.get? c=some o->g5.get? c=some o:=fun c o n1 n2 n3 n4 e=>
  s5.extBut _ _ n2 (s4.extBut _ _ n4 (s3.extBut _ _ n2 (s2.extBut _ _ n3 (s1.extBut _ _ n1 e))))
 have w15:Dr b1 g5 i1 l1 (k + 1):=((w2.ext s3.extBut D.a8.symm).ext s4.extBut D.b1).ext s5.extBut D.a8.symm
 have w25:Dr b2 g5 i2 l2 (k + 1):=w4.ext s5.extBut D.a9.symm
 have zlt:z < g5.objs.size:=Mu z5
 show Mr _ _ (OJ (.ref z) (.ref g5.objs.size) >>= _) _ _ _
 refine Mi ?_
 unfold OJ
 have z6:Ou (g5.push { cls:=.type "tuple",data:=.seq #[x,y] }) z TI TO .ellipsis:=Mo _ z5
 refine Mi (NV z6 (by simp) fun g7 z7 s7=>?_)
 have z7:Ou g7 z TI TO (Nm g5.objs.size):=z7
 refine NV z7 (by simp) fun g8 z8 s8=>?_
 have z8:Ou g8 z TI TO (Nm g5.objs.size):=z8
 have up:∀ c o,c≠z->g5.get? c=some o->g8.get? c=some o:=fun c o n e=>s8.extBut _ _ n (s7.extBut _ _ n (Mo _ e))
 have t8:NB g8 g5.objs.size x y:=s8.extBut _ _ (Jk zlt) (s7.extBut _ _ (Jk zlt) (Mt _ rfl))
 have e8:g8.objs.size=g5.objs.size + 1:=by rw[s8.1,s7.1,M']
 rw[sz]at z8 t8 e8
 refine Mn ⟨_,rfl,?_⟩
 show Q (.ref g5.objs.size) _
 rw[sz]
 exact r g8 z8 (up _ _ D.a2 o5) (w15.at fun o e=>up _ o D.a3 e) (w25.at fun o e=>up _ o D.a4 e) t8 e8 fun c o n1 n2 n3 n4 e=>up c o n1 (k5 c o n1 n2 n3 n4 e)
theorem zEnd{b1 b2:Bool}{z TI TO i1 i2 l1 l2:Ml}{k:Nat}{xs ys:Array Mj}{a b:Mj}{Q:Fin->Mm->Prop}(hh:A.handled=none)(D:Off z TI TO i1 i2 l1 l2)
  (hz:Ou s.heap z TI TO .none) (hi:NB s.heap TI (.ref i1) (.ref i2)) (ho:NB s.heap TO a b)
  (d1:Dr b1 s.heap i1 l1 k) (d2:Dr b2 s.heap i2 l2 k) (q1:Sq b1 s.heap l1 xs) (q2:Sq b2 s.heap l2 ys) (hn:xs[k]?=none\/ys[k]?=none)
  (r:∀ g e,(∀ c o,c≠z->c≠TO->c≠i1->c≠i2->s.heap.get? c=some o->g.get? c=some o)->(∃ o,g.get? e=some o/\o.cls=.type "StopIteration")->E (.ref e) { s with heap:=g }) :
  Mr (Mw prog w) A (Nu.«zip.__next__» ⟨[.ref z],[]⟩) Q E s:=by
 show Mr _ _ (QW (.ref z) 2 >>= _) _ _ _
 refine Mi (Ni hz rfl (x:=.bool false) rfl ?_)
 show Mr _ _ (QW (.ref z) 3 >>= _) _ _ _
 refine Mi (Ni hz rfl (x:=.ref TI) rfl (Mi (NN hi rfl ?_)))
 show Mr _ _ (Nv (.ref z) >>= _) _ _ _
 refine Mi ?_
 unfold Nv
 refine Mi (Ni hz rfl (x:=.none) rfl (Mn ?_))
 simp only[if_true]
 refine Mi (NQ (Mi (Ni hz rfl (x:=.ref TO) rfl (Mi (NV hz (by simp) fun g1 z1 s1=>?_)))))
 have z1:Ou g1 z TI TO .ellipsis:=z1
 refine Mi ?_
 simp only[KS,LR,K9,Le]
 refine Mi (Mi (PR ?_))
 show Mr _ _ (MW (.ref i1) >>= _) _ _ _
 cases hx:xs[k]? with
 | none=>
  refine Mi (Bz hh (d1.ext s1.extBut D.a3) (q1.ext s1.extBut D.c1) hx fun g2 e s2 he=>?_)
  obtain⟨oe,hoe,ce⟩:=he
  have z2:Ou g2 z TI TO .ellipsis:=s2 _ _ D.a3.symm z1
  have ne:e≠z:=fun q=>by subst q;rw[z2]at hoe;cases hoe;simp at ce
  exact NV z2 (by simp) fun g3 _ s3=>r g3 e (fun c o n1 _ n3 _ q=>s3.extBut _ _ n1 (s2 _ _ n3 (s1.extBut _ _ n1 q))) ⟨oe,s3.extBut _ _ ne hoe,ce⟩
 | some x=>
  have hy:ys[k]?=none:=by
   rcases hn with h | h
   ·rw[hx]at h;cases h
   exact h
  refine Mi (qJ (d1.ext s1.extBut D.a3) (q1.ext s1.extBut D.c1) hx fun g2 w2 s2=>Mn ?_)
  have o2:NB g2 TO a b:=s2.extBut _ _ D.a8 (s1.extBut _ _ D.a2 ho)
  refine Mi (NN o2 rfl (Mi (O9 o2 fun g3 o3 s3=>?_)))
  refine Mi (Qy (Mn (Mi (Mi (PR ?_)))))
  show Mr _ _ (MW (.ref i2) >>= _) _ _ _
  refine Mi (Bz hh (((d2.ext s1.extBut D.a4).ext s2.extBut D.b1.symm).ext s3.extBut D.a9.symm) (((q2.ext s1.extBut D.e1).ext s2.extBut D.e3).ext s3.extBut D.e2) hy fun g4 e s4 he=>?_)
  obtain⟨oe,hoe,ce⟩:=he
  have z4:Ou g4 z TI TO .ellipsis:=s4 _ _ D.a4.symm (s3.extBut _ _ D.a2.symm (s2.extBut _ _ D.a3.symm z1))
  have ne:e≠z:=fun q=>by subst q;rw[z4]at hoe;cases hoe;simp at ce
  exact NV z4 (by simp) fun g5 _ s5=>r g5 e (fun c o n1 n2 n3 n4 q=>s5.extBut _ _ n1 (s4 _ _ n4 (s3.extBut _ _ n2 (s2.extBut _ _ n3 (s1.extBut _ _ n1 q))))) ⟨oe,s5.extBut _ _ ne hoe,ce⟩
theorem qb{b1 b2:Bool}{z TI TO i1 i2 l1 l2:Ml}{k:Nat}{xs ys:Array Mj}{x y a b:Mj}{Q:Option Mj->Mm->Prop}(D:Off z TI TO i1 i2 l1 l2)
  (hz:Ou s.heap z TI TO .none) (hi:NB s.heap TI (.ref i1) (.ref i2)) (ho:NB s.heap TO a b)
  (d1:Dr b1 s.heap i1 l1 k) (d2:Dr b2 s.heap i2 l2 k) (q1:Sq b1 s.heap l1 xs) (q2:Sq b2 s.heap l2 ys) (hx:xs[k]?=some x) (hy:ys[k]?=some y)
  (r:∀ g,Ou g z TI TO (Nm s.heap.objs.size)->NB g TO x y->Dr b1 g i1 l1 (k + 1)->Dr b2 g i2 l2 (k + 1)->NB g s.heap.objs.size x y->g.objs.size=s.heap.objs.size + 1->
   (∀ c o,c≠z->c≠TO->c≠i1->c≠i2->s.heap.get? c=some o->g.get? c=some o)->Q (some (.ref s.heap.objs.size)) { s with heap:=g }) :
  Mr (Mw prog w) A (NZ (.ref z)) Q E s:=by
 have hT:s.TypeIs (.ref z) "zip":=⟨_,hz,rfl⟩
 unfold NZ
 refine Mi (NC (MZ (name:=Nf "__next__") hT O_ (MX O_ hT RN ?_ (Ry _))))
 exact G7 D hz hi ho d1 d2 q1 q2 hx hy fun g p1 p2 p3 p4 p5 p6 p7=>Mn (r g p1 p2 p3 p4 p5 p6 p7)
theorem qt{b1 b2:Bool}{z TI TO i1 i2 l1 l2:Ml}{k:Nat}{xs ys:Array Mj}{a b:Mj}{Q:Option Mj->Mm->Prop}(hh:A.handled=none)(D:Off z TI TO i1 i2 l1 l2)
  (hz:Ou s.heap z TI TO .none) (hi:NB s.heap TI (.ref i1) (.ref i2)) (ho:NB s.heap TO a b)
  (d1:Dr b1 s.heap i1 l1 k) (d2:Dr b2 s.heap i2 l2 k) (q1:Sq b1 s.heap l1 xs) (q2:Sq b2 s.heap l2 ys) (hn:xs[k]?=none\/ys[k]?=none)
  (r:∀ g,(∀ c o,c≠z->c≠TO->c≠i1->c≠i2->s.heap.get? c=some o->g.get? c=some o)->Q none { s with heap:=g }):Mr (Mw prog w) A (NZ (.ref z)) Q E s:=by
 have hT:s.TypeIs (.ref z) "zip":=⟨_,hz,rfl⟩
 unfold NZ
 refine Mi (NC (MZ (name:=Nf "__next__") hT O_ (MX O_ hT RN (zEnd hh D hz hi ho d1 d2 q1 q2 hn fun g e k he=>?_) (Ry _))))
 obtain⟨o,he,hc⟩:=he
 exact Mi (Ov (T:="StopIteration") (b:=true) ⟨o,he,hc⟩ Pl (Mn (r _ k)))
end
def nm(b:Bool):String:=if b=true then "tuple_iterator" else "list_iterator"
abbrev Z1(h:MD)(b1:Bool)(l1:Ml):MD:=h.push { cls:=.type (nm b1),data:=.fields #[.ref l1,.int 0 0] }
abbrev Z2(h:MD)(b1 b2:Bool)(l1 l2:Ml):MD:=(Z1 h b1 l1).push { cls:=.type (nm b2),data:=.fields #[.ref l2,.int 0 0] }
abbrev Z3(h:MD)(b1 b2:Bool)(l1 l2:Ml):MD:=(Z2 h b1 b2 l1 l2).push { cls:=.type "tuple",data:=.seq #[.ref h.objs.size,.ref (Z1 h b1 l1).objs.size] }
abbrev Z4(h:MD)(b1 b2:Bool)(l1 l2:Ml):MD:=(Z3 h b1 b2 l1 l2).push { cls:=.type "tuple",data:=.seq #[.none,.none] }
abbrev Z5(h:MD)(b1 b2:Bool)(l1 l2:Ml):MD:=(Z4 h b1 b2 l1 l2).push { cls:=.type "zip",data:=.fields #[.none,.bool false,.bool false,.ref (Z2 h b1 b2 l1 l2).objs.size,.ref (Z3 h b1 b2 l1 l2).objs.size] }
set_option maxHeartbeats 4000000 in
theorem Aj(b1 b2:Bool)(l1 l2:Ml)(xs ys:Array Mj) :
  Meets (Nu.«zip.__new__» ⟨[.type "zip",.ref l1,.ref l2],[]⟩) (fun _ R s=>Sq b1 s.heap l1 xs/\Sq b2 s.heap l2 ys/\R (.ok (.ret (.ref (Z4 s.heap b1 b2 l1 l2).objs.size))) { s with heap:=Z5 s.heap b1 b2 l1 l2 }):=
 .of_wp fun prog w A R s h=>by
  obtain⟨hp,g,d,tk,os⟩:=s
  obtain⟨q1,q2,h⟩:=h
  have hsub:=sub_zip
  cases b1 with
  | false=>
   have p1:RF (OX ⟨hp,g,d,tk,os⟩) l1 xs:=q1
   cases b2 with
   | false=>
    have p2:RF (OX ⟨hp.push { cls:=.type "list_iterator",data:=.fields #[.ref l1,.int 0 0] },g,d,tk,os⟩) l2 ys:=RO q2 _
    wp_walk using NJ p1,NJ p2
    exact⟨_,rfl,h⟩
   | true=>
    have p2:Rk (OX ⟨hp.push { cls:=.type "list_iterator",data:=.fields #[.ref l1,.int 0 0] },g,d,tk,os⟩) l2 ys:=RA q2 _
    wp_walk using NJ p1,NH p2
    exact⟨_,rfl,h⟩
  | true=>
   have p1:Rk (OX ⟨hp,g,d,tk,os⟩) l1 xs:=q1
   cases b2 with
   | false=>
    have p2:RF (OX ⟨hp.push { cls:=.type "tuple_iterator",data:=.fields #[.ref l1,.int 0 0] },g,d,tk,os⟩) l2 ys:=RO q2 _
    wp_walk using NH p1,NJ p2
    exact⟨_,rfl,h⟩
   | true=>
    have p2:Rk (OX ⟨hp.push { cls:=.type "tuple_iterator",data:=.fields #[.ref l1,.int 0 0] },g,d,tk,os⟩) l2 ys:=RA q2 _
    wp_walk using NH p1,NH p2
    exact⟨_,rfl,h⟩
section
variable{prog:MA}{w:MC}{A:MJ}{E:Mj->Mm->Prop}{s:Mm}
theorem yB{b1 b2:Bool}{l1 l2:Ml}{xs ys:Array Mj}{Q:Mj->Mm->Prop}(q1:Sq b1 s.heap l1 xs)(q2:Sq b2 s.heap l2 ys)
  (r:∀ g,Ou g (s.heap.objs.size + 4) (s.heap.objs.size + 2) (s.heap.objs.size + 3) .none->NB g (s.heap.objs.size + 2) (.ref s.heap.objs.size) (.ref (s.heap.objs.size + 1))->NB g (s.heap.objs.size + 3) .none .none->
    Dr b1 g s.heap.objs.size l1 0->Dr b2 g (s.heap.objs.size + 1) l2 0->g.objs.size=s.heap.objs.size + 5->(∀ c o,s.heap.get? c=some o->g.get? c=some o)->Q (.ref (s.heap.objs.size + 4)) { s with heap:=g }) :
  Mr (Mw prog w) A (call (.type "zip") [.ref l1,.ref l2]) Q E s:=by
 refine callType_new F.called_zip (by decide) (F.typeCall_zip_2 _ _) (F.newCall_zip_2 _ _) (fun obj=>F.args_object_init_3 obj _ _) F.entry_zip_new (Aj b1 b2 l1 l2 xs ys) ⟨q1,q2,?_⟩
 have z1:(Z1 s.heap b1 l1).objs.size=s.heap.objs.size + 1:=M' ..
 have z2:(Z2 s.heap b1 b2 l1 l2).objs.size=s.heap.objs.size + 2:=by rw[M',z1]
 have z3:(Z3 s.heap b1 b2 l1 l2).objs.size=s.heap.objs.size + 3:=by rw[M',z2]
 have z4:(Z4 s.heap b1 b2 l1 l2).objs.size=s.heap.objs.size + 4:=by rw[M',z3]
 have z5:(Z5 s.heap b1 b2 l1 l2).objs.size=s.heap.objs.size + 5:=by rw[M',z4]
 have u5:∀ c o,(Z4 s.heap b1 b2 l1 l2).get? c=some o->(Z5 s.heap b1 b2 l1 l2).get? c=some o:=fun c o e=>Mo _ e
 have u4:∀ c o,(Z3 s.heap b1 b2 l1 l2).get? c=some o->(Z5 s.heap b1 b2 l1 l2).get? c=some o:=fun c o e=>u5 c o (Mo _ e)
 have u3:∀ c o,(Z2 s.heap b1 b2 l1 l2).get? c=some o->(Z5 s.heap b1 b2 l1 l2).get? c=some o:=fun c o e=>u4 c o (Mo _ e)
 have u2:∀ c o,(Z1 s.heap b1 l1).get? c=some o->(Z5 s.heap b1 b2 l1 l2).get? c=some o:=fun c o e=>u3 c o (Mo _ e)
 have g5:(Z5 s.heap b1 b2 l1 l2).get? (Z4 s.heap b1 b2 l1 l2).objs.size=some _:=Mt _ rfl
 have g4:=u5 (Z3 s.heap b1 b2 l1 l2).objs.size _ (Mt _ rfl)
 have g3:=u4 (Z2 s.heap b1 b2 l1 l2).objs.size _ (Mt _ rfl)
 have g2:=u3 (Z1 s.heap b1 l1).objs.size _ (Mt _ rfl)
 have g1:=u2 s.heap.objs.size _ (Mt _ rfl)
 show _/\_
 rw[z2,z3,z4]at g5
 rw[z1,z2]at g3
 rw[z3]at g4
 rw[z1]at g2
 rw[z4]
 refine⟨⟨_,g5,rfl⟩,r _ g5 g3 g4 ?_ ?_ z5 fun c o e=>u2 c o (Mo _ e)⟩
 ·cases b1 with
  | true=>exact⟨_,g1,rfl,rfl⟩
  | false=>exact⟨_,g1,rfl,rfl⟩
 cases b2 with
 | true=>exact⟨_,g2,rfl,rfl⟩
 | false=>exact⟨_,g2,rfl,rfl⟩
end
end ZG
namespace L2
open PySem PySem.Spec PyProof.Rows
noncomputable def cD(env:Env):List (Str × N7)->List (Str × Ml)->List (Str × Ml)
 | [],cs=>cs
 | x::r,cs=>cD env r (if(x.2 == ND)=true then(x.1,(env.cells.lookup x.1).getD 0)::cs else cs)
theorem jw{env:Env}(f:Str × N7->List (Str × Ml)->Sem (ForInStep (List (Str × Ml))))(hf:∀ n k cs,f (n,k) cs=if(k == ND)=true then(do let a <-cellOf env n;pure (MG ((n,a)::cs)))else pure (MG cs)) :
  ∀(names:List (Str × N7)) (cs:List (Str × Ml)),(∀ x∈names,x.2=.free->∃ c,env.cells.lookup x.1=some c)->forIn names cs f=pure (cD env names cs)
 | [],cs,_=>by rw[Le];rfl
 | (n,k)::r,cs,h=>by
  rw[K9,hf]
  have hr:∀ x∈r,x.2=.free->∃ c,env.cells.lookup x.1=some c:=fun x hx=>h x (r_ _ hx)
  by_cases e:(k == ND)=true
  ·obtain⟨c,hc⟩:=h (n,k) s_ (by simpa using e)
   have hc':env.cells.lookup n=some c:=hc
   rw[if_pos e]
   have q:cellOf env n=pure c:=by unfold cellOf;rw[hc']
   rw[q,pure_bind,pure_bind]
   show forIn r ((n,c)::cs) f=pure (cD env ((n,k)::r) cs)
   rw[jw f hf r _ hr]
   unfold cD
   rw[if_pos e,hc']
   cases r <;> rfl
  rw[if_neg e,pure_bind]
  show forIn r cs f=pure (cD env ((n,k)::r) cs)
  rw[jw f hf r _ hr]
  conv=>rhs;unfold cD
  rw[if_neg e]
theorem jv{sc:Nk}{env:Env}(h:∀ x∈sc.names,x.2=.free->∃ c,env.cells.lookup x.1=some c):closureFor sc env=pure (cD env sc.names []):=by
 unfold closureFor
 show(forIn sc.names [] _ >>= fun cs=>pure cs)=_
 rw[jw (env:=env) _ (fun n k cs=>by cases e:k == ND <;> simp[e]) sc.names [] h]
 rfl
theorem oB{env:Env}:∀ {names:List (Str × N7)} {cs:List (Str × Ml)} {x:Str} {c:Ml},(∀ y∈names,y.2=.free->∃ c,env.cells.lookup y.1=some c)->(cD env names cs).lookup x=some c->
  (env.cells.lookup x=some c/\(x,ND)∈names)\/cs.lookup x=some c
 | [],cs,x,c,_,h=>.inr h
 | (n,k)::r,cs,x,c,hn,h=>by
  unfold cD at h
  have hr:∀ y∈r,y.2=.free->∃ c,env.cells.lookup y.1=some c:=fun y hy=>hn y (r_ _ hy)
  have hh:=oB hr h
  clear h
  rcases hh with⟨h1,h2⟩ | h
  ·exact .inl ⟨h1,r_ _ h2⟩
  by_cases e:(k == ND)=true
  ·rw[if_pos e]at h
   obtain⟨c',hc⟩:=hn (n,k) s_ (by simpa using e)
   have hc':env.cells.lookup n=some c':=hc
   rw[hc',JF]at h
   by_cases ex:(x == n)=true
   ·rw[ex]at h
    have ex':x=n:=by simpa using ex
    have ek:k=ND:=by simpa using e
    subst ex' ek
    have h':c'=c:=HU h
    subst h'
    exact .inl ⟨hc',s_⟩
   have ex':(x == n)=false:=by simpa using ex
   rw[ex']at h
   exact .inr h
  rw[if_neg e]at h
  exact .inr h
theorem pP{env:Env}:∀ {names:List (Str × N7)} {cs:List (Str × Ml)} {x:Str} {c:Ml},(∀ y∈names,y.2=.free->∃ c,env.cells.lookup y.1=some c)->env.cells.lookup x=some c->cs.lookup x=some c->(cD env names cs).lookup x=some c
 | [],cs,x,c,_,_,h=>h
 | (n,k)::r,cs,x,c,hn,he,h=>by
  unfold cD
  refine pP (fun y hy=>hn y (r_ _ hy)) he ?_
  by_cases e:(k == ND)=true
  ·rw[if_pos e,JF]
   by_cases ex:(x == n)=true
   ·rw[ex]
    have ex':x=n:=by simpa using ex
    subst ex'
    show some ((env.cells.lookup x).getD 0)=some c
    rw[he];rfl
   have ex':(x == n)=false:=by simpa using ex
   rw[ex']
   exact h
  rw[if_neg e]
  exact h
theorem mS{env:Env}:∀ {names:List (Str × N7)} {cs:List (Str × Ml)} {x:Str} {c:Ml},(∀ y∈names,y.2=.free->∃ c,env.cells.lookup y.1=some c)->env.cells.lookup x=some c->(x,ND)∈names->(cD env names cs).lookup x=some c
 | (n,k)::r,cs,x,c,hn,he,hm=>by
  have hr:∀ y∈r,y.2=.free->∃ c,env.cells.lookup y.1=some c:=fun y hy=>hn y (r_ _ hy)
  unfold cD
  rcases o_.mp hm with e | hm
  ·obtain⟨rfl,rfl⟩:=Prod.mk.inj e
   rw[if_pos (by rfl)]
   refine pP hr he ?_
   rw[JF,beq_self_eq_true]
   show some ((env.cells.lookup x).getD 0)=some c
   rw[he];rfl
  exact mS hr he hm
noncomputable def jT(env:Env)(sc:Nk):Nk:={ sc with names:=sc.names.map fun x=>if(x.2 == .free && env.scope.kind == .function && env.kindOf x.1 == some .cell)=true then(x.1,.cell)else(x.1,x.2) }
theorem gp{f:Str × N7->Bool}(x:Str):∀ names:List (Str × N7),(names.map fun y=>if f y=true then(y.1,UZ)else(y.1,y.2)).lookup x=(names.lookup x).map fun k=>if f (x,k)=true then .cell else k
 | []=>rfl
 | (n,k)::r=>by
  rw[j']
  by_cases ex:(x == n)=true
  ·have ex':x=n:=by simpa using ex
   subst ex'
   cases e:f (x,k) <;> simp[e,JF]
  have ex':(x == n)=false:=by simpa using ex
  have ih:=gp (f:=f) x r
  cases e:f (n,k) <;> simp only[e,if_true,if_false,HY,JF,ex',ih]
theorem fP(env:Env)(sc:Nk)(x:Str):(jT env sc).names.lookup x=(sc.names.lookup x).map fun k=>if(k == .free && env.scope.kind == .function && env.kindOf x == some .cell)=true then .cell else k:=
 gp (f:=fun y=>(y.2 == .free && env.scope.kind == .function && env.kindOf y.1 == some .cell)) x sc.names
noncomputable def compEnv(env:Env)(sc:Nk)(L:Ml):Env:={ newEnv sc L env.globals (cD env sc.names []) env.qual none .none (some env) QQ with scope:=jT env sc }
section
variable{M:Om}{A:MJ}{E:Mj->Mm->Prop}{s:Mm}{env:Env}
theorem gB{e:MB}{scope:Nk}{pos:Pos}{newAcc first:Sem Mj}{g:PU}{gs:List PU}{Q:Mj->Mm->Prop}
  (hcl:clausesOf e=g::gs) (hs:∀ x,Nd g.iter env x=pure x)
  (hc:∀ x∈scope.names,x.2≠.cell) (hfr:∀ x∈scope.names,x.2=.free->∃ c,env.cells.lookup x.1=some c) (hkind:scope.kind=.function) (hnames:∀ x∈scope.names,x.2=.local->scope.names.lookup x.1=some .local)
  (h:Mr M A first (fun x s₁=>Mr M A (Pu x) (fun it s₂=>Mr M A newAcc (fun acc s₃=>
   ∀ h4,h4.Ns s₃.heap.objs.size (fun _=>none)->(∀ b o,s₃.heap.get? b=some o->h4.get? b=some o)->
    Oh M A (.compStart e 0 it acc (compEnv env scope s₃.heap.objs.size)) (fun r s'=>∃ m,s'.heap.Ns s₃.heap.objs.size m/\∀ h',Na s₃.heap.objs.size s'.heap h'->
     match r with | .ok _=>Q acc { s' with heap:=h' } | .error x=>False) { s₃ with heap:=h4 }) E s₂) E s₁) E s) :
  Mr M A (O0 e scope env pos newAcc false first) Q E s:=by
 unfold O0
 rw[jv hfr,hcl]
 refine Mi (MP h (fun x s₁ h₁=>Mi (Ox (Mi (OD (hs x) (Mi (MM (MP h₁ (fun it s₂ h₂=>
  SQ (Mi (MP h₂ (fun acc s₃ h₃=>Mi (Mn (Mi ?_))) fun _ _ h'=>h')))
   fun _ _ h'=>h'))))))) fun _ _ h'=>h')
 refine QX hc (fun x hx=>nomatch hx) (fun h4 hn4 hs4=>?_) hkind
 have h₄:=h₃ h4 hn4 fun b o e=>hs4.extBut b o (u_ (Mu e)) (Mo _ e)
 dsimp only
 have hv:∀ x∈(scope.names.filter fun x=>(x.2 == .local || x.2 == .cell) && x.1 !=(".0":Str)).reverse,x.2=.local->
   R4 (compEnv env scope s₃.heap.objs.size) x.1=some .local:=fun x hx hl=>by
  show(jT env scope).names.lookup x.1=some .local
  rw[fP,hnames x (Io.mp (KU.mp hx)).1 hl]
  rfl
 refine MM (Mi (NC (MM (wpAny_run (NT h₄ fun r s' hr=>?_)))))
 obtain⟨m,hn,hr⟩:=hr
 cases r with
 | ok f=>exact Mi (MM (RP (cenv:=compEnv env scope s₃.heap.objs.size) hkind _ s' m hv hn fun h' m' _ hs'=>Mn (hr h' hs')))
 | error x=>exact(hr s'.heap (.refl ..)).elim
end
section
variable{prog:MA}{w:MC}{A:MJ}{R:Tz->Mm->Prop}{s:Mm}
theorem iI{elt target iter:MB}{ifs:List MB}{scope:Nk}{pos:Pos}{it acc:Mj}{env:Env}(I:Nat->Mm->Prop)
  (turn:∀ n s,I n s->Mr (Mw prog w) A (NZ it) (fun r s₁=>match r with
   | none=>R (.ok .next) s₁
   | some v=>Mr (Mw prog w) A (O7 target it v) (fun _ s₁'=>Mr (Mw prog w) A (OV target env v) (fun _ s₂=>
     Mr (Mw prog w) A (forIn ifs true fun c r=>if r=true then do let ok <-QC c env (MQ c env);pure (MG ok)else pure (MG r)) (fun ok s₃=>
      if ok=true then Mr (Mw prog w) A (MQ elt env) (fun x s₄=>
       Mr (Mw prog w) A (call (.builtin "list.append") [acc,x]) (fun _ s₅=>∃ m,m < n/\I m s₅) (fun _ _=>False) s₄) (fun _ _=>False) s₃
      else ∃ m,m < n/\I m s₃) (fun _ _=>False) s₂) (fun _ _=>False) s₁') (fun _ _=>False) s₁) (fun _ _=>False) s)
  (n:Nat) (h:I n s) :
  Oh (Mw prog w) A (.compLoop (.ListComp elt [⟨target,iter,ifs,0⟩] scope pos) 0 it acc env) R s:=by
 refine codeAny_loop rfl I (fun n s hI=>?_) n h
 show Mr _ A ((compTurn (.ListComp elt [⟨target,iter,ifs,0⟩] scope pos) 0 it acc env).onRaise (fun x=>do noteFrame x env;theTreesLotGoes x)) _ _ s
 refine wpAny_noted ?_
 rw[compTurn_list]
 refine Mi (Ox (Mi (MP (turn n s hI) (fun r s₁ h₁=>?_) fun _ _ h'=>h'.elim)))
 cases r with
 | none=>exact Mn h₁
 | some v=>
  refine Mi (MP h₁ (fun _ s₁' h₁'=>?_) fun _ _ h'=>h'.elim)
  refine Mi (MP h₁' (fun _ s₂ h₂=>Mi (MP h₂ (fun ok s₃ h₃=>?_) fun _ _ h'=>h'.elim)) fun _ _ h'=>h'.elim)
  cases ok with
  | false=>exact Mn ⟨rfl,h₃⟩
  | true=>
   exact Mi (Mi (MP h₃ (fun x s₄ h₄=>Mi (MP h₄ (fun _ s₅ h₅=>Mn (Mn ⟨rfl,h₅⟩)) fun _ _ h'=>h'.elim)) fun _ _ h'=>h'.elim))
end
noncomputable def aM(X:Cx)(N':List Str)(sc:Nk)(s3:Mm)(H3:Hp)(fp:List Ml):Cx where
 prog:=X.prog
 w:=X.w
 K:=X.K
 mg:=X.mg
 base:=X.base
 A:=X.A
 N:=N'
 s₀:=s3
 H₀:=H3
 env:=compEnv X.env sc s3.heap.objs.size
 outer:=X.stack
 stack:=X.stack
 ex:=fp
 calm:=true
 fn:=fun _=>false
 pn:=[]
 xe:=fun _ _=>False
noncomputable def dD(N:List Str)(esc sc:Nk)(N':List Str)(fr:List (Option Nat)):Bool:=
 sc.kind == .function && esc.kind == .function
 && sc.names.all (fun y=>(y.2 != .cell) && (y.2 != .free || esc.names.lookup y.1 == some .cell) && (y.2 != .local || sc.names.lookup y.1 == some .local))
 && fr.length == N'.length
 && (y_ N'.length).all (fun i=>match fr[i]? with
  | some (some j)=>match N'[i]? with
   | some x=>N[j]? == some x && sc.names.lookup x == some .free
   | none=>false
  | _=>true)
structure CompOk (N:List Str) (esc sc:Nk) (N':List Str) (fr:List (Option Nat)):Prop where
 kind:sc.kind=.function
 ekind:esc.kind=.function
 nocell:∀ x∈sc.names,x.2≠.cell
 free:∀ x∈sc.names,x.2=.free->esc.names.lookup x.1=some .cell
 names:∀ x∈sc.names,x.2=.local->sc.names.lookup x.1=some .local
 len:fr.length=N'.length
 at_:∀(i j:Nat) (x:Str),fr[i]?=some (some j)->N'[i]?=some x->N[j]?=some x/\sc.names.lookup x=some .free
theorem lK{N:List Str}{esc sc:Nk}{N':List Str}{fr:List (Option Nat)}(h:dD N esc sc N' fr=true):CompOk N esc sc N' fr:=by
 unfold dD at h
 simp only[HP,beq_iff_eq,JG,IE]at h
 obtain⟨⟨⟨⟨h1,h2⟩,h3⟩,h4⟩,h5⟩:=h
 refine⟨h1,h2,fun x hx=>?_,fun x hx e=>?_,fun x hx e=>?_,h4,fun i j x e1 e2=>?_⟩
 ·have:=(h3 x hx).1.1
  simpa using this
 ·have:=(h3 x hx).1.2
  rw[e]at this
  simpa using this
 ·have:=(h3 x hx).2
  rw[e]at this
  simpa using this
 have hi:i < N'.length:=(gV.mp e2).1
 have q:=h5 i hi
 rw[e1,e2]at q
 simpa using q
noncomputable def bJ(fr:List (Option Nat))(σ:St):St:=fr.map fun o=>match o with
 | some j=>(σ[j]?).join
 | none=>none
theorem og{X:Cx}{pins:List (Ml × Obj)}{σ:St}{H3:Hp}{s3:Mm}{sc:Nk}{N':List Str}{fr:List (Option Nat)}{fp:List Ml}{h4:MD}(I:Inv X pins σ H3 s3)(C:CompOk X.N X.env.scope sc N' fr)(hc:X.calm=true)
  (hfp:∀ b∈fp,fX X pins H3 b) (hfo:∀ b∈fp,∃ o,s3.heap.get? b=some o) (hn:h4.Ns s3.heap.objs.size (fun _=>none)) (hk:∀ b o,s3.heap.get? b=some o->h4.get? b=some o) :
  Inv (aM X N' sc s3 H3 fp) [] (bJ fr σ) H3 { s3 with heap:=h4 }:=by
 have hfr:∀ x∈sc.names,x.2=.free->∃ c,X.env.cells.lookup x.1=some c:=fun x hx e=>I.ok.has x.1 (.inl (C.free x hx e))
 have clo:∀ {x c},(cD X.env sc.names []).lookup x=some c->X.env.cells.lookup x=some c:=fun{x c} e=>by
  rcases oB hfr e with⟨h1,_⟩ | h
  ·exact h1
  cases h
 have nfs:∀ b∈fp,b ∉ frs X.stack:=fun b hb z=>by
  obtain⟨_,h1,h2,_⟩:=hfp b hb
  rcases o_.mp (I.qI b z)with e | e
  ·exact h1 e
  exact h2 e
 have hfresh:H3 s3.heap.objs.size=none:=I.hok.fresh (f_ _)
 refine⟨⟨I.ok.mod,C.kind,I.ok.glob,I.ok.blt,f_ _,fun x y c e1 e2=>I.ok.inj x y c (clo e1) (clo e2),fun x hx=>?_,fun x c z=>(nomatch z),fun _=>I.ok.hd hc,I.ok.frames,.inl rfl,fun b hb=>⟨?_,fun x c e=>?_⟩,fun b o e=>I.bs b o e,v_ I.ok.bsz I.sz,fun b o e hb=>?_,nfs,I.stack,I.sk⟩,
  rfl,I.bare,Un.kept hk,⟨_,hn,fun i x v e1 e2 e3=>?_⟩,fun x c e=>?_,hfresh,fun x c e=>I.freeC x c (clo e),fun p hp=>(nomatch hp),I.hok.kept hk,?_⟩
 ·have hx:(jT X.env sc).names.lookup x=some .cell\/(jT X.env sc).names.lookup x=some .free:=hx
  rw[fP]at hx
  cases e:sc.names.lookup x with
  | none=>rw[e]at hx;rcases hx with z | z <;> cases z
  | some k=>
   have hm:(x,k)∈sc.names:=Nz e
   have hk:k=.free:=by
    rw[e]at hx
    cases k with
    | free=>rfl
    | cell=>exact absurd rfl (C.nocell _ hm)
    | _=>rcases hx with z | z <;>(simp at z)
   subst hk
   obtain⟨c,hc'⟩:=hfr _ hm rfl
   exact⟨c,mS hfr hc' hm⟩
 ·obtain⟨o,ho⟩:=hfo b hb
  exact u_ (Mu ho)
 ·exact(hfp b hb).2.2.2.2.1 x c (clo e)
 ·obtain⟨e1,_⟩:=I.ok.bs b o e
  rcases(hfp b hb).2.2.2.1 with z | z
  ·exact I.ok.noex b o e z
  exact absurd (x_ (Mu e1) z) (IX _)
 ·have e2:(bJ fr σ)[i]?=some (some v):=e2
  unfold bJ at e2
  rw[HM]at e2
  cases ef:fr[i]? with
  | none=>rw[ef]at e2;cases e2
  | some o=>
   rw[ef]at e2
   cases o with
   | none=>cases e2
   | some j=>
    have e2':(σ[j]?).join=some v:=by simpa using e2
    have e2'':σ[j]?=some (some v):=by
     cases q:σ[j]? with
     | none=>rw[q]at e2';cases e2'
     | some z=>rw[q]at e2';exact congrArg some e2'
    obtain⟨hN,hfrx⟩:=C.at_ i j x ef e1
    have hm:(x,ND)∈sc.names:=Nz hfrx
    have hcell:=C.free _ hm rfl
    obtain⟨m,_,hl⟩:=I.loc
    obtain⟨u,r,l⟩:=hl j x v hN e2'' (.inr (.inl hcell))
    refine⟨u,r,.inr ⟨.inl ?_,?_⟩⟩
    ·show(jT X.env sc).names.lookup x=some .cell
     rw[fP,hfrx]
     have h1:X.env.kindOf x=some .cell:=hcell
     have h2:X.env.scope.kind=.function:=C.ekind
     simp[h1,h2]
    rcases l with⟨k,_⟩ | ⟨_,c,ec,ic⟩
    ·have h1:X.env.kindOf x=some .cell:=hcell
     rw[h1]at k;cases k
    obtain⟨o,ho,hd⟩:=ic
    exact⟨c,mS hfr ec hm,o,hk c o ho,hd⟩
 ·obtain⟨v,o,ho,hd⟩:=I.cell x c (clo e)
  exact⟨v,o,hk c o ho,hd⟩
 unfold bJ
 rw[a_]
 exact C.len
noncomputable def PTs(X:Cx)(ifs:List MB)(t:TT):Prop:=
 ∀(pins:List (Ml × Obj)) (s:Mm) (σ:St) (H:Hp) (Q:Bool->Hp->Prop),Inv X pins σ H s->t σ H Q->
  Mr (Mw X.prog X.w) X.A (forIn ifs true fun c r=>if r=true then do let ok <-QC c X.env (MQ c X.env);pure (MG ok)else pure (MG r)) (TP X pins σ Q) X.xe s
def D9:TT:=fun _ H Q=>Q true H
theorem rM{X:Cx}:PTs X [] D9:=fun pins s σ H Q I h=>wpAny_tests_nil ⟨H,I,h⟩
theorem Ba{X:Cx}{c:MB}{t:TT}(h:PT X c t):PTs X [c] t:=fun pins s σ H Q I q=>wpAny_tests_one (h pins s σ H Q I q)
noncomputable def BU(J:It)(fr:List (Option Nat))(g:Mm->Hp->List Ml->TG)(tt:Mm->Hp->List Ml->TT)(te:Mm->Hp->List Ml->TE)(σ:St)(H1:Hp)(Q:VK):Prop:=∀ p,H1 p=none->∀ s3 H3' fp,∃ W:Nat->Nat->St->Hp->Prop,(∃ m,W 0 m (bJ fr σ) (upd H1 p (.lst [])))/\∀ i m σ' H',W i m σ' H'->
 (J.stop i H'/\Q (.ref p) H')\/(J.go i H'/\∀ x H2,J.yld i H' x H2->g s3 H3' fp x σ' H2 fun σ2 H3=>tt s3 H3' fp σ2 H3 fun b H4=>
  if b=true then te s3 H3' fp σ2 H4 fun v H5=>∃ ys,H5 p=some (.lst ys)/\ys.length < sizeLine/\∃ m',m' < m/\W (i + 1) m' σ2 (upd H5 p (.lst (ys++[v])))else ∃ m',m' < m/\W (i + 1) m' σ2 H4)
noncomputable def tW(wi:TI)(fr:List (Option Nat))(g:Mm->Hp->List Ml->TG)(tt:Mm->Hp->List Ml->TT)(te:Mm->Hp->List Ml->TE):TE:=fun σ H Q=>wi σ H fun J H1=>BU J fr g tt te σ H1 Q
theorem AW{X:Cx}(N':List Str)(fr:List (Option Nat)){elt target iter:MB}{ifs:List MB}{sc:Nk}{pos:Pos}{wi:TI}{g:Mm->Hp->List Ml->TG}{tt:Mm->Hp->List Ml->TT}{te:Mm->Hp->List Ml->TE}(hc:X.calm=true)(C:dD X.N X.env.scope sc N' fr=true)
  (hi:PI X target iter wi) (hg:∀ s3 H3 fp,PG (aM X N' sc s3 H3 fp) target (g s3 H3 fp)) (ht:∀ s3 H3 fp,PTs (aM X N' sc s3 H3 fp) ifs (tt s3 H3 fp)) (he:∀ s3 H3 fp,PE (aM X N' sc s3 H3 fp) elt (te s3 H3 fp))
  (hs:∀ x,Nd iter X.env x=pure x:=by intro _;rfl):PE X (.ListComp elt [⟨target,iter,ifs,0⟩] sc pos) (tW wi fr g tt te):=by
 have C:=lK C
 intro pins s σ H Q I h
 rw[eval_ListComp]
 have hfr:∀ x∈sc.names,x.2=.free->∃ c,X.env.cells.lookup x.1=some c:=fun x hx e=>I.ok.has x.1 (.inl (C.free x hx e))
 refine gB (g:=⟨target,iter,ifs,0⟩) (gs:=[]) rfl hs C.nocell hfr C.kind C.names ?_
 show Mr _ _ (MQ iter X.env) _ _ s
 refine thn (hi pins s σ H _ I h) fun v s1 h1=>thn h1 fun itv s2 h2=>?_
 obtain⟨it,fp,tn,J,H2,e,I2,T,st2,f2,k2⟩:=h2
 subst e
 refine NY ?_ (by show 0<=sizeLine;decide)
 have hf:H2 s2.heap.objs.size=none:=I2.hok.fresh (f_ _)
 obtain⟨W,⟨m0,w0⟩,turn⟩:=k2 _ hf { s2 with heap:=s2.heap.push { cls:=.type "list",data:=.seq ([]:List Mj).toArray } } (upd H2 s2.heap.objs.size (.lst [])) fp
 have kp:∀ b u,s2.heap.get? b=some u->(s2.heap.push { cls:=.type "list",data:=.seq ([]:List Mj).toArray }).get? b=some u:=fun b u e=>Mo _ e
 have I3:Inv X pins σ (upd H2 s2.heap.objs.size (.lst [])) { s2 with heap:=s2.heap.push { cls:=.type "list",data:=.seq ([]:List Mj).toArray } }:=
  I2.laid (t':=s2.toks) kp (f_ _) ⟨F' _,[],0,.nil,Mt _ rfl⟩
 have obj2:=T.obj 0 s2.heap st2
 have fpne:∀ b∈fp,b≠s2.heap.objs.size:=fun b hb=>by
  obtain⟨o,ho,_⟩:=obj2 b hb
  exact u_ (Mu ho)
 have f3:∀ b∈fp,fX X pins (upd H2 s2.heap.objs.size (.lst [])) b:=fun b hb=>⟨by rw[aG (fpne b hb)];exact(f2 b hb).1,(f2 b hb).2⟩
 have st3:=T.keep 0 s2.heap _ st2 fun b hb o e=>kp b o e
 have obj3:=T.obj 0 _ st3
 intro h4 hn4 hk4
 have st4:=T.keep 0 _ h4 st3 fun b hb o e=>hk4 b o e
 have I4:=og (N':=N') (fr:=fr) (fp:=fp) I3 C hc f3 (fun b hb=>let ⟨o,ho,_⟩:=obj3 b hb;⟨o,ho⟩) hn4 hk4
 have stat:∀ {H':Hp},(∀ b∈fp,H' b=none)->∀ b∈fp,fX (aM X N' sc { s2 with heap:=s2.heap.push { cls:=.type "list",data:=.seq ([]:List Mj).toArray } } (upd H2 s2.heap.objs.size (.lst [])) fp) [] H' b:=fun hn b hb=>
  ⟨hn b hb,(I4.ok.exf b hb).1,I4.ok.exfs b hb,.inl hb,(I4.ok.exf b hb).2,fun p hp=>(nomatch hp)⟩
 have loop:Oh (Mw X.prog X.w) X.A (.compLoop (.ListComp elt [⟨target,iter,ifs,0⟩] sc pos) 0 (.ref it) (.ref s2.heap.objs.size) (compEnv X.env sc (s2.heap.push { cls:=.type "list",data:=.seq ([]:List Mj).toArray }).objs.size))
   (fun r s'=>∃ m,s'.heap.Ns (s2.heap.push { cls:=.type "list",data:=.seq ([]:List Mj).toArray }).objs.size m/\∀ h',Na (s2.heap.push { cls:=.type "list",data:=.seq ([]:List Mj).toArray }).objs.size s'.heap h'->
    match r with | .ok _=>EP X pins σ Q (.ref s2.heap.objs.size) { s' with heap:=h' } | .error x=>False) { s2 with heap:=h4 }:=by
  refine iI (fun n s'=>∃ i σ' H',Inv (aM X N' sc { s2 with heap:=s2.heap.push { cls:=.type "list",data:=.seq ([]:List Mj).toArray } } (upd H2 s2.heap.objs.size (.lst [])) fp) [] σ' H' s'/\tn i s'.heap/\(∀ b∈fp,H' b=none)/\W i n σ' H') ?_ m0
   ⟨0,_,_,I4,st4,fun b hb=>(f3 b hb).1,w0⟩
  rintro n s5 ⟨i,σ5,H5,I5,st5,fr5,w5⟩
  rcases turn i n σ5 H5 w5 with⟨stop,q⟩ | ⟨go,step⟩
  ·refine thn (T.done (aM X N' sc _ _ fp) rfl rfl rfl rfl i [] s5 σ5 H5 (fun _ _=>False) I5 (stat fr5) st5 stop) ?_
   rintro r s6 ⟨hr,I6⟩
   subst hr
   obtain⟨m6,hn6,_⟩:=id I6.loc
   refine⟨m6,hn6,fun h' hs'=>?_⟩
   have hL:H5 (s2.heap.push { cls:=.type "list",data:=.seq ([]:List Mj).toArray }).objs.size=none:=I6.free
   have hok':HOk X.prog X.w H5 h':=fun b u e=>by
    refine(I6.hok b u e).iO (fun c v hc q=>(hs'.2 c ?_).trans q) (fun _ q=>q) fun _ _ q=>q
    rintro rfl
    rcases hc with rfl | hc
    ·rw[hL]at e;cases e
    rw[hL]at hc;cases hc
   have ub:=I6.base
   have lt:∀ b o,(s2.heap.push { cls:=.type "list",data:=.seq ([]:List Mj).toArray }).get? b=some o->b≠(s2.heap.push { cls:=.type "list",data:=.seq ([]:List Mj).toArray }).objs.size:=fun b o e=>u_ (Mu e)
   have un:Un (frs X.stack) fp (upd H2 s2.heap.objs.size (.lst [])) H5 (s2.heap.push { cls:=.type "list",data:=.seq ([]:List Mj).toArray }) h':=
    ⟨fun b o e n hb hx=>(hs'.2 b (lt b o e)).trans (ub.keep b o e n hb hx),fun b o e n hb hx=>let ⟨sl,z⟩:=ub.slot b o e n hb hx;⟨sl,(hs'.2 b (lt b o e)).trans z⟩,ub.free,
     fun b o e hx=>let ⟨o',z⟩:=ub.there b o e hx;⟨o',(hs'.2 b (lt b o e)).trans z⟩,ub.tups,ub.frzs,ub.tbls⟩
   refine⟨.ref s2.heap.objs.size,H5,I3.BJ (s':={ s6 with heap:=h' }) (ch:=fp) I6.os un hok' I6.bare (fun b hb=>?_),rfl,q⟩
   obtain⟨_,g1,g2,g3,g4,g5⟩:=f3 b hb
   exact⟨g3,g1,g4,g5⟩
  refine thn (T.item (aM X N' sc _ _ fp) rfl rfl rfl rfl i [] s5 σ5 H5 (fun _ _=>False) I5 (stat fr5) st5 go) ?_
  rintro r s6 ⟨u,hr,h6⟩
  subst hr
  refine thn h6 ?_
  rintro _ s7 ⟨x,H7,I7,r7,y7,st7,fr7⟩
  have I7':=I7.pinned (stat fr7) (T.obj _ _ st7)
  have again:∀ {σ8:St} {H8:Hp} {s8:Mm},Inv (aM X N' sc { s2 with heap:=s2.heap.push { cls:=.type "list",data:=.seq ([]:List Mj).toArray } } (upd H2 s2.heap.objs.size (.lst [])) fp) ([]++i6 fp s7.heap) σ8 H8 s8->(∃ m',m' < n/\W (i + 1) m' σ8 H8)->
    ∃ m,m < n/\∃ i σ' H',Inv (aM X N' sc { s2 with heap:=s2.heap.push { cls:=.type "list",data:=.seq ([]:List Mj).toArray } } (upd H2 s2.heap.objs.size (.lst [])) fp) [] σ' H' s8/\tn i s8.heap/\(∀ b∈fp,H' b=none)/\W i m σ' H':=fun{σ8 H8 s8} I8 ⟨m',hm,w8⟩=>by
   refine⟨m',hm,i + 1,σ8,H8,I8.dy,T.keep _ _ _ st7 fun b hb o e=>(I8.pin (b,o) (n_ _ (n_ _ (cc hb e)))).1,fun b hb=>?_,w8⟩
   obtain⟨o,e,d⟩:=T.obj _ _ st7 b hb
   exact(I8.pin (b,o) (n_ _ (n_ _ (cc hb e)))).2.1
  refine thn (hg _ _ fp _ s7 σ5 H7 x u _ I7' r7 (step x H7 y7)) ?_
  rintro _ s8 ⟨σ8,H8,I8,q8⟩
  refine thn (ht _ _ fp _ s8 σ8 H8 _ I8 q8) ?_
  rintro ok s9 ⟨H9,I9,q9⟩
  cases ok with
  | false=>exact again I9 q9
  | true=>
   refine thn (he _ _ fp _ s9 σ8 H9 _ I9 q9) ?_
   rintro y s10 ⟨v,H10,I10,r10,ys,hys,hl,q10⟩
   refine thn (ik _ s10 σ8 H10 (.ref s2.heap.objs.size) [v] (.ref s2.heap.objs.size) [y] (fun _ H'=>∃ m',m' < n/\W (i + 1) m' σ8 H') I10 rfl (.cons r10 .nil) ⟨_,ys,v,rfl,rfl,hys,hl,q10⟩) ?_
   rintro z s11 ⟨_,H11,I11,_,q11⟩
   exact again I11 q11
 refine Qz loop ?_
 exact T.self X.A 0 _ _ _ st4 loop
noncomputable def SqG(b:Bool)(K:Mk)(H:Hp)(a:Ml)(xs:List V):Prop:=match b with
 | true=>SqT K H a xs
 | false=>SqL K H a xs
section
variable{X:Cx}{pins:List (Ml × Obj)}{σ:St}{H:Hp}{s:Mm}
theorem Inv.sq (I:Inv X pins σ H s){b:Bool}{a:Ml}{xs:List V}(h:SqG b X.K H a xs):∃ its:List Mj,Vals xs its/\ZG.Sq b s.heap a its.toArray/\xs.length<=sizeLine:=by
 cases b with
 | true=>exact I.tuple h
 | false=>
  obtain⟨its,r,p,z⟩:=I.list h
  exact⟨its,r,p.isList,z⟩
theorem Inv.ym (I:Inv X pins σ H s){b:Bool}{a:Ml}{xs ys:List V}(h:SqG b X.K H a xs)(h':SqG b X.K H a ys):xs=ys:=by
 cases b with
 | true=>exact I.d8 h h'
 | false=>exact I.jF h h'
theorem Inv.BP (I:Inv X pins σ H s){a b:Ml}{u:HO}(h:Rd H a u)(f:fX X pins H b):a≠b:=by
 rintro rfl
 rcases h with h | ⟨o,h⟩
 ·rw[f.1]at h;cases h
 rw[f.1]at h;cases h
theorem Inv.FF (I:Inv X pins σ H s){a b:Ml}{o:Obj}(h:X.K.lookup a=some o)(f:fX X pins H b):a≠b:=by
 rintro rfl
 have e:X.base.get? a=some o:=I.ok.mod.kin a o h
 rcases f.2.2.2.1 with z | z
 ·exact I.ok.noex a o e z
 exact absurd (x_ (Mu (I.ok.bs a o e).1) z) (IX _)
theorem Inv.cq (I:Inv X pins σ H s){b:Bool}{a c:Ml}{xs:List V}(h:SqG b X.K H a xs)(f:fX X pins H c):a≠c:=by
 cases b with
 | true=>
  rcases h with h | ⟨o,its,n,hk,_⟩
  ·exact I.BP h f
  ·exact I.FF hk f
 | false=>
  rcases h with h | ⟨o,its,n,hk,_⟩
  ·exact I.BP h f
  exact I.FF hk f
end
noncomputable def Itz(K:Mk)(b1:Bool)(a1:Ml)(b2:Bool)(a2:Ml):It:=
  ⟨fun i H=>∃ xs ys x y,SqG b1 K H a1 xs/\SqG b2 K H a2 ys/\xs[i]?=some x/\ys[i]?=some y,
   fun i H v H'=>∃ p x y,H p=none/\v=.ref p/\H'=upd H p (.tup [x,y])/\(∀ xs,SqG b1 K H a1 xs->xs[i]?=some x)/\∀ ys,SqG b2 K H a2 ys->ys[i]?=some y,
   fun i H=>∃ xs ys,SqG b1 K H a1 xs/\SqG b2 K H a2 ys/\(xs.length<=i\/ys.length<=i)⟩
structure Off5 (z TI TO i1 i2:Ml):Prop where
 a1:TI≠z
 a2:TO≠z
 a3:i1≠z
 a4:i2≠z
 a5:TI≠TO
 a6:TI≠i1
 a7:TI≠i2
 a8:TO≠i1
 a9:TO≠i2
 b1:i1≠i2
theorem yz{P:MA}{w:MC}{K:Mk}{es:List MB}{x1:Nat}{tp:Pos}(b1:Bool)(a1:Ml)(b2:Bool)(a2 z TI TO i1 i2:Ml)(D:Off5 z TI TO i1 i2) :
  Turn P w K (.Tuple es x1 tp) (Itz K b1 a1 b2 a2) [z,TI,TO,i1,i2] z (fun i h=>Ou h z TI TO .none/\NB h TI (.ref i1) (.ref i2)/\(∃ a b,NB h TO a b)/\ZG.Dr b1 h i1 a1 i/\ZG.Dr b2 h i2 a2 i) where
 mem:=by simp
 obj:=fun i h st b hb=>by
  obtain⟨hz,hi,⟨a,c,ho⟩,d1,d2⟩:=st
  have hb:b=z\/b=TI\/b=TO\/b=i1\/b=i2:=by simpa using hb
  rcases hb with rfl | rfl | rfl | rfl | rfl
  ·exact⟨_,hz,fun v e=>by cases (show T' _=Ra v from e)⟩
  ·exact⟨_,hi,fun v e=>by cases (show TH _ _=Ra v from e)⟩
  ·exact⟨_,ho,fun v e=>by cases (show TH _ _=Ra v from e)⟩
  ·exact d1.some
  exact d2.some
 keep:=fun i h h' st k=>by
  obtain⟨hz,hi,⟨a,c,ho⟩,d1,d2⟩:=st
  exact⟨k z (by simp) _ hz,k TI (by simp) _ hi,⟨a,c,k TO (by simp) _ ho⟩,d1.at fun o e=>k i1 (by simp) o e,d2.at fun o e=>k i2 (by simp) o e⟩
 item:=by
  intro X hP hw hK hc i pins s σ H E I hf st hg
  subst hP hw hK
  obtain⟨xs,ys,x,y,q1,q2,hx,hy⟩:=hg
  obtain⟨its,rv,p1,z1⟩:=I.sq q1
  obtain⟨jts,sv,p2,z2⟩:=I.sq q2
  obtain⟨u,hu,ru⟩:=rv.get hx
  obtain⟨v,hv,rw'⟩:=sv.get hy
  obtain⟨hz,hi,⟨a,c,ho⟩,d1,d2⟩:=st
  have fz:=hf z (by simp)
  have fTI:=hf TI (by simp)
  have fTO:=hf TO (by simp)
  have f1:=hf i1 (by simp)
  have f2:=hf i2 (by simp)
  have DD:ZG.Off z TI TO i1 i2 a1 a2:=⟨D.a1,D.a2,D.a3,D.a4,D.a5,D.a6,D.a7,D.a8,D.a9,D.b1,I.cq q1 fz,I.cq q1 fTO,I.cq q1 f1,I.cq q1 f2,I.cq q2 fz,I.cq q2 fTO,I.cq q2 f1,I.cq q2 f2⟩
  refine ZG.qb DD hz hi ho d1 d2 p1 p2 (by simpa using hu) (by simpa using hv) fun g gz gO g1 g2 gT gs gk=>⟨_,rfl,?_⟩
  refine wpAny_letOwnedTupleGo_zip (s:={ s with heap:=g }) gz fun h' hz' hs'=>?_
  have hfresh:H s.heap.objs.size=none:=I.hok.fresh (f_ _)
  have zT:s.heap.objs.size≠z:=Jk (Mu hz)
  have kp:∀ b o,b ∉ [z,TI,TO,i1,i2]->s.heap.get? b=some o->h'.get? b=some o:=fun b o hb e=>by
   have n:b≠z/\b≠TI/\b≠TO/\b≠i1/\b≠i2:=by simpa using hb
   exact hs'.extBut _ _ n.1 (gk b o n.1 n.2.2.1 n.2.2.2.1 n.2.2.2.2 e)
  have hT:h'.get? s.heap.objs.size=some { cls:=.type "tuple",data:=.seq #[u,v] }:=hs'.extBut _ _ zT gT
  have notfp:∀ b o,H b=some o->b ∉ [z,TI,TO,i1,i2]:=fun b o e hb=>by
   have:=(hf b hb).1
   rw[e]at this;cases this
  have ne:∀ b o,s.heap.get? b=some o->b≠s.heap.objs.size:=fun b o e=>u_ (Mu e)
  have nt:∀ b o,H b=some o->b≠s.heap.objs.size:=fun b o e=>bz e hfresh
  have I1:Inv X pins σ (upd H s.heap.objs.size (.tup [x,y])) { s with heap:=h' }:=by
   refine I.step (g':=s.gens) (d':=s.drawn) (t':=s.toks) (ch:=[z,TI,TO,i1,i2]) (fun b hb=>?_) (fun b o _ _ hc e _=>kp b o hc e) (fun b o _ _ hc e _=>⟨o.slots,kp b o hc e⟩)
    (fun b o _ e n=>by rw[aG (ne b o e)];exact n) (fun b o hc e=>⟨o,kp b o hc e⟩) (fun b zs e=>by rw[aG (nt b _ e)];exact e) (fun b o u e=>by rw[aG (nt b _ e)];exact e)
    (fun b ps e=>⟨#[],by rw[aG (nt b _ e),e];simp⟩) (fun m hm=>?_) (fun b o e=>?_) I.bare
   ·obtain⟨g0,g1,g2,g3,g4,g5⟩:=hf b hb
    exact⟨g3,g1,g4,g5⟩
   ·obtain⟨o,es,ep,ho',r⟩:=hm
    exact⟨o,es,ep,kp _ o (fun hb=>(hf _ hb).2.1 rfl) ho',r⟩
   by_cases hb:b=s.heap.objs.size
   ·subst hb
    rw[aE]at e
    cases e
    exact⟨by show 2<=sizeLine;decide,[u,v],.cons ru (.cons rw' .nil),_,hT,rfl,_,rfl⟩
   rw[aG hb]at e
   refine(I.hok b o e).iO (fun c' w' hc' q=>kp c' w' ?_ q) (fun c' q=>by rw[aG (nt c' _ q)];exact q) fun c' zs q=>by rw[aG (nt c' _ q)];exact q
   rcases hc' with rfl | hc'
   ·exact notfp _ _ e
   exact notfp _ _ hc'
  refine⟨.ref s.heap.objs.size,_,I1,rfl,⟨s.heap.objs.size,x,y,hfresh,rfl,rfl,fun zs hq=>by rw[I.ym hq q1];exact hx,fun zs hq=>by rw[I.ym hq q2];exact hy⟩,?_,fun b hb=>?_⟩
  ·exact⟨hz',hs'.extBut _ _ D.a1 (gk _ _ D.a1 D.a5 D.a6 D.a7 hi),⟨_,_,hs'.extBut _ _ D.a2 gO⟩,g1.ext hs'.extBut D.a3,g2.ext hs'.extBut D.a4⟩
  have hb0:=(hf b hb).1
  have hb':b=z\/b=TI\/b=TO\/b=i1\/b=i2:=by simpa using hb
  have hlt:∃ o,s.heap.get? b=some o:=by
   rcases hb' with rfl | rfl | rfl | rfl | rfl
   ·exact⟨_,hz⟩
   ·exact⟨_,hi⟩
   ·exact⟨_,ho⟩
   ·obtain⟨o,e,_⟩:=d1.some;exact⟨o,e⟩
   obtain⟨o,e,_⟩:=d2.some;exact⟨o,e⟩
  obtain⟨o,e⟩:=hlt
  rw[aG (ne b o e)]
  exact hb0
 done:=by
  intro X hP hw hK hc i pins s σ H E I hf st hg
  subst hP hw hK
  obtain⟨xs,ys,q1,q2,hn⟩:=hg
  obtain⟨its,rv,p1,z1⟩:=I.sq q1
  obtain⟨jts,sv,p2,z2⟩:=I.sq q2
  obtain⟨hz,hi,⟨a,c,ho⟩,d1,d2⟩:=st
  have fz:=hf z (by simp)
  have fTI:=hf TI (by simp)
  have fTO:=hf TO (by simp)
  have f1:=hf i1 (by simp)
  have f2:=hf i2 (by simp)
  have DD:ZG.Off z TI TO i1 i2 a1 a2:=⟨D.a1,D.a2,D.a3,D.a4,D.a5,D.a6,D.a7,D.a8,D.a9,D.b1,I.cq q1 fz,I.cq q1 fTO,I.cq q1 f1,I.cq q1 f2,I.cq q2 fz,I.cq q2 fTO,I.cq q2 f1,I.cq q2 f2⟩
  have l1:=rv.length
  have l2:=sv.length
  refine ZG.qt (I.ok.hd hc) DD hz hi ho d1 d2 p1 p2 (hn.elim (fun z=>.inl (by simp;omega)) fun z=>.inr (by simp;omega)) fun g gk=>⟨rfl,?_⟩
  have kp:∀ b o,b ∉ [z,TI,TO,i1,i2]->s.heap.get? b=some o->g.get? b=some o:=fun b o hb e=>by
   have n:b≠z/\b≠TI/\b≠TO/\b≠i1/\b≠i2:=by simpa using hb
   exact gk b o n.1 n.2.2.1 n.2.2.2.1 n.2.2.2.2 e
  have notfp:∀ b o,H b=some o->b ∉ [z,TI,TO,i1,i2]:=fun b o e hb=>by
   have:=(hf b hb).1
   rw[e]at this;cases this
  refine I.step (g':=s.gens) (d':=s.drawn) (t':=s.toks) (ch:=[z,TI,TO,i1,i2]) (fun b hb=>?_) (fun b o _ _ hc e _=>kp b o hc e) (fun b o _ _ hc e _=>⟨o.slots,kp b o hc e⟩)
   (fun b o _ e n=>n) (fun b o hc e=>⟨o,kp b o hc e⟩) (fun b zs e=>e) (fun b o u e=>e) (fun b ps e=>⟨#[],by rw[e];simp⟩) (fun m hm=>?_) (fun b o e=>?_) I.bare
  ·obtain⟨g0,g1,g2,g3,g4,g5⟩:=hf b hb
   exact⟨g3,g1,g4,g5⟩
  ·obtain⟨o,es,ep,ho',r⟩:=hm
   exact⟨o,es,ep,kp _ o (fun hb=>(hf _ hb).2.1 rfl) ho',r⟩
  refine(I.hok b o e).iO (fun c' w' hc' q=>kp c' w' ?_ q) (fun c' q=>q) fun c' zs q=>q
  rcases hc' with rfl | hc'
  ·exact notfp _ _ e
  exact notfp _ _ hc'
 self:=fun _ _ _ _ _ st h=>RQ st.1 h
noncomputable def HF(K:Mk)(ta:TA):TI:=fun σ H R=>ta σ H fun vs H1=>∃ b1 a1 b2 a2,vs=[.ref a1,.ref a2]/\(∃ xs,SqG b1 K H1 a1 xs)/\(∃ ys,SqG b2 K H1 a2 ys)/\R (Itz K b1 a1 b2 a2) H1
theorem xY{X:Cx}{es:List MB}{x1:Nat}{tp:Pos}{a b:MB}{ta:TA}{p pos:Pos}(hg:Gl X "zip")(hm:X.mg "zip"=none)(ha:PA X [a,b] ta)(hs:ME [a,b] X.env=[(false,MQ a X.env),(false,MQ b X.env)]:=by rfl)(hs2:ME [b] X.env=[(false,MQ b X.env)]:=by rfl) :
  PI X (.Tuple es x1 tp) (.Call (.Name "zip" p) [a,b] [] pos) (HF X.K ta):=by
 intro pins s σ H R I h
 refine Call_ (cL I hg hm boot_zip (NS (thn (ha pos pins s σ H _ I h) fun us s1 ⟨vs,H1,I1,r1,q1⟩=>?_) (by rw[hs,hs2]) (by rw[hs2];rfl)))
 obtain⟨b1,a1,b2,a2,e,⟨xs,q1⟩,⟨ys,q2⟩,q⟩:=q1
 subst e
 cases r1 with
 | cons r rr=>
  cases rr with
  | cons r' rr=>
   cases rr
   cases r
   cases r'
   obtain⟨its,rv,p1,z1⟩:=I1.sq q1
   obtain⟨jts,sv,p2,z2⟩:=I1.sq q2
   refine ZG.yB p1 p2 fun g gz gi go g1 g2 gs gk=>RQ (s:={ s1 with heap:=g }) gz ?_
   have I2:Inv X pins σ H1 { s1 with heap:=g }:=I1.kept (t':=s1.toks) gk
   refine⟨_,_,_,_,H1,rfl,I2,yz b1 a1 b2 a2 _ (s1.heap.objs.size + 2) (s1.heap.objs.size + 3) s1.heap.objs.size (s1.heap.objs.size + 1) ?_,⟨gz,gi,⟨_,_,go⟩,g1,g2⟩,fun b hb=>?_,q⟩
   ·constructor <;>(show(_:Nat)≠_) <;> omega
   have hb':s1.heap.objs.size<=b:=by
    have z:b=s1.heap.objs.size + 4\/b=s1.heap.objs.size + 2\/b=s1.heap.objs.size + 3\/b=s1.heap.objs.size\/b=s1.heap.objs.size + 1:=by simpa using hb
    rcases z with z | z | z | z | z <;> rw[z] <;>(show(_:Nat)<=_) <;> omega
   exact I1.vy hb' (I1.hok.fresh hb')
def bools(bs:List Bool):List V:=bs.map V.bl
theorem vO{bs:List Bool}{us:List Mj}(r:Vals (bools bs) us){i:Nat}{u:Mj}(h:us[i]?=some u):∃ b,bs[i]?=some b/\u=.bool b:=by
 have hl:=r.length
 have hi:i < us.length:=(gV.mp h).1
 have hb:i < bs.length:=by rw[<-hl]at hi;simpa[bools]using hi
 have e:(bools bs)[i]?=some (.bl bs[i]):=by unfold bools;rw[HM,d_ hb];rfl
 obtain⟨u',h',ru⟩:=r.get e
 rw[h]at h'
 cases h'
 exact⟨bs[i],d_ hb,ru⟩
theorem qC(bs:List Bool):((y_ bs.length).all fun i=>(bs[i]?).getD true)=bs.all id:=by
 have e:bs=(y_ bs.length).map fun i=>(bs[i]?).getD true:=by
  apply List.ext_getElem
  ·simp
  intro i h1 h2;simp[h1]
 conv=>rhs;rw[e,Kf]
 rfl
section
variable{X:Cx}
theorem oR(hc:X.calm=true):bA X (.builtin "all") (fun xs H Q=>∃ a bs,xs=[.ref a]/\SqL X.K H a (bools bs)/\Q (.bl (bs.all id)) H):=by
 intro pins s σ H xs us Q I r h
 obtain⟨a,bs,rfl,hq,q⟩:=h
 obtain⟨u,rfl,ru⟩:=vals1 r
 cases ru
 obtain⟨its,rv,p,z⟩:=I.list hq
 have hl:=p.isList
 have hlt:a < s.heap.objs.size:=by obtain⟨_,e,_⟩:=hl;exact Mu e
 have hlen:its.toArray.size=bs.length:=by rw[q_,<-rv.length];simp[bools]
 refine call_all_walk (NJ hl ⟨s.heap.objs.size,[s.heap.objs.size,a],[s.heap.objs.size],its.toArray.size,_,_,fun i=>(bs[i]?).getD true,rfl,Um (A:=X.A.in1) (I.ok.hd hc) _ a (u_ hlt) its.toArray,⟨⟨_,Mt _ rfl,rfl,rfl⟩,hl.push _⟩,fun i v s' Q' E' hP hQ=>?_,fun h' tk hk=>?_⟩)
 ·obtain⟨b,e,rfl⟩:=vO rv (i:=i) (u:=v) (by simpa using hP)
  simp only[e,Option.getD_some]at hQ
  exact Nb hQ
 rw[hlen,qC]
 exact⟨.bl (bs.all id),H,I.kept (t':=tk) (LSm.kept_iter hk),rfl,q⟩
end
inductive Ty where
 | non | bl | int | str | lst | tup | dct
 deriving DecidableEq
noncomputable def Ty.nm:Ty->String
 | .non=>"NoneType"
 | .bl=>"bool"
 | .int=>"int"
 | .str=>"str"
 | .lst=>"list"
 | .tup=>"tuple"
 | .dct=>"dict"
def isA(t c:Ty):Bool:=decide (t=c) || (decide (t=.bl) && decide (c=.int))
inductive TyG (K:Mk) (H:Hp):V->Ty->Prop where
 | non:TyG K H .non .non
 | bl (b:Bool):TyG K H (.bl b) .bl
 | int (i:Int):TyG K H (.int i) .int
 | str (x:Str):TyG K H (.str x) .str
 | lst {a:Ml} {xs:List V} (h:SqL K H a xs):TyG K H (.ref a) .lst
 | tup {a:Ml} {xs:List V} (h:SqT K H a xs):TyG K H (.ref a) .tup
 | dct {a:Ml} {kvs:List (Key × V)} (h:Rd H a (.dK kvs)):TyG K H (.ref a) .dct
theorem uf(K:Mk)(t c:Ty):PySem.W.kitOne K (.type t.nm) (.type c.nm)=some (isA t c):=by
 cases t <;> cases c <;> kernel_rfl
theorem tK(K:Mk)(t:Ty):∀ cs:List Ty,Su K (.type t.nm) (cs.map fun c=>Nl c.nm)=some (cs.any (isA t))
 | []=>rfl
 | c::r=>by
  rw[j',KG]
  unfold Su
  rw[uf]
  cases isA t c with
  | true=>rfl
  | false=>exact tK K t r
section
variable{X:Cx}{pins:List (Ml × Obj)}{σ:St}{H:Hp}{s:Mm}{A:MJ}{E:Mj->Mm->Prop}{Q:Mj->Mm->Prop}
theorem Vals.tys:∀ {cs:List Ty} {us:List Mj},Vals (cs.map fun c=>V.ty c.nm) us->us=cs.map fun c=>Nl c.nm
 | [],_,.nil=>rfl
 | c::r,_,.cons h t=>by
  have e:_=Nl c.nm:=h
  rw[j',<-Vals.tys t,e]
noncomputable def tJ(K:Mk)(H:Hp)(y:V)(cs:List Ty):Prop:=(∃ c,y=.ty c.nm/\cs=[c])\/∃ p,y=.ref p/\H p=some (.tup (cs.map fun c=>V.ty c.nm))
theorem yq{x y:V}{u v:Mj}{t:Ty}{cs:List Ty}(I:Inv X pins σ H s)(rx:RelV x u)(ry:RelV y v)(ty:TyG X.K H x t)(ka:tJ X.K H y cs)(h:∀ tk,Q (.bool (cs.any (isA t))) { s with toks:=tk }) :
  Mr (Mw X.prog X.w) A (call (.builtin "isinstance") [u,v]) Q E s:=by
 have go:∀ {P:MD->Prop},PySem.W.KitX X.K u (.type t.nm) P->P s.heap->u≠.builtin "__main__.__loader__#opaque"->Mr (Mw X.prog X.w) A (call (.builtin "isinstance") [u,v]) Q E s:=fun{P} Z p hx=>by
  rcases ka with⟨c,rfl,rfl⟩ | ⟨q,rfl,hq⟩
  ·cases (show v=Nl c.nm from ry)
   have e:([c].any (isA t))=isA t c:=by simp
   exact PySem.W.kia_one Z I.kIn p (uf X.K t c) hx (fun tk=>by rw[<-e];exact h tk)
  cases (show v=MY q from ry)
  obtain⟨_,its,rv,o,ho,hc,n,hd⟩:=(show b9 X.prog X.w H s.heap q (.tup _)from I.hok q _ hq)
  have e:=rv.tys
  subst e
  obtain⟨c,dd,dt,sl⟩:=o
  cases (show c=_ from hc)
  cases (show dt=_ from hd)
  exact PySem.W.kia_tup Z I.kIn p ho (tK X.K t cs) hx h
 cases ty with
 | non=>cases (show u=MV from rx);exact go PySem.W.kitx_none N2 (fun z=>nomatch z)
 | bl y=>cases (show u=RU y from rx);exact go PySem.W.kitx_bool N2 (fun z=>nomatch z)
 | int i=>obtain⟨t,q⟩:=(show ∃ t,u=NR i t from rx);cases q;exact go PySem.W.kitx_int N2 (fun z=>nomatch z)
 | str y=>obtain⟨t,q⟩:=(show ∃ t,u=Q8 y t from rx);cases q;exact go PySem.W.kitx_str N2 (fun z=>nomatch z)
 | @lst a xs hq=>
  cases (show u=MY a from rx)
  obtain⟨_,_,p,_⟩:=I.list hq
  obtain⟨o,h1,h2,_⟩:=p.isList
  exact go PySem.W.kitx_list ⟨o,h1,h2⟩ (fun z=>nomatch z)
 | @tup a xs hq=>
  cases (show u=MY a from rx)
  obtain⟨_,_,p,_⟩:=I.tuple hq
  obtain⟨o,h1,h2,_⟩:=p
  exact go PySem.W.kitx_tuple ⟨o,h1,h2⟩ (fun z=>nomatch z)
 | @dct a kvs hq=>
  cases (show u=MY a from rx)
  obtain⟨_,_,vs,_,p⟩:=(show b9 X.prog X.w H s.heap a (.dK kvs)from hq.ok I.hok)
  obtain⟨o,es,ep,h1,h2,_⟩:=p
  exact go PySem.W.kitx_dict ⟨o,h1,h2.1⟩ (fun z=>nomatch z)
theorem aW:bA X (.builtin "isinstance") (fun xs H Q=>∃ x y t cs,xs=[x,y]/\TyG X.K H x t/\tJ X.K H y cs/\Q (.bl (cs.any (isA t))) H):=by
 intro pins s σ H xs us Q I r h
 obtain⟨x,y,t,cs,rfl,ty,ka,q⟩:=h
 cases r with
 | cons r rr=>
  cases rr with
  | cons r' rr=>
   cases rr
   exact yq I r r' ty ka fun tk=>⟨.bl (cs.any (isA t)),H,I.tok tk,rfl,q⟩
end
inductive Dt where
 | int (i:Int) | bl (b:Bool) | str (x:Str) | non | lst (ds:List Dt) | tup (ds:List Dt)
mutual
def Has(K:Mk)(H:Hp):Dt->V->Prop
 | .int i,v=>v=.int i
 | .bl b,v=>v=.bl b
 | .str x,v=>v=.str x
 | .non,v=>v=.non
 | .lst ds,v=>∃ a xs,v=.ref a/\SqL K H a xs/\aH K H ds xs
 | .tup ds,v=>∃ a xs,v=.ref a/\SqT K H a xs/\aH K H ds xs
def aH(K:Mk)(H:Hp):List Dt->List V->Prop
 | [],xs=>xs=[]
 | d::r,xs=>∃ x t,xs=x::t/\Has K H d x/\aH K H r t
end
mutual
def dpt:Dt->Nat
 | .lst ds=>cX ds + 1
 | .tup ds=>cX ds + 1
 | _=>0
def cX:List Dt->Nat
 | []=>0
 | d::r=>max (dpt d) (cX r)
end
mutual
def eqD:Dt->Dt->Bool
 | .int a,.int b=>a == b
 | .int a,.bl b=>a ==(if b then 1 else 0)
 | .bl a,.int b=>(if a then 1 else 0) == b
 | .bl a,.bl b=>a == b
 | .str a,.str b=>a == b
 | .non,.non=>true
 | .lst xs,.lst ys=>eqL xs ys
 | .tup xs,.tup ys=>eqL xs ys
 | _,_=>false
def eqL:List Dt->List Dt->Bool
 | [],[]=>true
 | x::xs,y::ys=>eqD x y && eqL xs ys
 | _,_=>false
end
mutual
theorem fH:∀ d:Dt,eqD d d=true
 | .int a=>by simp[eqD]
 | .bl a=>by simp[eqD]
 | .str a=>by simp[eqD]
 | .non=>by simp[eqD]
 | .lst xs=>by rw[eqD];exact jL xs
 | .tup xs=>by rw[eqD];exact jL xs
theorem jL:∀ ds:List Dt,eqL ds ds=true
 | []=>by simp[eqL]
 | d::r=>by rw[eqL,fH d,jL r];rfl
end
theorem aH.len {K:Mk}{H:Hp}:∀ {ds:List Dt} {xs:List V},aH K H ds xs->ds.length=xs.length
 | [],xs,h=>by rw[aH]at h;rw[h];rfl
 | d::r,xs,h=>by
  rw[aH]at h
  obtain⟨x,t,rfl,_,ht⟩:=h
  rw[k_,k_,aH.len ht]
theorem aH.get {K:Mk}{H:Hp}:∀ {ds:List Dt} {xs:List V} {i:Nat} {d:Dt} {x:V},aH K H ds xs->ds[i]?=some d->xs[i]?=some x->Has K H d x
 | [],xs,i,d,x,h,e,_=>by simp at e
 | c::r,xs,0,d,x,h,e,f=>by
  rw[aH]at h
  obtain⟨y,t,rfl,hy,ht⟩:=h
  simp at e f
  subst e f
  exact hy
 | c::r,xs,i + 1,d,x,h,e,f=>by
  rw[aH]at h
  obtain⟨y,t,rfl,hy,ht⟩:=h
  exact aH.get ht (i:=i) (by simpa using e) (by simpa using f)
theorem SqL.same {K:Mk}{H H':Hp}{a:Ml}{xs:List V}(e:aS H H')(h:SqL K H a xs):SqL K H' a xs:=e.seq h
theorem SqT.same {K:Mk}{H H':Hp}{a:Ml}{xs:List V}(e:aS H H')(h:SqT K H a xs):SqT K H' a xs:=by
 rcases h with (h | ⟨o,h⟩) | h
 ·exact .inl (.inl (e _ _ h))
 ·exact .inl (.inr ⟨o,e _ _ h⟩)
 exact .inr h
theorem SqG.same {b:Bool}{K:Mk}{H H':Hp}{a:Ml}{xs:List V}(e:aS H H')(h:SqG b K H a xs):SqG b K H' a xs:=by
 cases b with
 | true=>exact SqT.same e h
 | false=>exact SqL.same e h
mutual
theorem Has.same {K:Mk}{H H':Hp}(e:aS H H'):∀ {d:Dt} {v:V},Has K H d v->Has K H' d v
 | .int i,v,h=>by rw[Has]at h ⊢;exact h
 | .bl i,v,h=>by rw[Has]at h ⊢;exact h
 | .str i,v,h=>by rw[Has]at h ⊢;exact h
 | .non,v,h=>by rw[Has]at h ⊢;exact h
 | .lst ds,v,h=>by
  rw[Has]at h ⊢
  obtain⟨a,xs,hv,hs,hl⟩:=h
  exact⟨a,xs,hv,SqL.same e hs,aH.same e hl⟩
 | .tup ds,v,h=>by
  rw[Has]at h ⊢
  obtain⟨a,xs,hv,hs,hl⟩:=h
  exact⟨a,xs,hv,SqT.same e hs,aH.same e hl⟩
theorem aH.same {K:Mk}{H H':Hp}(e:aS H H'):∀ {ds:List Dt} {xs:List V},aH K H ds xs->aH K H' ds xs
 | [],xs,h=>by rw[aH]at h ⊢;exact h
 | d::r,xs,h=>by
  rw[aH]at h ⊢
  obtain⟨x,t,hx,h1,h2⟩:=h
  exact⟨x,t,hx,Has.same e h1,aH.same e h2⟩
end
theorem aH.append {K:Mk}{H:Hp}:∀ {ds es:List Dt} {xs ys:List V},aH K H ds xs->aH K H es ys->aH K H (ds++es) (xs++ys)
 | [],es,xs,ys,h,g=>by rw[aH]at h;subst h;exact g
 | d::r,es,xs,ys,h,g=>by
  rw[aH]at h
  obtain⟨x,t,rfl,h1,h2⟩:=h
  show aH K H (d::(r++es)) (x::(t++ys))
  rw[aH]
  exact⟨x,t++ys,rfl,h1,aH.append h2 g⟩
theorem gm{K:Mk}{H:Hp}:aH K H [] []:=by rw[aH]
theorem gJ{K:Mk}{H:Hp}{d:Dt}{r:List Dt}{x:V}{t:List V}(h:Has K H d x)(g:aH K H r t):aH K H (d::r) (x::t):=by rw[aH];exact⟨x,t,rfl,h,g⟩
def di(ns:List Int):List Dt:=ns.map Dt.int
theorem lD{K:Mk}{H:Hp}:∀ ns:List Int,aH K H (di ns) (ns.map V.int)
 | []=>gm
 | n::r=>gJ (by rw[Has]) (lD r)
theorem oV{K:Mk}{H:Hp}{p:Ml}{ns:List Int}(h:SqL K H p (ns.map V.int)):Has K H (.lst (di ns)) (.ref p):=by rw[Has];exact⟨p,_,rfl,h,lD ns⟩
theorem lQ:∀ ns:List Int,cX (di ns)=0
 | []=>by simp[di,cX]
 | n::r=>by
  have ih:=lQ r
  show cX (Dt.int n::di r)=0
  simp[cX,dpt,ih]
theorem gf:∀ {ds:List Dt} {i:Nat} {d:Dt},ds[i]?=some d->dpt d<=cX ds
 | [],i,d,e=>by simp at e
 | c::r,0,d,e=>by simp at e;subst e;rw[cX];exact Nat.le_max_left _ _
 | c::r,i + 1,d,e=>by
  have q:dpt d<=cX r:=gf (i:=i) (by simpa using e)
  rw[cX]
  exact v_ q (Nat.le_max_right _ _)
theorem gF:∀(ds es:List Dt),ds.length=es.length->((y_ ds.length).all fun j=>eqD (ds.getD j .non) (es.getD j .non))=eqL ds es
 | [],[],_=>by simp[eqL]
 | [],e::r,h=>by simp at h
 | d::r,[],h=>by simp at h
 | d::r,e::t,h=>by
  have h':r.length=t.length:=by simpa using h
  rw[eqL,<-gF r t h',k_,List.range_succ_eq_map,KH,Kf]
  rfl
theorem nO:∀ {ds es:List Dt},eqL ds es=true->ds.length=es.length
 | [],[],_=>rfl
 | [],e::r,h=>by simp[eqL]at h
 | d::r,[],h=>by simp[eqL]at h
 | d::r,e::t,h=>by
  rw[eqL,HP]at h
  rw[k_,k_,nO h.2]
theorem o9:∀(ds es:List Dt),(((y_ (min ds.length es.length)).all fun j=>eqD (ds.getD j .non) (es.getD j .non)) && ds.length == es.length)=eqL ds es:=by
 intro ds es
 by_cases h:ds.length=es.length
 ·rw[<-gF ds es h,h,Nat.min_self]
  simp
 have:eqL ds es=false:=Jy.mpr fun z=>h (nO z)
 rw[this]
 have:(ds.length == es.length)=false:=by simpa using h
 rw[this,L0]
section
variable{X:Cx}{pins:List (Ml × Obj)}{σ:St}{H:Hp}{s:Mm}
theorem pY(n:Nat){A:MJ}(hA:A.units + 1 + n < cLine + 1)(I:Inv X pins σ H s){ds es:List Dt}{xs ys:List V}{its jts:List Mj}(h1:aH X.K H ds xs)(h2:aH X.K H es ys)(r1:Vals xs its)(r2:Vals ys jts)
  (rec:∀ d e x y u v,d∈ds->e∈es->Has X.K H d x->Has X.K H e y->RelV x u->RelV y v->P4 A.in1 s u v (eqD d e)) :
  ∀ j (g1:j < its.toArray.size) (g2:j < jts.toArray.size),P4 A.in1 s its.toArray[j] jts.toArray[j] (eqD (ds.getD j .non) (es.getD j .non)):=by
 intro j g1 g2
 have l1:=r1.length
 have l2:=r2.length
 have m1:=h1.len
 have m2:=h2.len
 have g1':j < its.length:=by simpa using g1
 have g2':j < jts.length:=by simpa using g2
 have a1:j < xs.length:=by lia
 have a2:j < ys.length:=by lia
 have b1:j < ds.length:=by lia
 have b2:j < es.length:=by lia
 obtain⟨u,hu,ru⟩:=r1.get (d_ a1)
 obtain⟨v,hv,rv⟩:=r2.get (d_ a2)
 rw[d_ g1']at hu
 rw[d_ g2']at hv
 cases hu
 cases hv
 have e1:ds.getD j .non=ds[j]:=by simp[IK,b1]
 have e2:es.getD j .non=es[j]:=by simp[IK,b2]
 rw[e1,e2]
 have:=rec ds[j] es[j] xs[j] ys[j] its[j] jts[j] (IC b1) (IC b2) (h1.get (d_ b1) (d_ a1)) (h2.get (d_ b2) (d_ a2)) ru rv
 simpa using this
theorem sO{ds:List Dt}{d:Dt}(h:d∈ds):dpt d<=cX ds:=by
 obtain⟨i,hi⟩:=List.getElem?_of_mem h
 exact gf hi
mutual
theorem Has.inj (I:Inv X pins σ H s):∀ {d e:Dt} {x:V},Has X.K H d x->Has X.K H e x->d=e
 | .int a,.int b,x,h1,h2=>by
  rw[Has]at h1
  rw[Has]at h2
  rw[h1]at h2
  cases h2
  rfl
 | .int a,.bl b,x,h1,h2=>by
  rw[Has]at h1
  rw[Has]at h2
  rw[h1]at h2
  cases h2
 | .int a,.str b,x,h1,h2=>by
  rw[Has]at h1
  rw[Has]at h2
  rw[h1]at h2
  cases h2
 | .int a,.non,x,h1,h2=>by
  rw[Has]at h1
  rw[Has]at h2
  rw[h1]at h2
  cases h2
 | .int a,.lst b,x,h1,h2=>by
  rw[Has]at h1
  rw[Has]at h2
  obtain⟨p,xs,e,s1,l1⟩:=h2
  rw[h1]at e
  cases e
 | .int a,.tup b,x,h1,h2=>by
  rw[Has]at h1
  rw[Has]at h2
  obtain⟨p,xs,e,s1,l1⟩:=h2
  rw[h1]at e
  cases e
 | .bl a,.int b,x,h1,h2=>by
  rw[Has]at h1
  rw[Has]at h2
  rw[h1]at h2
  cases h2
 | .bl a,.bl b,x,h1,h2=>by
  rw[Has]at h1
  rw[Has]at h2
  rw[h1]at h2
  cases h2
  rfl
 | .bl a,.str b,x,h1,h2=>by
  rw[Has]at h1
  rw[Has]at h2
  rw[h1]at h2
  cases h2
 | .bl a,.non,x,h1,h2=>by
  rw[Has]at h1
  rw[Has]at h2
  rw[h1]at h2
  cases h2
 | .bl a,.lst b,x,h1,h2=>by
  rw[Has]at h1
  rw[Has]at h2
  obtain⟨p,xs,e,s1,l1⟩:=h2
  rw[h1]at e
  cases e
 | .bl a,.tup b,x,h1,h2=>by
  rw[Has]at h1
  rw[Has]at h2
  obtain⟨p,xs,e,s1,l1⟩:=h2
  rw[h1]at e
  cases e
 | .str a,.int b,x,h1,h2=>by
  rw[Has]at h1
  rw[Has]at h2
  rw[h1]at h2
  cases h2
 | .str a,.bl b,x,h1,h2=>by
  rw[Has]at h1
  rw[Has]at h2
  rw[h1]at h2
  cases h2
 | .str a,.str b,x,h1,h2=>by
  rw[Has]at h1
  rw[Has]at h2
  rw[h1]at h2
  cases h2
  rfl
 | .str a,.non,x,h1,h2=>by
  rw[Has]at h1
  rw[Has]at h2
  rw[h1]at h2
  cases h2
 | .str a,.lst b,x,h1,h2=>by
  rw[Has]at h1
  rw[Has]at h2
  obtain⟨p,xs,e,s1,l1⟩:=h2
  rw[h1]at e
  cases e
 | .str a,.tup b,x,h1,h2=>by
  rw[Has]at h1
  rw[Has]at h2
  obtain⟨p,xs,e,s1,l1⟩:=h2
  rw[h1]at e
  cases e
 | .non,.int b,x,h1,h2=>by
  rw[Has]at h1
  rw[Has]at h2
  rw[h1]at h2
  cases h2
 | .non,.bl b,x,h1,h2=>by
  rw[Has]at h1
  rw[Has]at h2
  rw[h1]at h2
  cases h2
 | .non,.str b,x,h1,h2=>by
  rw[Has]at h1
  rw[Has]at h2
  rw[h1]at h2
  cases h2
 | .non,.non,x,h1,h2=>rfl
 | .non,.lst b,x,h1,h2=>by
  rw[Has]at h1
  rw[Has]at h2
  obtain⟨p,xs,e,s1,l1⟩:=h2
  rw[h1]at e
  cases e
 | .non,.tup b,x,h1,h2=>by
  rw[Has]at h1
  rw[Has]at h2
  obtain⟨p,xs,e,s1,l1⟩:=h2
  rw[h1]at e
  cases e
 | .lst a,.int b,x,h1,h2=>by
  rw[Has]at h1
  rw[Has]at h2
  obtain⟨p,xs,rfl,s1,l1⟩:=h1
  cases h2
 | .lst a,.bl b,x,h1,h2=>by
  rw[Has]at h1
  rw[Has]at h2
  obtain⟨p,xs,rfl,s1,l1⟩:=h1
  cases h2
 | .lst a,.str b,x,h1,h2=>by
  rw[Has]at h1
  rw[Has]at h2
  obtain⟨p,xs,rfl,s1,l1⟩:=h1
  cases h2
 | .lst a,.non,x,h1,h2=>by
  rw[Has]at h1
  rw[Has]at h2
  obtain⟨p,xs,rfl,s1,l1⟩:=h1
  cases h2
 | .lst a,.lst b,x,h1,h2=>by
  rw[Has]at h1
  rw[Has]at h2
  obtain⟨p,xs,rfl,s1,l1⟩:=h1
  obtain⟨q,ys,e,s2,l2⟩:=h2
  cases e
  have e:=I.jF s1 s2
  subst e
  rw[aH.inj I l1 l2]
 | .lst a,.tup b,x,h1,h2=>by
  rw[Has]at h1
  rw[Has]at h2
  obtain⟨p,xs,rfl,s1,l1⟩:=h1
  obtain⟨q,ys,e,s2,l2⟩:=h2
  cases e
  obtain⟨_,_,pl,_⟩:=I.list s1
  obtain⟨_,_,pt,_⟩:=I.tuple s2
  obtain⟨o1,g1,c1,_⟩:=pl.isList
  obtain⟨o2,g2,c2,_⟩:=pt
  rw[g1]at g2
  cases g2
  rw[c1]at c2
  exact absurd c2 (by decide)
 | .tup a,.int b,x,h1,h2=>by
  rw[Has]at h1
  rw[Has]at h2
  obtain⟨p,xs,rfl,s1,l1⟩:=h1
  cases h2
 | .tup a,.bl b,x,h1,h2=>by
  rw[Has]at h1
  rw[Has]at h2
  obtain⟨p,xs,rfl,s1,l1⟩:=h1
  cases h2
 | .tup a,.str b,x,h1,h2=>by
  rw[Has]at h1
  rw[Has]at h2
  obtain⟨p,xs,rfl,s1,l1⟩:=h1
  cases h2
 | .tup a,.non,x,h1,h2=>by
  rw[Has]at h1
  rw[Has]at h2
  obtain⟨p,xs,rfl,s1,l1⟩:=h1
  cases h2
 | .tup a,.lst b,x,h1,h2=>by
  rw[Has]at h1
  rw[Has]at h2
  obtain⟨p,xs,rfl,s1,l1⟩:=h1
  obtain⟨q,ys,e,s2,l2⟩:=h2
  cases e
  obtain⟨_,_,pl,_⟩:=I.list s2
  obtain⟨_,_,pt,_⟩:=I.tuple s1
  obtain⟨o1,g1,c1,_⟩:=pl.isList
  obtain⟨o2,g2,c2,_⟩:=pt
  rw[g1]at g2
  cases g2
  rw[c1]at c2
  exact absurd c2 (by decide)
 | .tup a,.tup b,x,h1,h2=>by
  rw[Has]at h1
  rw[Has]at h2
  obtain⟨p,xs,rfl,s1,l1⟩:=h1
  obtain⟨q,ys,e,s2,l2⟩:=h2
  cases e
  have e:=I.d8 s1 s2
  subst e
  rw[aH.inj I l1 l2]
theorem aH.inj (I:Inv X pins σ H s):∀ {ds es:List Dt} {xs:List V},aH X.K H ds xs->aH X.K H es xs->ds=es
 | [],[],xs,h1,h2=>rfl
 | [],e::r,xs,h1,h2=>by
  rw[aH]at h1
  rw[aH]at h2
  obtain⟨y,t,e,_,_⟩:=h2
  rw[h1]at e
  cases e
 | d::r,[],xs,h1,h2=>by
  rw[aH]at h1
  rw[aH]at h2
  obtain⟨y,t,e,_,_⟩:=h1
  rw[h2]at e
  cases e
 | d::r,e::q,xs,h1,h2=>by
  rw[aH]at h1
  rw[aH]at h2
  obtain⟨x,t,rfl,g1,g2⟩:=h1
  obtain⟨y,w,z,k1,k2⟩:=h2
  cases z
  rw[Has.inj I g1 k1,aH.inj I g2 k2]
end
theorem jk{A:MJ}{a b:Ml}{k:Bool}(h:R5 A s (.ref a) (.ref b) k)(hk:a=b->k=true):P4 A s (.ref a) (.ref b) k:=by
 by_cases e:a=b
 ·rw[hk e,e]
  exact UT _
 exact Uz e h
noncomputable def Rz(s:Mm):Dt->Mj->Prop
 | .int a,u=>∃ t,u=.int a t
 | .bl a,u=>u=.bool a
 | .str a,u=>∃ t,u=.str a t
 | .non,u=>u=.none
 | .lst _,u=>∃ p its,u=.ref p/\s.heap.IsList p its
 | .tup _,u=>∃ p its,u=.ref p/\s.heap.IsTuple p its
def knd:Dt->Nat
 | .lst _=>4
 | .tup _=>5
 | _=>0
theorem sG(I:Inv X pins σ H s){d:Dt}{x:V}{u:Mj}(h:Has X.K H d x)(r:RelV x u):Rz s d u:=by
  cases d <;> rw[Has]at h <;> first
    | (obtain⟨p,xs,rfl,s1,_⟩:=h
       cases r
       first
         | (obtain⟨_,_,pl,_⟩:=I.list s1;exact⟨_,_,rfl,pl.isList⟩)
         | (obtain⟨_,_,pl,_⟩:=I.tuple s1;exact⟨_,_,rfl,pl⟩))
    | (subst h;exact r)
theorem tR{A:MJ}{d e:Dt}{u v:Mj}(hu:A.units < cLine)(h1:Rz s d u)(h2:Rz s e v)(n:knd d≠knd e\/knd d=0):R5 A s u v (eqD d e)/\TJ A s u v (!eqD d e)/\P4 A s u v (eqD d e):=by
 cases d with
 | int a=>
  obtain⟨_,rfl⟩:=h1
  cases e with
  | int b=>obtain⟨_,rfl⟩:=h2;simp only[eqD];exact⟨.int_int _ _ _ _,.int_int _ _ _ _,.int_int _ _ _ _⟩
  | bl b=>cases h2;simp only[eqD];exact⟨.int_bool _ _ _,.int_bool _ _ _,.int_bool _ _ _⟩
  | str b=>obtain⟨_,rfl⟩:=h2;simp only[eqD];exact⟨.int_str _ _ _ _,.int_str _ _ _ _,.int_str _ _ _ _⟩
  | non=>cases h2;simp only[eqD];exact⟨.int_none _ _,.int_none _ _,.int_none _ _⟩
  | lst b=>obtain⟨_,_,rfl,hb⟩:=h2;simp only[eqD];exact⟨.int_list _ _ hb hu,.int_list _ _ hb hu,.int_list _ _ hb hu⟩
  | tup b=>obtain⟨_,_,rfl,hb⟩:=h2;simp only[eqD];exact⟨.int_tuple _ _ hb hu,.int_tuple _ _ hb hu,.int_tuple _ _ hb hu⟩
 | bl a=>
  cases h1
  cases e with
  | int b=>obtain⟨_,rfl⟩:=h2;simp only[eqD];exact⟨.bool_int _ _ _,.bool_int _ _ _,.bool_int _ _ _⟩
  | bl b=>cases h2;simp only[eqD];exact⟨.bool_bool _ _,.bool_bool _ _,.bool_bool _ _⟩
  | str b=>obtain⟨_,rfl⟩:=h2;simp only[eqD];exact⟨.bool_str _ _ _,.bool_str _ _ _,.bool_str _ _ _⟩
  | non=>cases h2;simp only[eqD];exact⟨.bool_none _,.bool_none _,.bool_none _⟩
  | lst b=>obtain⟨_,_,rfl,hb⟩:=h2;simp only[eqD];exact⟨.bool_list _ hb hu,.bool_list _ hb hu,.bool_list _ hb hu⟩
  | tup b=>obtain⟨_,_,rfl,hb⟩:=h2;simp only[eqD];exact⟨.bool_tuple _ hb hu,.bool_tuple _ hb hu,.bool_tuple _ hb hu⟩
 | str a=>
  obtain⟨_,rfl⟩:=h1
  cases e with
  | int b=>obtain⟨_,rfl⟩:=h2;simp only[eqD];exact⟨.str_int _ _ _ _,.str_int _ _ _ _,.str_int _ _ _ _⟩
  | bl b=>cases h2;simp only[eqD];exact⟨.str_bool _ _ _,.str_bool _ _ _,.str_bool _ _ _⟩
  | str b=>obtain⟨_,rfl⟩:=h2;simp only[eqD];exact⟨.str_str _ _ _ _,.str_str _ _ _ _,.str_str _ _ _ _⟩
  | non=>cases h2;simp only[eqD];exact⟨.str_none _ _,.str_none _ _,.str_none _ _⟩
  | lst b=>obtain⟨_,_,rfl,hb⟩:=h2;simp only[eqD];exact⟨.str_list _ _ hb hu,.str_list _ _ hb hu,.str_list _ _ hb hu⟩
  | tup b=>obtain⟨_,_,rfl,hb⟩:=h2;simp only[eqD];exact⟨.str_tuple _ _ hb hu,.str_tuple _ _ hb hu,.str_tuple _ _ hb hu⟩
 | non=>
  cases h1
  cases e with
  | int b=>obtain⟨_,rfl⟩:=h2;simp only[eqD];exact⟨.none_int _ _,.none_int _ _,.none_int _ _⟩
  | bl b=>cases h2;simp only[eqD];exact⟨.none_bool _,.none_bool _,.none_bool _⟩
  | str b=>obtain⟨_,rfl⟩:=h2;simp only[eqD];exact⟨.none_str _ _,.none_str _ _,.none_str _ _⟩
  | non=>cases h2;simp only[eqD];exact⟨.none_none,.none_none,.same _⟩
  | lst b=>obtain⟨_,_,rfl,hb⟩:=h2;simp only[eqD];exact⟨.none_list hb hu,.none_list hb hu,.none_list hb hu⟩
  | tup b=>obtain⟨_,_,rfl,hb⟩:=h2;simp only[eqD];exact⟨.none_tuple hb hu,.none_tuple hb hu,.none_tuple hb hu⟩
 | lst a=>
  obtain⟨_,_,rfl,hl⟩:=h1
  cases e with
  | int b=>obtain⟨_,rfl⟩:=h2;simp only[eqD];exact⟨.list_int _ _ hl hu,.list_int _ _ hl hu,.list_int _ _ hl hu⟩
  | bl b=>cases h2;simp only[eqD];exact⟨.list_bool _ hl hu,.list_bool _ hl hu,.list_bool _ hl hu⟩
  | str b=>obtain⟨_,rfl⟩:=h2;simp only[eqD];exact⟨.list_str _ _ hl hu,.list_str _ _ hl hu,.list_str _ _ hl hu⟩
  | non=>cases h2;simp only[eqD];exact⟨.list_none hl hu,.list_none hl hu,.list_none hl hu⟩
  | lst b=>simp[knd]at n
  | tup b=>obtain⟨_,_,rfl,hb⟩:=h2;simp only[eqD];exact⟨.list_tuple hl hb hu,.list_tuple hl hb hu,.list_tuple hl hb hu⟩
 | tup a=>
  obtain⟨_,_,rfl,hl⟩:=h1
  cases e with
  | int b=>obtain⟨_,rfl⟩:=h2;simp only[eqD];exact⟨.tuple_int _ _ hl hu,.tuple_int _ _ hl hu,.tuple_int _ _ hl hu⟩
  | bl b=>cases h2;simp only[eqD];exact⟨.tuple_bool _ hl hu,.tuple_bool _ hl hu,.tuple_bool _ hl hu⟩
  | str b=>obtain⟨_,rfl⟩:=h2;simp only[eqD];exact⟨.tuple_str _ _ hl hu,.tuple_str _ _ hl hu,.tuple_str _ _ hl hu⟩
  | non=>cases h2;simp only[eqD];exact⟨.tuple_none hl hu,.tuple_none hl hu,.tuple_none hl hu⟩
  | lst b=>obtain⟨_,_,rfl,hb⟩:=h2;simp only[eqD];exact⟨.tuple_list hl hb hu,.tuple_list hl hb hu,.tuple_list hl hb hu⟩
  | tup b=>simp[knd]at n
theorem AD(I:Inv X pins σ H s):∀(n:Nat) (A:MJ) (d e:Dt) (x y:V) (u v:Mj),dpt d<=n->A.units + n < cLine->Has X.K H d x->Has X.K H e y->RelV x u->RelV y v->
  R5 A s u v (eqD d e)/\TJ A s u v (!eqD d e)/\P4 A s u v (eqD d e):=by
 intro n
 induction n with
 | zero=>
  intro A d e x y u v hd hA h1 h2 r1 r2
  exact tR (by lia) (sG I h1 r1) (sG I h2 r2) (.inr (by cases d <;> first | rfl | (rw[dpt]at hd;lia)))
 | succ n ih=>
  intro A d e x y u v hd hA h1 h2 r1 r2
  have hu:A.units < cLine:=by lia
  by_cases k:knd d≠knd e\/knd d=0
  ·exact tR hu (sG I h1 r1) (sG I h2 r2) k
  cases d <;> cases e <;> try (exfalso;simp[knd]at k;done)
  ·rename_i a b
   have h1k:=h1
   rw[Has]at h1
   obtain⟨p,xs,rfl,s1,l1⟩:=h1
   cases (show u=MY p from r1)
   obtain⟨its,rv1,pl1,z1⟩:=I.list s1
   have hl:=pl1.isList
   have hd':cX a<=n:=by rw[dpt]at hd;lia
   have h2k:=h2
   rw[Has]at h2
   obtain⟨q,ys,rfl,s2,l2⟩:=h2
   cases (show v=MY q from r2)
   obtain⟨jts,rv2,pl2,z2⟩:=I.list s2
   have hb:=pl2.isList
   have recc:=pY n (A:=A) (by lia) I l1 l2 rv1 rv2 fun d e x y u v hm hm' g1 g2 k1 k2=>(ih A.in1 d e x y u v (v_ (sO hm) hd') (by show A.units + 1 + n < cLine;lia) g1 g2 k1 k2).2.2
   have m1:=l1.len
   have m2:=l2.len
   have v1:=rv1.length
   have v2:=rv2.length
   have self:p=q->eqD (.lst a) (.lst b)=true:=fun z=>by subst z;rw[Has.inj I h1k h2k];exact fH _
   have ee:eqD (.lst a) (.lst b)=eqL a b:=by rw[eqD]
   by_cases hs:its.toArray.size=jts.toArray.size
   ·have hs':a.length=b.length:=by simp at hs;lia
    have hn:its.toArray.size=a.length:=by simp;lia
    have k1:=UN hl hb hs hu recc
    have k2:=UA hl hb hs hu recc
    rw[hn,gF a b hs',<-ee]at k1 k2
    exact⟨k1,k2,jk k1 self⟩
   have hs':¬ a.length=b.length:=by simp at hs;lia
   have hz:(its.toArray.size != jts.toArray.size)=true:=by simpa using hs
   have ef:eqD (.lst a) (.lst b)=false:=by rw[ee];exact Jy.mpr fun z=>hs' (nO z)
   have k1:=TL hl hb hz hu
   have k2:=SR hl hb hz hu
   rw[<-ef]at k1
   refine⟨k1,?_,jk k1 self⟩
   rw[ef]
   exact k2
  rename_i a b
  have h1k:=h1
  rw[Has]at h1
  obtain⟨p,xs,rfl,s1,l1⟩:=h1
  cases (show u=MY p from r1)
  obtain⟨its,rv1,pl1,z1⟩:=I.tuple s1
  have hl:s.heap.IsTuple p its.toArray:=pl1
  have hd':cX a<=n:=by rw[dpt]at hd;lia
  have h2k:=h2
  rw[Has]at h2
  obtain⟨q,ys,rfl,s2,l2⟩:=h2
  cases (show v=MY q from r2)
  obtain⟨jts,rv2,pl2,z2⟩:=I.tuple s2
  have hb:s.heap.IsTuple q jts.toArray:=pl2
  have recc:=pY n (A:=A) (by lia) I l1 l2 rv1 rv2 fun d e x y u v hm hm' g1 g2 k1 k2=>(ih A.in1 d e x y u v (v_ (sO hm) hd') (by show A.units + 1 + n < cLine;lia) g1 g2 k1 k2).2.2
  have m1:=l1.len
  have m2:=l2.len
  have v1:=rv1.length
  have v2:=rv2.length
  have self:p=q->eqD (.tup a) (.tup b)=true:=fun z=>by subst z;rw[Has.inj I h1k h2k];exact fH _
  have ee:eqD (.tup a) (.tup b)=eqL a b:=by rw[eqD]
  have hn:its.toArray.size=a.length:=by simp;lia
  have hn':jts.toArray.size=b.length:=by simp;lia
  have k1:=UE hl hb hu recc
  have k2:=Us hl hb hu recc
  rw[hn,hn',o9 a b,<-ee]at k1 k2
  exact⟨k1,k2,jk k1 self⟩
end
section
variable{X:Cx}
noncomputable def Hh(K:Mk)(A:MJ)(neg:Bool):R2:=fun x y H Q=>∃ d e,Has K H d x/\Has K H e y/\A.units + dpt d < cLine/\Q (.bl (if neg then !eqD d e else eqD d e)) H
theorem xc:OpR X (M4 .Eq) (Hh X.K X.A false):=by
 intro pins s σ H x y v u Q I rx ry h
 obtain⟨d,e,h1,h2,hA,q⟩:=h
 exact(AD I (dpt d) X.A d e x y v u (f_ _) hA h1 h2 rx ry).1 _ _ _ _ ⟨.bl (eqD d e),H,I,rfl,q⟩
end
structure Cal (P:MA) (w:MC) (K:Mk) (mg:Str->Option Mj) (base:MD) (k:Nat) (x:Str) (ps:List Str) (sp:Sp):Prop where
 ex:∃(f:Ml) (fd:MR),FnOk P w K mg base CX0 k f fd ps sp/\mg x=some (.ref f)/\OL K (.ref f)=true/\Binds K fd ps []
theorem wH{X:Cx}{j k:Nat}{x:Str}{ps:List Str}{sp:Sp}{e:MB}{es:List MB}{t:TA}{p pos:Pos}(D:Cal X.prog X.w X.K X.mg X.base j x ps sp)(hr:Room k X.A)(hg:Gl X x)(ha:PA X (e::es) t)(hjk:j<=k:=by omega)(hdb:(x ==("__debug__":Str))=false:=by decide)
  (he:ME (e::es) X.env=(false,MQ e X.env)::ME es X.env:=by rfl) (hpl:(Ot pos (ME es X.env)).any (·.1)=false:=by rfl):PE X (.Call (.Name x p) (e::es) [] pos) (xj sp [] E0 t):=by
 obtain⟨f,fd,F,hm,hk,hb⟩:=D.ex
 exact zt F (hr.mono hjk) hg hm hk hb .nil GD ha hdb he hpl
theorem Cal.imp {P:MA}{w:MC}{K:Mk}{mg:Str->Option Mj}{base:MD}{k:Nat}{x:Str}{ps:List Str}{sp sp':Sp}(D:Cal P w K mg base k x ps sp)(h:∀ vs H Q E,sp' vs H Q E->sp vs H Q E):Cal P w K mg base k x ps sp':=by
 obtain⟨f,fd,F,r⟩:=D.ex
 exact⟨f,fd,F.imp h,r⟩
structure Dfn (K:Mk) (mg:Str->Option Mj) (x:Str) (st:M3) (ps:List Str):Prop where
 ex:∃(f:Ml) (fd:MR),Fun K x x st f fd/\mg x=some (.ref f)/\Binds K fd ps []
theorem Dfn.cal {P:MA}{w:MC}{K:Mk}{mg:Str->Option Mj}{base:MD}{k:Nat}{x:Str}{st:M3}{ps:List Str}{sp:Sp}(D:Dfn K mg x st ps)(h:∀ f fd,Fun K x x st f fd->FnOk P w K mg base CX0 k f fd ps sp):Cal P w K mg base k x ps sp:=by
 obtain⟨f,fd,F,hm,hb⟩:=D.ex
 exact⟨f,fd,h f fd F,hm,F.kp,hb⟩
theorem aS.bD {H:Hp}:aS H H:=fun _ _ e=>e
theorem aS.trans' {H H1 H2:Hp}(a:aS H H1)(b:aS H1 H2):aS H H2:=fun c o e=>b c o (a c o e)
theorem bg{H:Hp}{p:Ml}(h:H p=none)(o:HO):aS H (upd H p o):=fun b u q=>by rw[aG (bz q h)];exact q
theorem aS.none {H H':Hp}(a:aS H H'){p:Ml}(h:H' p=none):H p=none:=by
 cases e:H p with
 | none=>rfl
 | some o=>rw[a p o e]at h;cases h
def Kp(a c:Ml)(H H':Hp):Prop:=∀ b o,H b=some o->b≠a->b≠c->H' b=some o
theorem sM{n:Nat}{i:Int}(h0:0<=i)(h1:i < (n:Int)):ixN n i=some i.toNat:=by
 unfold ixN
 rw[if_pos h0,if_pos h1]
theorem zq{α:Type}{xs:List α}{i:Int}{v:α}(h0:0<=i)(hv:xs[i.toNat]?=some v):atI xs i=some v:=by
 have h1:i.toNat < xs.length:=(gV.mp hv).1
 unfold atI
 rw[sM h0 (by omega)]
 exact hv
theorem vX{ns:List Int}{i:Int}(h0:0<=i)(h1:i < (ns.length:Int)):atI (ns.map V.int) i=some (.int (ns.getD i.toNat 0)):=by
 have h2:i.toNat < ns.length:=by omega
 refine zq h0 ?_
 rw[HM,d_ h2,IK,d_ h2]
 rfl
theorem E1{K:Mk}{b:Bool}{H:Hp}{p:Ml}{xs:List V}{i:Int}{v:V}{Q:VK}(h:SqG b K H p xs)(hv:atI xs i=some v)(q:Q v H):rIx K (.ref p) (.int i) H Q:=by
 cases b with
 | true=>exact .inr (.inl ⟨p,xs,i,v,rfl,rfl,h,hv,q⟩)
 | false=>exact .inl ⟨p,xs,i,v,rfl,rfl,h,hv,q⟩
theorem bQ{A B:Prop}{b:Bool}(hb:b=false)(h:B):if b=true then A else B:=by rw[hb];exact F5 h
theorem jU{A B:Prop}{b:Bool}(hb:b=true)(h:A):if b=true then A else B:=by rw[hb];exact DV h
theorem oA{Q:VK}{b:Bool}{H:Hp}(hb:b=true)(q:Q (.bl true) H):Q (.bl b) H:=by rw[hb];exact q
theorem G1{A B:Prop}{b:Bool}(h1:b=true->A)(h2:b=false->B):if b=true then A else B:=by
 cases b with
 | true=>exact DV (h1 rfl)
 | false=>exact F5 (h2 rfl)
def isT:HO->Bool
 | .tup _=>true
 | .frz _ (.tup _)=>true
 | _=>false
def nX(H H':Hp):Prop:=∀ b o,H b=some o->isT o=true->H' b=some o
theorem vA{H:Hp}{p:Ml}{o o':HO}(h:H p=some o)(ht:isT o=false):nX H (upd H p o'):=fun b u e t=>by
 have n:b≠p:=fun z=>by
  subst z
  rw[h]at e
  cases e
  rw[ht]at t
  cases t
 rw[aG n]
 exact e
mutual
def qf:Dt->Bool
 | .lst _=>false
 | .tup ds=>iC ds
 | _=>true
def iC:List Dt->Bool
 | []=>true
 | d::r=>qf d && iC r
end
theorem SqT.iJ {K:Mk}{H H':Hp}{a:Ml}{xs:List V}(e:nX H H')(h:SqT K H a xs):SqT K H' a xs:=by
 rcases h with (h | ⟨o,h⟩) | h
 ·exact .inl (.inl (e _ _ h rfl))
 ·exact .inl (.inr ⟨o,e _ _ h rfl⟩)
 exact .inr h
mutual
theorem Has.iJ {K:Mk}{H H':Hp}(e:nX H H'):∀ {d:Dt} {v:V},qf d=true->Has K H d v->Has K H' d v
 | .int i,v,_,h=>by rw[Has]at h ⊢;exact h
 | .bl i,v,_,h=>by rw[Has]at h ⊢;exact h
 | .str i,v,_,h=>by rw[Has]at h ⊢;exact h
 | .non,v,_,h=>by rw[Has]at h ⊢;exact h
 | .lst ds,v,t,h=>by simp[qf]at t
 | .tup ds,v,t,h=>by
  rw[qf]at t
  rw[Has]at h ⊢
  obtain⟨a,xs,hv,hs,hl⟩:=h
  exact⟨a,xs,hv,SqT.iJ e hs,aH.iJ e t hl⟩
theorem aH.iJ {K:Mk}{H H':Hp}(e:nX H H'):∀ {ds:List Dt} {xs:List V},iC ds=true->aH K H ds xs->aH K H' ds xs
 | [],xs,_,h=>by rw[aH]at h ⊢;exact h
 | d::r,xs,t,h=>by
  rw[iC,HP]at t
  rw[aH]at h ⊢
  obtain⟨x,t',hx,h1,h2⟩:=h
  exact⟨x,t',hx,Has.iJ e t.1 h1,aH.iJ e t.2 h2⟩
end
theorem wu{ds:List Dt}(h:∀ d∈ds,qf d=true):iC ds=true:=by
 induction ds with
 | nil=>rw[iC]
 | cons d r ih=>rw[iC,h d s_,ih fun x hx=>h x (r_ _ hx)];rfl
theorem iM{d:Nat->Dt}(keep:Nat->Bool)(i:Nat):((y_ (i + 1)).filter keep).map d=((y_ i).filter keep).map d++(if keep i=true then [d i]else []):=by
 rw[IS,Kz,t_]
 cases h:keep i <;> simp[h]
theorem p9{K:Mk}{J:It}{fr:List (Option Nat)}{g:Mm->Hp->List Ml->TG}{tt:Mm->Hp->List Ml->TT}{te:Mm->Hp->List Ml->TE}{σ:St}{H1:Hp}{Q:VK}(Ok:St->Prop)(n:Nat)(hn:n < sizeLine)(d:Nat->Dt)(keep:Nat->Bool)(hd:∀ i,qf (d i)=true)(h0:Ok (bJ fr σ))
  (hgo:∀ i H',aS H1 H'->i < n->J.go i H') (hst:∀ H',aS H1 H'->J.stop n H')
  (turn:∀ s3 H3' fp i σ' H',i < n->Ok σ'->aS H1 H'->∀ x H2,J.yld i H' x H2->∀(Nx:St->Hp->Prop) (Ap:St->V->Hp->Prop),(keep i=false->∀ σ2 H4,Ok σ2->aS H' H4->Nx σ2 H4)->(keep i=true->∀ σ2 v H5,Ok σ2->aS H' H5->Has K H5 (d i) v->Ap σ2 v H5)->
   g s3 H3' fp x σ' H2 fun σ2 H3=>tt s3 H3' fp σ2 H3 fun b H4=>if b=true then te s3 H3' fp σ2 H4 (fun v H5=>Ap σ2 v H5)else Nx σ2 H4)
  (fin:∀ p acc H',H1 p=none->aS H1 H'->H' p=some (.lst acc)->aH K H' (((y_ n).filter keep).map d) acc->Q (.ref p) H') :
  BU J fr g tt te σ H1 Q:=by
 intro p hp s3 H3' fp
 have tall:∀ i,iC (((y_ i).filter keep).map d)=true:=fun i=>wu fun x hx=>by
  obtain⟨j,_,rfl⟩:=m_.mp hx
  exact hd j
 refine⟨fun i m σ' H'=>m=n - i/\i<=n/\Ok σ'/\aS H1 H'/\∃ acc,H' p=some (.lst acc)/\aH K H' (((y_ i).filter keep).map d) acc,⟨n,by simp,F' _,h0,bg hp _,[],aE,gm⟩,?_⟩
 rintro i m σ' H' ⟨rfl,hi,ok,sm,acc,hacc,hl⟩
 by_cases hlt:i < n
 ·refine .inr ⟨hgo i H' sm hlt,fun x H2 hy=>?_⟩
  refine turn s3 H3' fp i σ' H' hlt ok sm x H2 hy (fun σ2 H4=>∃ m',m' < n - i/\m'=n - (i + 1)/\i + 1<=n/\Ok σ2/\aS H1 H4/\∃ acc,H4 p=some (.lst acc)/\aH K H4 (((y_ (i + 1)).filter keep).map d) acc) (fun σ2 v H5=>_) (fun hk σ2 H4 ok2 s4=>?_) (fun hk σ2 v H5 ok2 s5 hv=>?_)
  ·refine⟨n - (i + 1),by lia,rfl,hlt,ok2,sm.trans' s4,acc,s4 _ _ hacc,?_⟩
   rw[iM,hk]
   simpa using aH.same s4 hl
  have h5:H5 p=some (.lst acc):=s5 _ _ hacc
  have len:acc.length<=i:=by
   have e:=hl.len
   have e2:(((y_ i).filter keep).map d).length<=i:=by
    rw[a_]
    exact v_ (IL _ _) (by rw[Iy];exact f_ _)
   lia
  have ts:nX H5 (upd H5 p (.lst (acc++[v]))):=vA h5 rfl
  refine⟨acc,h5,by lia,n - (i + 1),by lia,rfl,hlt,ok2,fun b o e=>?_,acc++[v],aE,?_⟩
  ·rw[aG (bz e hp)]
   exact s5 b o (sm b o e)
  rw[iM,hk]
  exact aH.append (aH.iJ ts (tall i) (aH.same s5 hl)) (gJ (Has.iJ ts (hd i) hv) gm)
 have e:i=n:=by lia
 subst e
 exact .inl ⟨hst H' sm,fin p acc H' hp sm hacc hl⟩
theorem qc{X:Cx}{N ps:List Str}{esc:Nk}(S:FnScope N ps esc)(N':List Str)(fr:List (Option Nat))(nd:N'.Nodup){elt target iter:MB}{ifs:List MB}{sc:Nk}{pos:Pos}{wi:TI}{g:Mm->Hp->List Ml->TG}{tt:Mm->Hp->List Ml->TT}{te:Mm->Hp->List Ml->TE}(C:dD N esc sc N' fr=true)
  (hi:PI X target iter wi) (hg:∀ s3 H3 fp,PG (aM X N' sc s3 H3 fp) target (g s3 H3 fp)) (ht:∀ s3 H3 fp,PTs (aM X N' sc s3 H3 fp) ifs (tt s3 H3 fp)) (he:∀ s3 H3 fp,PE (aM X N' sc s3 H3 fp) elt (te s3 H3 fp))
  (hc:X.calm=true:=by rfl) (hN:X.N=N:=by rfl) (hS:X.env.scope=esc:=by rfl) (hs:∀ x,Nd iter X.env x=pure x:=by intro _;rfl):PE X (.ListComp elt [⟨target,iter,ifs,0⟩] sc pos) (tW wi fr g tt te):=
 AW N' fr hc (by rw[hN,hS];exact C) hi hg ht he hs
theorem oO{σ:St}{H:Hp}{A B:Hp->Prop}(h:A H):D9 σ H (fun b H4=>if b=true then A H4 else B H4):=by
 unfold D9
 exact DV h
theorem eT{K:Mk}{H:Hp}:∀ {bs:List Bool} {xs:List V},aH K H (bs.map Dt.bl) xs->xs=bools bs
 | [],xs,h=>by
  have h:aH K H [] xs:=h
  rw[aH]at h;exact h
 | n::r,xs,h=>by
  have h:aH K H (Dt.bl n::r.map Dt.bl) xs:=h
  rw[aH]at h
  obtain⟨x,t,rfl,h1,h2⟩:=h
  rw[Has]at h1
  rw[h1,eT h2]
  rfl
def Its(K:Mk)(b:Bool)(a:Ml):It:=match b with
 | true=>Itt K a
 | false=>Itl K a
noncomputable def iSq(K:Mk)(tl:TE):TI:=fun σ H R=>tl σ H fun x H1=>∃ b a xs,x=.ref a/\SqG b K H1 a xs/\R (Its K b a) H1
theorem CH{X:Cx}{tg l:MB}{tl:TE}(hl:PE X l tl):PI X tg l (iSq X.K tl):=by
 intro pins s σ H R I h
 refine thn (hl pins s σ H _ I h) ?_
 rintro v s1 ⟨x,H1,I1,r1,q1⟩
 obtain⟨b,a,xs,rfl,hq,q⟩:=q1
 cases r1
 cases b with
 | true=>
  obtain⟨its,rv,p,hz⟩:=I1.tuple hq
  refine NH (show s1.heap.IsTuple a its.toArray from p) ⟨s1.heap.objs.size,[s1.heap.objs.size],_,_,H1,rfl,I1.kept (t':=s1.toks) fun b o e=>Mo _ e,rF a _,⟨_,Mt _ rfl,rfl,rfl⟩,fun b hb=>?_,q⟩
  have e:b=s1.heap.objs.size:=by simpa using hb
  subst e
  exact I1.vy (f_ _) (I1.hok.fresh (f_ _))
 | false=>
  obtain⟨its,rv,p,hz⟩:=I1.list hq
  refine NJ p.isList ⟨s1.heap.objs.size,[s1.heap.objs.size],_,_,H1,rfl,I1.kept (t':=s1.toks) fun b o e=>Mo _ e,vq a _,⟨_,Mt _ rfl,rfl,rfl⟩,fun b hb=>?_,q⟩
  have e:b=s1.heap.objs.size:=by simpa using hb
  subst e
  exact I1.vy (f_ _) (I1.hok.fresh (f_ _))
theorem zP{K:Mk}{b:Bool}{a:Ml}{xs:List V}{H1 H' H2:Hp}{i:Nat}{v:V}(h1:SqG b K H1 a xs)(s:aS H1 H')(h:(Its K b a).yld i H' v H2):H2=H'/\xs[i]?=some v:=by
 cases b with
 | true=>exact⟨h.1,h.2 xs (SqG.same s h1)⟩
 | false=>exact⟨h.1,h.2 xs (SqG.same s h1)⟩
theorem Eh{K:Mk}{b:Bool}{a:Ml}{xs:List V}{H1:Hp}(h1:SqG b K H1 a xs){n:Nat}(hx:xs.length=n):∀ i H',aS H1 H'->i < n->(Its K b a).go i H':=fun i H' s hi=>by
 cases b with
 | true=>exact⟨xs,xs[i]'(by lia),SqT.same s h1,d_ _⟩
 | false=>exact⟨xs,xs[i]'(by lia),SqL.same s h1,d_ _⟩
theorem yI{K:Mk}{b:Bool}{a:Ml}{xs:List V}{H1:Hp}(h1:SqG b K H1 a xs){n:Nat}(hx:xs.length=n):∀ H',aS H1 H'->(Its K b a).stop n H':=fun H' s=>by
 cases b with
 | true=>exact⟨xs,SqT.same s h1,by lia⟩
 | false=>exact⟨xs,SqL.same s h1,by lia⟩
theorem yc{K:Mk}{b1 b2:Bool}{a1 a2:Ml}{xs ys:List V}{H1:Hp}(h1:SqG b1 K H1 a1 xs)(h2:SqG b2 K H1 a2 ys){n:Nat}(hx:xs.length=n)(hy:ys.length=n):∀ i H',aS H1 H'->i < n->(Itz K b1 a1 b2 a2).go i H':=fun i H' s hi=>
 ⟨xs,ys,xs[i]'(by lia),ys[i]'(by lia),SqG.same s h1,SqG.same s h2,d_ _,d_ _⟩
theorem oP{K:Mk}{b1 b2:Bool}{a1 a2:Ml}{xs ys:List V}{H1:Hp}(h1:SqG b1 K H1 a1 xs)(h2:SqG b2 K H1 a2 ys){n:Nat}(hx:xs.length=n)(hy:ys.length=n):∀ H',aS H1 H'->(Itz K b1 a1 b2 a2).stop n H':=fun H' s=>
 ⟨xs,ys,SqG.same s h1,SqG.same s h2,.inl (by lia)⟩
theorem rX{K:Mk}{b1 b2:Bool}{a1 a2:Ml}{xs ys:List V}{H1 H' H2:Hp}{i:Nat}{v:V}(h1:SqG b1 K H1 a1 xs)(h2:SqG b2 K H1 a2 ys)(s:aS H1 H')(h:(Itz K b1 a1 b2 a2).yld i H' v H2) :
  ∃ p x y,v=.ref p/\aS H' H2/\H2 p=some (.tup [x,y])/\xs[i]?=some x/\ys[i]?=some y:=by
 obtain⟨p,x,y,hp,rfl,rfl,g1,g2⟩:=h
 exact⟨p,x,y,rfl,bg hp _,aE,g1 xs (SqG.same s h1),g2 ys (SqG.same s h2)⟩
def New(o:HO)(H:Hp)(Q:VK):Prop:=∀ p H',H p=none->aS H H'->H' p=some o->Q (.ref p) H'
theorem New.at {o:HO}{H:Hp}{Q:VK}(h:New o H Q){p:Ml}(hp:H p=none):Q (.ref p) (upd H p o):=h p _ hp (bg hp o) aE
section
variable{X:Cx}{es:List MB}{t:TA}{pos:Pos}
def G0(t:TA):TE:=fun σ H Q=>t σ H fun xs H1=>xs.length<=sizeLine/\New (.tup xs) H1 Q
def FX(t:TA):TE:=fun σ H Q=>t σ H fun xs H1=>xs.length<=sizeLine/\New (.lst xs) H1 Q
theorem zW{x1}(h:PA X es t):PE X (.Tuple es x1 pos) (G0 t):=by
 intro pins s σ H Q I hq
 refine wpAny_Tuple_spliced (thn (h pos pins s σ H _ I hq) fun us s1 ⟨xs,H1,I1,r,z,q⟩=>⟨by rw[<-r.length];exact z,?_⟩)
 refine⟨.ref s1.heap.objs.size,upd H1 s1.heap.objs.size (.tup xs),I1.laid (t':=s1.toks) (fun b u e=>Mo _ e) (f_ _) ⟨z,us,r,⟨_,Mt _ rfl,rfl,_,rfl⟩⟩,rfl,q.at (I1.hok.fresh (f_ _))⟩
theorem zV(h:PA X es t):PE X (.List es pos) (FX t):=by
 intro pins s σ H Q I hq
 refine Rc (thn (h pos pins s σ H _ I hq) fun us s1 ⟨xs,H1,I1,r,z,q⟩=>⟨by rw[<-r.length];exact z,?_⟩)
 refine⟨.ref s1.heap.objs.size,upd H1 s1.heap.objs.size (.lst xs),I1.laid (t':=s1.toks) (fun b u e=>Mo _ e) (f_ _) ⟨z,us,0,r,Mt _ rfl⟩,rfl,q.at (I1.hok.fresh (f_ _))⟩
theorem bA.imp {f:Mj}{r r':List V->Hp->VK->Prop}(h:bA X f r)(k:∀ vs H Q,r' vs H Q->r vs H Q):bA X f r':=fun pins s σ H xs us Q I rv q=>h pins s σ H xs us Q I rv (k _ _ _ q)
theorem OpR.imp {f:Mj->Mj->Sem Mj}{r r':R2}(h:OpR X f r)(k:∀ x y H Q,r' x y H Q->r x y H Q):OpR X f r':=fun pins s σ H x y v u Q I rx ry q=>h pins s σ H x y v u Q I rx ry (k _ _ _ _ q)
theorem oC:bA X (.type "tuple") (fun xs H Q=>∃ p ys,xs=[.ref p]/\SqL X.K H p ys/\New (.tup ys) H Q):=kF.imp fun vs H Q ⟨p,ys,e,h,q⟩=>⟨p,ys,e,.inl ⟨h,fun l hl=>q.at hl⟩⟩
theorem vF:bA X (.builtin "len") (fun xs H Q=>∃ b p ys,xs=[.ref p]/\SqG b X.K H p ys/\Q (.int ys.length) H):=cB.imp fun vs H Q ⟨b,p,ys,e,h,q⟩=>by
 refine⟨p,ys,e,?_,q⟩
 cases b with
 | true=>exact .inr h
 | false=>exact .inl h
noncomputable def Hn(K:Mk):R2:=fun x y H Q=>∃ b p xs i v,x=.ref p/\y=.int i/\SqG b K H p xs/\atI xs i=some v/\Q v H
theorem GY:IxR X (Hn X.K):=fun value slice pins s σ H x y v u Q I rx ry ⟨b,p,xs,i,z,e1,e2,hq,ha,q⟩ hs=>by
 subst e1 e2
 exact CZ value slice pins s σ H (.ref p) (.int i) v u Q I rx ry (E1 hq ha q) hs
end
def d0(ns:List Int)(r:Int):Prop:=r∈ns/\∀ x∈ns,r<=x
def d5(ns:List Int)(r:Int):Prop:=r∈ns/\∀ x∈ns,x<=r
theorem bR:∀ {ns:List Int} {us:List Mj},Vals (ns.map V.int) us->∃ ps:List (Int × Tok),us=ps.map (fun p=>NR p.1 p.2)/\ps.map (·.1)=ns
 | [],_,.nil=>⟨[],rfl,rfl⟩
 | n::r,_,.cons h t=>by
  obtain⟨ps,e1,e2⟩:=bR t
  obtain⟨tk,e⟩:=h
  exact⟨(n,tk)::ps,by rw[e,e1];rfl,by rw[<-e2];rfl⟩
theorem bZ{ps:List (Int × Tok)}{ns:List Int}(e:ps.map (·.1)=ns){i:Nat}(hi:i < ns.length):Oe ps.toArray i=ns[i]:=by
 subst e
 have h2:i < ps.length:=by simpa using hi
 simp[Oe,h2]
section
variable{X:Cx}
theorem vG(hc:X.calm=true):bA X (.builtin "min") (fun xs H Q=>∃ a ns,xs=[.ref a]/\SqL X.K H a (ns.map V.int)/\ns≠[]/\∀ r,d0 ns r->Q (.int r) H):=by
 intro pins s σ H xs us Q I r h
 obtain⟨a,ns,rfl,hq,hne,q⟩:=h
 obtain⟨u,rfl,ru⟩:=vals1 r
 cases ru
 obtain⟨its,rv,p,z⟩:=I.list hq
 obtain⟨ps,e1,e2⟩:=bR rv
 subst e1
 have hl:s.heap.IsList a (M5 ps.toArray):=by
  have e:M5 ps.toArray=(ps.map fun p=>NR p.1 p.2).toArray:=by simp[M5]
  rw[e];exact p.isList
 have hlen:ps.length=ns.length:=by rw[<-e2];simp
 have hpos:0 < ns.length:=ID fun z=>hne (HQ z)
 refine min_intList (I.ok.hd hc) hl (by simp;lia) fun v h' tk hv hk=>?_
 obtain⟨tv,rfl⟩:=OY hv
 obtain⟨b1,b2⟩:=argBest_lt (Oe ps.toArray) (ps.toArray.size - 1)
 have hi:Sv (fun i j=>decide (Oe ps.toArray i < Oe ps.toArray j)) (ps.toArray.size - 1) < ns.length:=by simp at b1 ⊢;lia
 refine⟨.int _,H,I.kept (t':=tk) hk,⟨tv,rfl⟩,q _ ⟨?_,fun x hx=>?_⟩⟩
 ·rw[bZ e2 hi];exact IC hi
 obtain⟨j,hj,rfl⟩:=HX.mp hx
 have:=b2 j (by simp;lia)
 rw[bZ e2 hj]at this
 exact this
theorem vL(hc:X.calm=true):bA X (.builtin "max") (fun xs H Q=>∃ a ns,xs=[.ref a]/\SqL X.K H a (ns.map V.int)/\ns≠[]/\∀ r,d5 ns r->Q (.int r) H):=by
 intro pins s σ H xs us Q I r h
 obtain⟨a,ns,rfl,hq,hne,q⟩:=h
 obtain⟨u,rfl,ru⟩:=vals1 r
 cases ru
 obtain⟨its,rv,p,z⟩:=I.list hq
 obtain⟨ps,e1,e2⟩:=bR rv
 subst e1
 have hl:s.heap.IsList a (M5 ps.toArray):=by
  have e:M5 ps.toArray=(ps.map fun p=>NR p.1 p.2).toArray:=by simp[M5]
  rw[e];exact p.isList
 have hlen:ps.length=ns.length:=by rw[<-e2];simp
 have hpos:0 < ns.length:=ID fun z=>hne (HQ z)
 refine max_intList (I.ok.hd hc) hl (by simp;lia) fun v h' tk hv hk=>?_
 obtain⟨tv,rfl⟩:=OY hv
 obtain⟨b1,b2⟩:=argBest_gt (Oe ps.toArray) (ps.toArray.size - 1)
 have hi:Sv (fun i j=>decide (Oe ps.toArray i > Oe ps.toArray j)) (ps.toArray.size - 1) < ns.length:=by simp at b1 ⊢;lia
 refine⟨.int _,H,I.kept (t':=tk) hk,⟨tv,rfl⟩,q _ ⟨?_,fun x hx=>?_⟩⟩
 ·rw[bZ e2 hi];exact IC hi
 obtain⟨j,hj,rfl⟩:=HX.mp hx
 have:=b2 j (by simp;lia)
 rw[bZ e2 hj]at this
 exact this
theorem vw(hc:X.calm=true):bA X (.builtin "max") (fun xs H Q=>∃ i j k,xs=[.int i,.int j,.int k]/\∀ r,i<=r->j<=r->k<=r->(r=i\/r=j\/r=k)->Q (.int r) H):=by
 intro pins s σ H xs us Q I r h
 obtain⟨i,j,k,rfl,q⟩:=h
 cases r with
 | cons r1 rr=>
  cases rr with
  | cons r2 rr=>
   cases rr with
   | cons r3 rr=>
    cases rr
    obtain⟨t1,rfl⟩:=r1
    obtain⟨t2,rfl⟩:=r2
    obtain⟨t3,rfl⟩:=r3
    refine max_three_ints (I.ok.hd hc) fun h' tk hk=>?_
    have fin:∀(r:Int) (t:Tok),i<=r->j<=r->k<=r->(r=i\/r=j\/r=k)->EP X pins σ Q (.int r t) { s with heap:=h',toks:=tk }:=fun r t a b c d=>⟨.int r,H,I.kept (t':=tk) hk,⟨t,rfl⟩,q r a b c d⟩
    split
    ·split
     ·exact fin _ _ (by lia) (by lia) (by lia) (by lia)
     exact fin _ _ (by lia) (by lia) (by lia) (by lia)
    split
    ·exact fin _ _ (by lia) (by lia) (by lia) (by lia)
    exact fin _ _ (by lia) (by lia) (by lia) (by lia)
theorem uR(hc:X.calm=true):bA X (.builtin "min") (fun xs H Q=>∃ i j k,xs=[.int i,.int j,.int k]/\∀ r,r<=i->r<=j->r<=k->(r=i\/r=j\/r=k)->Q (.int r) H):=by
 intro pins s σ H xs us Q I r h
 obtain⟨i,j,k,rfl,q⟩:=h
 cases r with
 | cons r1 rr=>
  cases rr with
  | cons r2 rr=>
   cases rr with
   | cons r3 rr=>
    cases rr
    obtain⟨t1,rfl⟩:=r1
    obtain⟨t2,rfl⟩:=r2
    obtain⟨t3,rfl⟩:=r3
    refine min_three_ints (I.ok.hd hc) fun h' tk hk=>?_
    have fin:∀(r:Int) (t:Tok),r<=i->r<=j->r<=k->(r=i\/r=j\/r=k)->EP X pins σ Q (.int r t) { s with heap:=h',toks:=tk }:=fun r t a b c d=>⟨.int r,H,I.kept (t':=tk) hk,⟨t,rfl⟩,q r a b c d⟩
    split
    ·split
     ·exact fin _ _ (by lia) (by lia) (by lia) (by lia)
     exact fin _ _ (by lia) (by lia) (by lia) (by lia)
    split
    ·exact fin _ _ (by lia) (by lia) (by lia) (by lia)
    exact fin _ _ (by lia) (by lia) (by lia) (by lia)
end
section
variable{X:Cx}{a b c d:MB}{ta tb tc td:TE}{pos:Pos}
theorem yd:SlR X (fun x lo hi H Q=>∃ a xs,x=.ref a/\SqL X.K H a xs/\New (.lst (dG xs lo hi)) H Q):=fun pins s σ H x v vl vu lo hi sl Q I rx hs pl pu ⟨a,xs,e,h,q⟩=>tj pins s σ H x v vl vu lo hi sl Q I rx hs pl pu ⟨a,xs,e,h,fun p hp=>q.at hp⟩
theorem ur:SlR X (fun x lo hi H Q=>∃ a xs,x=.ref a/\SqT X.K H a xs/\¬(HT.sIx xs.length 0 lo=0/\HT.sIx xs.length xs.length hi=xs.length)/\New (.tup (dG xs lo hi)) H Q):=fun pins s σ H x v vl vu lo hi sl Q I rx hs pl pu ⟨a,xs,e,h,hw,q⟩=>E8 pins s σ H x v vl vu lo hi sl Q I rx hs pl pu ⟨a,xs,e,h,hw,fun p hp=>q.at hp⟩
end
structure Put (H:Hp) (p:Ml) (o:HO) (H':Hp):Prop where
 at_:H' p=some o
 else_:∀ b,b≠p->H' b=H b
theorem Put.up {H:Hp}{p:Ml}{o:HO}:Put H p o (upd H p o):=⟨aE,fun b h=>aG h⟩
section
variable{X:Cx}
theorem qZ.imp {t t':B7}(h:qZ X t)(k:∀ o i v H Q,t' o i v H Q->t o i v H Q):qZ X t':=fun pins s σ H o i v ov iv u Q I r1 r2 r3 q=>h pins s σ H o i v ov iv u Q I r1 r2 r3 (k _ _ _ _ _ q)
theorem vd:qZ X (fun o i v H Q=>∃ p xs k j,o=.ref p/\i=.int k/\H p=some (.lst xs)/\ixN xs.length k=some j/\∀ H',Put H p (.lst (xs.set j v)) H'->Q H'):=set_list.imp fun o i v H Q ⟨p,xs,k,j,e1,e2,h,hj,q⟩=>⟨p,xs,k,j,e1,e2,h,hj,q _ Put.up⟩
end
section
variable{M:Om}{A:MJ}{E:Mj->Mm->Prop}{s:Mm}{env:Env}
theorem fu{e:MB}{scope:Nk}{pos:Pos}{newAcc first:Sem Mj}{g:PU}{gs:List PU}{u:Mj->Sem Unit}{Q:Mj->Mm->Prop}
  (hcl:clausesOf e=g::gs) (hs:∀ x,Nd g.iter env x=pure x)
  (hc:∀ x∈scope.names,x.2≠.cell) (hfr:∀ x∈scope.names,x.2=.free->∃ c,env.cells.lookup x.1=some c) (hkind:scope.kind=.function) (hnames:∀ x∈scope.names,x.2=.local->scope.names.lookup x.1=some .local)
  (h:Mr M A first (fun x s₁=>Mr M A (Pu x) (fun it s₂=>Mr M A newAcc (fun acc s₃=>
   ∀ h4,h4.Ns s₃.heap.objs.size (fun _=>none)->(∀ b o,s₃.heap.get? b=some o->h4.get? b=some o)->
    Oh M A (.compStart e 0 it acc (L2.compEnv env scope s₃.heap.objs.size)) (fun r s'=>match r with
     | .ok _=>Mr M A (u acc) (fun _ s''=>∃ m,s''.heap.Ns s₃.heap.objs.size m/\∀ h',Na s₃.heap.objs.size s''.heap h'->Q .none { s'' with heap:=h' }) E s'
     | .error x=>False) { s₃ with heap:=h4 }) E s₂) E s₁) E s) :
  Mr M A (O0 e scope env pos newAcc false first (some u)) Q E s:=by
 unfold O0
 rw[jv hfr,hcl]
 refine Mi (MP h (fun x s₁ h₁=>Mi (Ox (Mi (OD (hs x) (Mi (MM (MP h₁ (fun it s₂ h₂=>
  SQ (Mi (MP h₂ (fun acc s₃ h₃=>Mi (Mn (Mi ?_))) fun _ _ h'=>h'))) fun _ _ h'=>h'))))))) fun _ _ h'=>h')
 refine QX hc (fun x hx=>nomatch hx) (fun h4 hn4 hs4=>?_) hkind
 have h₄:=h₃ h4 hn4 fun b o e=>hs4.extBut b o (u_ (Mu e)) (Mo _ e)
 dsimp only
 have hv:∀ x∈(scope.names.filter fun x=>(x.2 == .local || x.2 == .cell) && x.1 !=(".0":Str)).reverse,x.2=.local->
   R4 (L2.compEnv env scope s₃.heap.objs.size) x.1=some .local:=fun x hx hl=>by
  show(jT env scope).names.lookup x.1=some .local
  rw[fP,hnames x (Io.mp (KU.mp hx)).1 hl]
  rfl
 have hv':∀ x∈(scope.names.filter fun x=>(x.2 == .local || x.2 == .cell) && x.1 !=(".0":Str)).reverse.drop 1++(scope.names.filter fun x=>(x.2 == .local || x.2 == .cell) && x.1 !=(".0":Str)).reverse.take 1,
   x.2=.local->R4 (L2.compEnv env scope s₃.heap.objs.size) x.1=some .local:=fun x hx hl=>
  (z_.mp hx).elim (fun z=>hv x (JH z) hl) fun z=>hv x (Iq z) hl
 refine MM (Mi (NC (MM (wpAny_run (NT h₄ fun r s' hr=>?_)))))
 cases r with
 | ok f=>
  refine Mi (NQ (Mi (MM (MP hr (fun _ s'' hr'=>?_) fun _ _ h'=>h'))))
  obtain⟨m,hn,hr'⟩:=hr'
  exact Mi (RP (cenv:=L2.compEnv env scope s₃.heap.objs.size) hkind _ s'' m hv' hn fun h' m' _ hs'=>Mn (hr' h' hs'))
 | error x=>exact hr.elim
end
theorem sP{X:Cx}{N ps:List Str}{esc:Nk}(S:FnScope N ps esc){i:Nat}{x:Str}{pos pos':Pos}(N':List Str)(fr:List (Option Nat))(nd:N'.Nodup){elt target iter:MB}{ifs:List MB}{sc:Nk}{pos2:Pos}{wi:TI}{g:Mm->Hp->List Ml->TG}{tt:Mm->Hp->List Ml->TT}{te:Mm->Hp->List Ml->TE}(C:dD N esc sc N' fr=true)
  (hi:X.N[i]?=some x) (hx:Loc X.env.scope x) (hit:PI X target iter wi) (hg:∀ s3 H3 fp,PG (aM X N' sc s3 H3 fp) target (g s3 H3 fp)) (ht:∀ s3 H3 fp,PTs (aM X N' sc s3 H3 fp) ifs (tt s3 H3 fp)) (he:∀ s3 H3 fp,PE (aM X N' sc s3 H3 fp) elt (te s3 H3 fp))
  (hsw:OG (.ListComp elt [⟨target,iter,ifs,0⟩] sc pos2) (some (.Name x pos')) pos.line X.env=pure true) (hf:X.fn x=true:=by rfl)
  (hc:X.calm=true:=by rfl) (hN:X.N=N:=by rfl) (hS:X.env.scope=esc:=by rfl) (hs:∀ x,Nd iter X.env x=pure x:=by intro _;rfl):PS X (.Assign [.Name x pos'] (.ListComp elt [⟨target,iter,ifs,0⟩] sc pos2) pos) (Bi (tW wi fr g tt te) (su i)):=by
 have C:CompOk X.N X.env.scope sc N' fr:=lK (by rw[hN,hS];exact C)
 have hNd:X.N.Nodup:=by rw[hN];exact S.nd
 intro pins s σ H D I h
 rw[exec_Assign_Name_used _ _ _ _ hsw]
 refine Mi (Ox (Mi ?_))
 show Mr _ X.A (do let _ <-O0 (.ListComp elt [⟨target,iter,ifs,0⟩] sc pos2) sc X.env _ (Ul []) false (MQ iter X.env) (some (OV (.Name x pos') X.env))) _ _ s
 have hfr:∀ x∈sc.names,x.2=.free->∃ c,X.env.cells.lookup x.1=some c:=fun x hx e=>I.ok.has x.1 (.inl (C.free x hx e))
 refine Mi (MP (fu (g:=⟨target,iter,ifs,0⟩) (gs:=[]) (Q:=fun _ s'=>SP X pins D .next s') rfl hs C.nocell hfr C.kind C.names ?_) (fun _ s' hq=>Mn (Mn hq)) fun _ _ e=>e)
 refine thn (hit pins s σ H _ I h) fun v s1 h1=>thn h1 fun itv s2 h2=>?_
 obtain⟨it,fp,tn,J,H2,e,I2,T,st2,f2,k2⟩:=h2
 subst e
 refine NY ?_ (by show 0<=sizeLine;decide)
 have hfree:H2 s2.heap.objs.size=none:=I2.hok.fresh (f_ _)
 obtain⟨W,⟨m0,w0⟩,turn⟩:=k2 _ hfree { s2 with heap:=s2.heap.push { cls:=.type "list",data:=.seq ([]:List Mj).toArray } } (upd H2 s2.heap.objs.size (.lst [])) fp
 have kp:∀ b u,s2.heap.get? b=some u->(s2.heap.push { cls:=.type "list",data:=.seq ([]:List Mj).toArray }).get? b=some u:=fun b u e=>Mo _ e
 have I3:Inv X pins σ (upd H2 s2.heap.objs.size (.lst [])) { s2 with heap:=s2.heap.push { cls:=.type "list",data:=.seq ([]:List Mj).toArray } }:=
  I2.laid (t':=s2.toks) kp (f_ _) ⟨F' _,[],0,.nil,Mt _ rfl⟩
 have obj2:=T.obj 0 s2.heap st2
 have fpne:∀ b∈fp,b≠s2.heap.objs.size:=fun b hb=>by
  obtain⟨o,ho,_⟩:=obj2 b hb
  exact u_ (Mu ho)
 have f3:∀ b∈fp,fX X pins (upd H2 s2.heap.objs.size (.lst [])) b:=fun b hb=>⟨by rw[aG (fpne b hb)];exact(f2 b hb).1,(f2 b hb).2⟩
 have st3:=T.keep 0 s2.heap _ st2 fun b hb o e=>kp b o e
 have obj3:=T.obj 0 _ st3
 intro h4 hn4 hk4
 have st4:=T.keep 0 _ h4 st3 fun b hb o e=>hk4 b o e
 have I4:=og (N':=N') (fr:=fr) (fp:=fp) I3 C hc f3 (fun b hb=>let ⟨o,ho,_⟩:=obj3 b hb;⟨o,ho⟩) hn4 hk4
 have stat:∀ {H':Hp},(∀ b∈fp,H' b=none)->∀ b∈fp,fX (aM X N' sc { s2 with heap:=s2.heap.push { cls:=.type "list",data:=.seq ([]:List Mj).toArray } } (upd H2 s2.heap.objs.size (.lst [])) fp) [] H' b:=fun hn b hb=>
  ⟨hn b hb,(I4.ok.exf b hb).1,I4.ok.exfs b hb,.inl hb,(I4.ok.exf b hb).2,fun p hp=>(nomatch hp)⟩
 have loop:Oh (Mw X.prog X.w) X.A (.compLoop (.ListComp elt [⟨target,iter,ifs,0⟩] sc pos2) 0 (.ref it) (.ref s2.heap.objs.size) (L2.compEnv X.env sc (s2.heap.push { cls:=.type "list",data:=.seq ([]:List Mj).toArray }).objs.size))
   (fun r s'=>match r with
    | .ok _=>Mr (Mw X.prog X.w) X.A (OV (.Name x pos') X.env (.ref s2.heap.objs.size)) (fun _ s''=>∃ m,s''.heap.Ns (s2.heap.push { cls:=.type "list",data:=.seq ([]:List Mj).toArray }).objs.size m/\∀ h',Na (s2.heap.push { cls:=.type "list",data:=.seq ([]:List Mj).toArray }).objs.size s''.heap h'->SP X pins D .next { s'' with heap:=h' }) X.xe s'
    | .error x=>False) { s2 with heap:=h4 }:=by
  refine iI (fun n s'=>∃ i σ' H',Inv (aM X N' sc { s2 with heap:=s2.heap.push { cls:=.type "list",data:=.seq ([]:List Mj).toArray } } (upd H2 s2.heap.objs.size (.lst [])) fp) [] σ' H' s'/\tn i s'.heap/\(∀ b∈fp,H' b=none)/\W i n σ' H') ?_ m0
   ⟨0,_,_,I4,st4,fun b hb=>(f3 b hb).1,w0⟩
  rintro n s5 ⟨j,σ5,H5,I5,st5,fr5,w5⟩
  rcases turn j n σ5 H5 w5 with⟨stop,q⟩ | ⟨go,step⟩
  ·refine thn (T.done (aM X N' sc _ _ fp) rfl rfl rfl rfl j [] s5 σ5 H5 (fun _ _=>False) I5 (stat fr5) st5 stop) ?_
   rintro r s6 ⟨hr,I6⟩
   subst hr
   obtain⟨m6,hn6,_⟩:=id I6.loc
   have hL:H5 (s2.heap.push { cls:=.type "list",data:=.seq ([]:List Mj).toArray }).objs.size=none:=I6.free
   have I7:Inv X pins σ H5 s6:=I3.BJ (s':=s6) (ch:=fp) I6.os I6.base I6.hok I6.bare (fun b hb=>by
    obtain⟨_,g1,g2,g3,g4,g5⟩:=f3 b hb
    exact⟨g3,g1,g4,g5⟩)
   have Lne:(s2.heap.push { cls:=.type "list",data:=.seq ([]:List Mj).toArray }).objs.size≠X.env.locals:=Jk I3.lt
   have cne:∀ y c,X.env.cells.lookup y=some c->c≠(s2.heap.push { cls:=.type "list",data:=.seq ([]:List Mj).toArray }).objs.size:=fun y c e=>by
    obtain⟨v',z⟩:=I3.cell y c e
    exact u_ z.lt
   refine Rv (lO (v:=.ref s2.heap.objs.size) I7 hNd hi hx rfl (fun s8 I8 ⟨a8,sb8,ha8⟩=>?_) (.inl hf))
   refine⟨m6,hn6.sameBut sb8 (fun z=>ha8.elim (fun w'=>Lne (z.trans w')) fun w'=>cne _ _ w' z.symm),fun h' hs'=>⟨_,H5,?_,q⟩⟩
   refine I8.turned (it:=(s2.heap.push { cls:=.type "list",data:=.seq ([]:List Mj).toArray }).objs.size) (t':=s8.toks) (fun b o hb e=>(hs'.2 b hb).trans e) hL Lne (.inr I3.sz) cne fun p hp z=>?_
   have lt:=Mu (I3.pin p hp).1
   rw[z]at lt
   exact IX _ lt
  refine thn (T.item (aM X N' sc _ _ fp) rfl rfl rfl rfl j [] s5 σ5 H5 (fun _ _=>False) I5 (stat fr5) st5 go) ?_
  rintro r s6 ⟨u,hr,h6⟩
  subst hr
  refine thn h6 ?_
  rintro _ s7 ⟨y,H7,I7,r7,y7,st7,fr7⟩
  have I7':=I7.pinned (stat fr7) (T.obj _ _ st7)
  have again:∀ {σ8:St} {H8:Hp} {s8:Mm},Inv (aM X N' sc { s2 with heap:=s2.heap.push { cls:=.type "list",data:=.seq ([]:List Mj).toArray } } (upd H2 s2.heap.objs.size (.lst [])) fp) ([]++i6 fp s7.heap) σ8 H8 s8->(∃ m',m' < n/\W (j + 1) m' σ8 H8)->
    ∃ m,m < n/\∃ i σ' H',Inv (aM X N' sc { s2 with heap:=s2.heap.push { cls:=.type "list",data:=.seq ([]:List Mj).toArray } } (upd H2 s2.heap.objs.size (.lst [])) fp) [] σ' H' s8/\tn i s8.heap/\(∀ b∈fp,H' b=none)/\W i m σ' H':=fun{σ8 H8 s8} I8 ⟨m',hm,w8⟩=>by
   refine⟨m',hm,j + 1,σ8,H8,I8.dy,T.keep _ _ _ st7 fun b hb o e=>(I8.pin (b,o) (n_ _ (n_ _ (cc hb e)))).1,fun b hb=>?_,w8⟩
   obtain⟨o,e,d⟩:=T.obj _ _ st7 b hb
   exact(I8.pin (b,o) (n_ _ (n_ _ (cc hb e)))).2.1
  refine thn (hg _ _ fp _ s7 σ5 H7 y u _ I7' r7 (step y H7 y7)) ?_
  rintro _ s8 ⟨σ8,H8,I8,q8⟩
  refine thn (ht _ _ fp _ s8 σ8 H8 _ I8 q8) ?_
  rintro ok s9 ⟨H9,I9,q9⟩
  cases ok with
  | false=>exact again I9 q9
  | true=>
   refine thn (he _ _ fp _ s9 σ8 H9 _ I9 q9) ?_
   rintro y s10 ⟨v,H10,I10,r10,ys,hys,hl,q10⟩
   refine thn (ik _ s10 σ8 H10 (.ref s2.heap.objs.size) [v] (.ref s2.heap.objs.size) [y] (fun _ H'=>∃ m',m' < n/\W (j + 1) m' σ8 H') I10 rfl (.cons r10 .nil) ⟨_,ys,v,rfl,rfl,hys,hl,q10⟩) ?_
   rintro z s11 ⟨_,H11,I11,_,q11⟩
   exact again I11 q11
 refine Qz loop ?_
 exact T.self X.A 0 _ _ _ st4 loop
section
variable{X:Cx}
theorem MtM.imp {id:String}{r r':V->List V->Hp->VK->Prop}(h:MtM X id r)(k:∀ x xs H Q,r' x xs H Q->r x xs H Q):MtM X id r':=fun pins s σ H x xs v us Q I r1 r2 q=>h pins s σ H x xs v us Q I r1 r2 (k _ _ _ _ q)
theorem rB:MtM X "list.extend" (fun x vs H Q=>∃ l b xs zs,x=.ref l/\vs=[.ref b]/\H l=some (.lst xs)/\H b=some (.lst zs)/\xs.length + zs.length<=sizeLine/\∀ H',Put H l (.lst (xs++zs)) H'->Q .non H'):=uI.imp fun x vs H Q ⟨l,b,xs,zs,e1,e2,h1,h2,hz,q⟩=>⟨l,b,xs,zs,e1,e2,h1,h2,hz,q _ Put.up⟩
theorem qM:MtM X "list.append" (fun x vs H Q=>∃ l xs y,x=.ref l/\vs=[y]/\H l=some (.lst xs)/\xs.length < sizeLine/\∀ H',Put H l (.lst (xs++[y])) H'->Q .non H'):=ik.imp fun x vs H Q ⟨l,xs,y,e1,e2,h1,hz,q⟩=>⟨l,xs,y,e1,e2,h1,hz,q _ Put.up⟩
end
end L2
namespace ZG
open PySem
open Sem (wp)
section
variable{prog:MA}{w:MC}{A:MJ}{E:Mj->Mm->Prop}{s:Mm}
theorem Gs{d:Ml}{o:Obj}{es:Array Oj}{ep:Nat}{Q:Mj->Mm->Prop}(hd:(d == Nj)=false)(ho:s.heap.get? d=some o)(hc:o.ExactDict)(hdat:o.data=.dict es ep)
  (hQ:Q (.ref s.heap.objs.size) { s with heap:=s.heap.push { cls:=.type "dict_keyiterator",data:=.fields #[.ref d,.int 0 0,.int es.size 0,.int ep 0] } }):Mr (Mw prog w) A (Pu (.ref d)) Q E s:=by
 have hT:s.TypeIs (.ref d) "dict":=⟨o,ho,hc.1⟩
 refine PY hT RS (MX RS hT F.entry_dict_iter ?_ (F.args_dict_iter_1 _))
 unfold Nu.«dict.__iter__» Tc
 refine Mi (Mi (wpAny_notOrdered_dict hT (show Mr _ _ (pure (MY d)) _ _ s from Mn (show Mr _ _ (QH d >>= _) _ _ s from ?_))))
 unfold QH
 rw[if_neg (by rw[hd];exact B_)]
 exact Mi (Mn (Mi (OO ho hdat (Mi (Qq ho hdat (Mi (ML (Mn ⟨_,rfl,"dict_keyiterator",_,⟨_,Mt _ rfl,rfl⟩,Nw.lookup,by simpa[Nm]using hQ⟩))))))))
theorem G6{it d:Ml}{i ep:Nat}{o:Obj}{es:Array Oj}{e:Oj}{Q:Option Mj->Mm->Prop}(hit:s.heap.IsKeyIter it d i es.size ep)(hod:s.heap.get? d=some o)(hdd:o.data=.dict es ep)(hx:es[i]?=some e)
  (hQ:∀ h',h'.IsKeyIter it d (i + 1) es.size ep->Na it s.heap h'->Q (some e.key) { s with heap:=h' }):Mr (Mw prog w) A (NZ (.ref it)) Q E s:=by
 obtain⟨oi,ho,hc,hd⟩:=id hit
 unfold NZ
 refine Mi (NC (MZ (name:=Nf "__next__") hit.typeIs Nw (MX Nw hit.typeIs Pe ?_ (O' _))))
 refine Mi (Mn (Mi (Mi ?_)))
 refine Mi (NL hit.typeIs (Mn (Mi (Pm ho hd ?_))))
 simp only[show Pn "dict_keyiterator"=false by decide,HY,if_false]
 show Mr _ _ (if(MY d == MV)=true then _ else _) _ _ s
 rw[if_neg (show ¬(MY d == MV)=true from fun z=>B_ z)]
 refine Mi (Mn (Mi (OO hod hdd ?_)))
 rw[if_neg (show ¬ _ by simp)]
 refine Mi (Mn (Mi (Qq hod hdd ?_)))
 rw[if_neg (show ¬ _ by simp)]
 refine Mn ?_
 simp only[show ¬(i:Int) < 0 by lia,if_false,Ii,hx]
 refine Mi (Mi (NL hit.typeIs (Mn (Mi (QI hit.typeIs ?_)))))
 show Mr _ _ (setField (.ref it) 1 (Nm ((i:Int) + 1)) >>= _) _ _ s
 refine Mi (Nt ho hd (by simp) ?_)
 have hit':(s.heap.update it (Oy (·.setIfInBounds 1 (Nm ((i:Int) + 1))))).IsKeyIter it d (i + 1) es.size ep:=
  ⟨_,M6 _ ho (NG (MU hd _)),(Oo ..).trans hc,by rw[MU hd];simp[Nm]⟩
 exact Mi (MM (Mi (QI (s:={ s with heap:=s.heap.update it (Oy (·.setIfInBounds 1 (Nm ((i:Int) + 1)))) }) hit'.typeIs (show Mr _ _ (pure e.key) _ _ _ from Mn (Mn ⟨_,rfl,Mn (hQ _ hit' (M0 ..))⟩)))))
theorem Hr{it d:Ml}{i ep:Nat}{o:Obj}{es:Array Oj}{Q:Option Mj->Mm->Prop}(hh:A.handled=none)(hit:s.heap.IsKeyIter it d i es.size ep)(hod:s.heap.get? d=some o)(hdd:o.data=.dict es ep)(hx:es[i]?=none)
  (hQ:∀ h',OC it s.heap h'->Q none { s with heap:=h' }):Mr (Mw prog w) A (NZ (.ref it)) Q E s:=by
 obtain⟨oi,ho,hc,hd⟩:=id hit
 unfold NZ
 refine Mi (NC (MZ (name:=Nf "__next__") hit.typeIs Nw (MX Nw hit.typeIs Pe ?_ (O' _))))
 refine Mi (Mn (Mi (Mi ?_)))
 refine Mi (NL hit.typeIs (Mn (Mi (Pm ho hd ?_))))
 simp only[show Pn "dict_keyiterator"=false by decide,HY,if_false]
 show Mr _ _ (if(MY d == MV)=true then _ else _) _ _ s
 rw[if_neg (show ¬(MY d == MV)=true from fun z=>B_ z)]
 refine Mi (Mn (Mi (OO hod hdd ?_)))
 rw[if_neg (show ¬ _ by simp)]
 refine Mi (Mn (Mi (Qq hod hdd ?_)))
 rw[if_neg (show ¬ _ by simp)]
 refine Mn ?_
 simp only[show ¬(i:Int) < 0 by lia,if_false,Ii,hx]
 refine Mi (Mi (NL hit.typeIs (Mn ?_)))
 show Mr _ _ (setField (.ref it) 0 .none >>= _) _ _ s
 refine Mi (Nt ho hd (by simp) (show Mr _ _ (Qb (.type "StopIteration") [] >>= _) _ _ _ from Mi ?_))
 simp only[Qb,RL]
 refine Mi (ML (Mi (m:=NO _ _) (OD (a:=MV) (by first | rfl | (simp only[NO];rfl)) (ML ?_ (by size_fits)))) (by size_fits))
 simp only[RM]
 refine Mi (PQ ?_)
 rw[show A.in1.handled=none from hh]
 refine Mi (Mn (Qx ?_))
 refine Mi (Ov (T:="StopIteration") (b:=true) (by exact⟨_,Mt _ rfl,rfl⟩) Pl (Mn ?_))
 exact hQ _ (((M0 ..).extBut.push _).push _)
end
end ZG
namespace L2
open PySem PySem.Spec PyProof.Rows
def kI(ns:List Int):List Key:=ns.map O2
theorem Fp(ns:List Int):(kI ns).map kV=ns.map V.int:=by
 unfold kI
 rw[D']
 rfl
theorem DX{ns ms:List Int}(h:kI ns=kI ms):ns=ms:=(List.map_inj_right fun _ _ z=>T7 z).mp h
section
variable{X:Cx}
theorem vH(hc:X.calm=true):bA X (.builtin "min") (fun xs H Q=>∃ a ns,xs=[.ref a]/\SqT X.K H a (ns.map V.int)/\ns≠[]/\∀ r,d0 ns r->Q (.int r) H):=by
 intro pins s σ H xs us Q I r h
 obtain⟨a,ns,rfl,hq,hne,q⟩:=h
 obtain⟨u,rfl,ru⟩:=vals1 r
 cases ru
 obtain⟨its,rv,p,z⟩:=I.tuple hq
 obtain⟨ps,e1,e2⟩:=bR rv
 have ei:M5 ps.toArray=its.toArray:=by simp[M5,e1]
 have hT:s.heap.IsTuple a (M5 ps.toArray):=by rw[ei];exact p
 have hlen:ps.length=ns.length:=by rw[<-e2];simp
 have hpos:0 < ns.length:=ID fun z=>hne (HQ z)
 have hlt:a < s.heap.objs.size:=by obtain⟨o,e,_⟩:=p;exact Mu e
 have hh:X.A.in1.handled=none:=I.ok.hd hc
 have W1:=Ug (prog:=X.prog) (w:=X.w) hh s.heap.objs.size a (u_ hlt) (M5 ps.toArray)
 refine call_min_walk (NH hT ⟨s.heap.objs.size,_,_,_,_,_,_,rfl,W1,?_,fun b hb=>?_,?_,CmpOf.ints_lt (Oe ps.toArray) (fun i v hv=>OY hv),fun v h' tk hv hk=>?_⟩)
 ·refine⟨⟨_,Mt _ rfl,rfl,rfl⟩,?_⟩
  obtain⟨o,e,r⟩:=hT
  exact⟨o,Mo _ e,r⟩
 ·show b < (s.heap.push _).objs.size
  have e:(s.heap.push { cls:=.type "tuple_iterator",data:=.fields #[.ref a,.int 0 0] }).objs.size=s.heap.objs.size + 1:=by simp[O4]
  rcases o_.mp hb with hb | hb
  ·rw[hb];simp[O4]
  rw[p_.mp hb]
  exact x_ hlt (by simp[O4])
 ·simp[M5];lia
 obtain⟨tv,rfl⟩:=OY hv
 obtain⟨b1,b2⟩:=argBest_lt (Oe ps.toArray) ((M5 ps.toArray).size - 1)
 have es:(M5 ps.toArray).size=ns.length:=by simp[M5,hlen]
 have hi:Sv (fun i j=>decide (Oe ps.toArray i < Oe ps.toArray j)) ((M5 ps.toArray).size - 1) < ns.length:=by rw[es]at b1 ⊢;lia
 obtain⟨f0,f1,f2,f3,f4,f5⟩:=I.vy (b:=s.heap.objs.size) (f_ _) (I.hok.fresh (f_ _))
 have kk:∀ b o,s.heap.get? b=some o->h'.get? b=some o:=fun b o e=>hk b o (fun z=>u_ (Mu e) (p_.mp z)) (Mo _ e)
 refine⟨.int _,H,I.kept (t':=tk) kk,⟨tv,rfl⟩,q _ ⟨?_,fun x hx=>?_⟩⟩
 ·rw[bZ e2 hi];exact IC hi
 obtain⟨j,hj,rfl⟩:=HX.mp hx
 have:=b2 j (by rw[es];lia)
 rw[bZ e2 hj]at this
 exact this
theorem uW(hc:X.calm=true):bA X (.builtin "max") (fun xs H Q=>∃ a ns,xs=[.ref a]/\SqT X.K H a (ns.map V.int)/\ns≠[]/\∀ r,d5 ns r->Q (.int r) H):=by
 intro pins s σ H xs us Q I r h
 obtain⟨a,ns,rfl,hq,hne,q⟩:=h
 obtain⟨u,rfl,ru⟩:=vals1 r
 cases ru
 obtain⟨its,rv,p,z⟩:=I.tuple hq
 obtain⟨ps,e1,e2⟩:=bR rv
 have ei:M5 ps.toArray=its.toArray:=by simp[M5,e1]
 have hT:s.heap.IsTuple a (M5 ps.toArray):=by rw[ei];exact p
 have hlen:ps.length=ns.length:=by rw[<-e2];simp
 have hpos:0 < ns.length:=ID fun z=>hne (HQ z)
 have hlt:a < s.heap.objs.size:=by obtain⟨o,e,_⟩:=p;exact Mu e
 have hh:X.A.in1.handled=none:=I.ok.hd hc
 have W1:=Ug (prog:=X.prog) (w:=X.w) hh s.heap.objs.size a (u_ hlt) (M5 ps.toArray)
 refine call_max_walk (NH hT ⟨s.heap.objs.size,_,_,_,_,_,_,rfl,W1,?_,fun b hb=>?_,?_,CmpOf.ints_gt (Oe ps.toArray) (fun i v hv=>OY hv),fun v h' tk hv hk=>?_⟩)
 ·refine⟨⟨_,Mt _ rfl,rfl,rfl⟩,?_⟩
  obtain⟨o,e,r⟩:=hT
  exact⟨o,Mo _ e,r⟩
 ·show b < (s.heap.push _).objs.size
  have e:(s.heap.push { cls:=.type "tuple_iterator",data:=.fields #[.ref a,.int 0 0] }).objs.size=s.heap.objs.size + 1:=by simp[O4]
  rcases o_.mp hb with hb | hb
  ·rw[hb];simp[O4]
  rw[p_.mp hb]
  exact x_ hlt (by simp[O4])
 ·simp[M5];lia
 obtain⟨tv,rfl⟩:=OY hv
 obtain⟨b1,b2⟩:=argBest_gt (Oe ps.toArray) ((M5 ps.toArray).size - 1)
 have es:(M5 ps.toArray).size=ns.length:=by simp[M5,hlen]
 have hi:Sv (fun i j=>decide (Oe ps.toArray i > Oe ps.toArray j)) ((M5 ps.toArray).size - 1) < ns.length:=by rw[es]at b1 ⊢;lia
 obtain⟨f0,f1,f2,f3,f4,f5⟩:=I.vy (b:=s.heap.objs.size) (f_ _) (I.hok.fresh (f_ _))
 have kk:∀ b o,s.heap.get? b=some o->h'.get? b=some o:=fun b o e=>hk b o (fun z=>u_ (Mu e) (p_.mp z)) (Mo _ e)
 refine⟨.int _,H,I.kept (t':=tk) kk,⟨tv,rfl⟩,q _ ⟨?_,fun x hx=>?_⟩⟩
 ·rw[bZ e2 hi];exact IC hi
 obtain⟨j,hj,rfl⟩:=HX.mp hx
 have:=b2 j (by rw[es];lia)
 rw[bZ e2 hj]at this
 exact this
end
end L2
namespace ZS
open PySem PyProof.Rows
noncomputable def gal:Bool->Keyed->Array Keyed->Nat->Nat->Nat->StateT SortSt Sem (Option Nat):=sortPriv% PySem.Builtin.gallop
def mLo:Array Keyed->Array Keyed->StateT SortSt Sem (Array Keyed):=sortPriv% PySem.Builtin.mergeLo
def mHi:Array Keyed->Array Keyed->StateT SortSt Sem (Array Keyed):=sortPriv% PySem.Builtin.mergeHi
noncomputable def bey(lf:Bool)(ky:Mq)(ar:Array Mq)(b0 i:Nat):StateT Mx Sem (Option Bool):=do
 let xx <-M8 ar (b0 + i)
 if lf then lt' xx ky else return (<-lt' ky xx).map (!·)
noncomputable def eJ(lf:Bool)(ky:Mq)(ar:Array Mq)(b0 n l0 h0:Nat):StateT Mx Sem (Option Nat):=do
 let mut l:=l0
 let mut h:=h0
 for _ in [0:n]do
  if l>=h then break
  let m:=l + (h - l) / 2
  let some mo <-bey lf ky ar b0 m | return none
  if mo then l:=m + 1 else h:=m
 return some h
noncomputable def C5(lf:Bool)(ky:Mq)(ar:Array Mq)(b0 n h0:Nat):StateT Mx Sem (Option Nat):=do
 let mut la:=0
 let mut of:=1
 for _ in [0:n]do
  if of>=n - h0 then break
  let some mo <-bey lf ky ar b0 (h0 + of) | return none
  if !mo then break
  la:=of
  of:=2 * of + 1
 eJ lf ky ar b0 n (h0 + la + 1) (h0 + min of (n - h0))
noncomputable def tN(lf:Bool)(ky:Mq)(ar:Array Mq)(b0 n h0:Nat):StateT Mx Sem (Option Nat):=do
 let mut la:=0
 let mut of:=1
 for _ in [0:n]do
  if of>=h0 + 1 then break
  let some fo <-bey lf ky ar b0 (h0 - of) | return none
  if fo then break
  la:=of
  of:=2 * of + 1
 eJ lf ky ar b0 n (h0 + 1 - min of (h0 + 1)) (h0 - la)
theorem Cn(lf:Bool)(ky:Mq)(ar:Array Mq)(b0 n h0:Nat):gal lf ky ar b0 n h0=(do
 let some rt <-bey lf ky ar b0 h0 | return none
 if rt then C5 lf ky ar b0 n h0 else tN lf ky ar b0 n h0):=rfl
section
variable{M:Om}{A:MJ}{E:Mj->Mm->Prop}{s:Mm}
theorem DJ{lf:Bool}{ky:Mq}{ar:Array Mq}{b0 n h0:Nat}{st:Mx}{Q:Option Nat->Mx->Prop}{bd:Nat->Bool}(hh:h0 < n)(hb:∀(i:Nat) (R:Option Bool->Mx->Prop),i < n->R (some (bd i)) st->wpS M A E s (bey lf ky ar b0 i) R st)
  (mono:∀ i j,i<=j->j < n->bd j=true->bd i=true) (h:∀ k,k<=n->(∀ i,i < k->bd i=true)->(∀ i,k<=i->i < n->bd i=false)->Q (some k) st):wpS M A E s (gal lf ky ar b0 n h0) Q st:=by
 rw[Cn]
 have last:∀(l hi:Nat),l<=hi->hi<=n->(∀ i,i < l->bd i=true)->(∀ i,hi<=i->i < n->bd i=false)->wpS M A E s (eJ lf ky ar b0 n l hi) Q st:=fun l hi h1 h2 h3 h4=>by
  unfold eJ
  dsimp only
  refine Mv (M7 (I:=fun x c st'=>st'=st/\∃ l hi,c=(none,l,hi)/\l<=hi/\hi<=n/\hi - l<=n - x/\(∀ i,i < l->bd i=true)/\(∀ i,hi<=i->i < n->bd i=false)) ?_ ?_ ⟨rfl,l,hi,rfl,h1,h2,by lia,h3,h4⟩)
  ·rintro x c st' _ hx ⟨rfl,l,hi,rfl,g1,g2,g3,g4,g5⟩
   dsimp only
   by_cases z:l>=hi
   ·rw[if_pos z]
    have e:l=hi:=by lia
    subst e
    exact Mz (Mz (h l g2 g4 g5))
   rw[if_neg z]
   have m1:l<=l + (hi - l) / 2:=KW ..
   have m2:l + (hi - l) / 2 < hi:=by omega
   generalize l + (hi - l) / 2=m at m1 m2 ⊢
   have m3:=x_ m2 g2
   refine Mv (hb _ _ m3 ?_)
   dsimp only
   cases e:bd m with
   | true=>
    simp only[if_true]
    exact Mz ⟨rfl,_,_,rfl,m2,g2,by lia,fun i hi'=>mono i _ (J4 hi') m3 e,g5⟩
   | false=>
    simp only[HY,if_false]
    refine Mz ⟨rfl,_,_,rfl,m1,HN m3,by lia,g4,fun i h1 h2=>?_⟩
    cases e2:bd i with
    | false=>rfl
    | true=>rw[mono _ i h1 h2 e2]at e;cases e
  rintro c st' ⟨rfl,l,hi,rfl,g1,g2,g3,g4,g5⟩
  have e:l=hi:=by lia
  subst e
  exact Mz (h l g2 g4 g5)
 have up:∀ la of,la < of->h0 + la < n->bd (h0 + la)=true->(n - h0<=of\/bd (h0 + of)=false)->wpS M A E s (eJ lf ky ar b0 n (h0 + la + 1) (h0 + min of (n - h0))) Q st:=fun la of g1 g3 g4 g5=>by
  have k1:h0 + min of (n - h0)<=n:=by lia
  refine last _ _ (by lia) k1 (fun i hi=>mono i _ (J4 hi) g3 g4) (fun i h1 h2=>?_)
  rcases g5 with g5 | g5
  ·rw[J_ g5]at h1
   lia
  cases e2:bd i with
  | false=>rfl
  | true=>rw[mono (h0 + of) i (by lia) h2 e2]at g5;cases g5
 have dwn:∀ la of,la < of->la<=h0->bd (h0 - la)=false->(h0 + 1<=of\/of<=h0/\bd (h0 - of)=true)->wpS M A E s (eJ lf ky ar b0 n (h0 + 1 - min of (h0 + 1)) (h0 - la)) Q st:=fun la of g1 g3 g4 g5=>by
  refine last _ _ (by omega) (v_ (IT ..) (HN hh)) (fun i hi=>?_) (fun i h1 h2=>?_)
  ·rcases g5 with g5 | ⟨g5,g6⟩
   ·rw[J_ g5,JA]at hi
    exact absurd hi (Nat.not_lt_zero _)
   rw[Kg (Nat.le_succ_of_le g5)]at hi
   exact mono i _ (by lia) (Ij (IT ..) hh) g6
  cases e2:bd i with
  | false=>rfl
  | true=>rw[mono (h0 - la) i h1 h2 e2]at g4;cases g4
 refine Mv (hb _ _ hh ?_)
 dsimp only
 cases e0:bd h0 with
 | true=>
  simp only[if_true]
  unfold C5
  dsimp only
  refine Mv (M7 (I:=fun x c st'=>st'=st/\∃ la of,c=(none,la,of)/\la < of/\x + 1<=of/\h0 + la < n/\bd (h0 + la)=true) ?_ ?_ ⟨rfl,0,1,rfl,Jt,f_ _,hh,e0⟩)
  ·rintro x c st' _ hx ⟨rfl,la,of,rfl,g1,g2,g3,g4⟩
   dsimp only
   by_cases z:of>=n - h0
   ·rw[if_pos z]
    exact Mz (up la of g1 g3 g4 (.inl z))
   rw[if_neg z]
   refine Mv (hb _ _ (by lia) ?_)
   dsimp only
   cases e:bd (h0 + of)with
   | false=>
    simp only[Lf,if_true]
    exact Mz (up la of g1 g3 g4 (.inr e))
   | true=>
    simp only[Ll,HY,if_false]
    exact Mz ⟨rfl,_,_,rfl,by lia,by lia,by lia,e⟩
  ·rintro c st' ⟨rfl,la,of,rfl,g1,g2,g3,g4⟩
   exact up la of g1 g3 g4 (.inl (by lia))
 | false=>
  simp only[HY,if_false]
  unfold tN
  dsimp only
  refine Mv (M7 (I:=fun x c st'=>st'=st/\∃ la of,c=(none,la,of)/\la < of/\x + 1<=of/\la<=h0/\bd (h0 - la)=false) ?_ ?_ ⟨rfl,0,1,rfl,Jt,f_ _,F' _,e0⟩)
  ·rintro x c st' _ hx ⟨rfl,la,of,rfl,g1,g2,g3,g4⟩
   dsimp only
   by_cases z:of>=h0 + 1
   ·rw[if_pos z]
    exact Mz (dwn la of g1 g3 g4 (.inl z))
   rw[if_neg z]
   have z:=Nat.lt_succ_iff.mp (KY z)
   refine Mv (hb _ _ (Ij (IT ..) hh) ?_)
   dsimp only
   cases e:bd (h0 - of)with
   | true=>
    simp only[if_true]
    exact Mz (dwn la of g1 g3 g4 (.inr ⟨z,e⟩))
   | false=>
    simp only[HY,if_false]
    exact Mz ⟨rfl,_,_,rfl,by lia,by lia,z,e⟩
  rintro c st' ⟨rfl,la,of,rfl,g1,g2,g3,g4⟩
  exact dwn la of g1 g3 g4 (.inl (by lia))
end
def setG(g:Nat):StateT Mx Sem Unit:=modify fun s=>NF (kindOf s) (Ms s) (MF s) g (M1 s)
def dn(a b out:Array Mq)(i j:Nat):Array Mq:=out++a.extract i a.size++b.extract j b.size
def eQ(a b out:Array Mq)(i j:Nat):Array Mq:=out++b.extract j b.size++a.extract i a.size
theorem Eo(a b:Array Mq):mLo a b=(do
 rule "list.sort.merge-lo"
 let mut out:Array Mq:=#[<-M8 b 0]
 let mut i:=0
 let mut j:=1
 if j == b.size then return dn a b out i j
 if i + 1 == a.size then return eQ a b out i j
 let mut mg:=Qc (<-get)
 for _ in [0:a.size + b.size]do
  let mut ca:=0
  let mut cb:=0
  for _ in [0:a.size + b.size]do
   let some bw <-lt' (<-M8 b j) (<-M8 a i) | return dn a b out i j
   if bw then
    out:=out.push (<-M8 b j);j:=j + 1;cb:=cb + 1;ca:=0
    if j == b.size then return dn a b out i j
    if cb>=mg then break
   else
    out:=out.push (<-M8 a i);i:=i + 1;ca:=ca + 1;cb:=0
    if i + 1 == a.size then return eQ a b out i j
    if ca>=mg then break
  rule "list.sort.gallop"
  mg:=mg + 1
  for _ in [0:a.size + b.size]do
   if mg > 1 then mg:=mg - 1
   setG mg
   let some k <-gal false (<-M8 b j) a i (a.size - i) 0 | return dn a b out i j
   ca:=k
   if k > 0 then
    out:=out++a.extract i (i + k);i:=i + k
    if i + 1 == a.size then return eQ a b out i j
    if i == a.size then return dn a b out i j
   out:=out.push (<-M8 b j);j:=j + 1
   if j == b.size then return dn a b out i j
   let some k <-gal true (<-M8 a i) b j (b.size - j) 0 | return dn a b out i j
   cb:=k
   if k > 0 then
    out:=out++b.extract j (j + k);j:=j + k
    if j == b.size then return dn a b out i j
   out:=out.push (<-M8 a i);i:=i + 1
   if i + 1 == a.size then return eQ a b out i j
   if ca < 7 && cb < 7 then break
  mg:=mg + 1
  setG mg
 unsupported "internal:list.sort.merge-bound"):=rfl
abbrev GS:=Option (Array Mq) × Array Mq × Nat × Nat × Nat × Nat × Nat
abbrev FS:=Option (Array Mq) × Array Mq × Nat × Nat × Nat × Nat
abbrev OS:=Option (Array Mq) × Array Mq × Nat × Nat × Nat
noncomputable def g3(a b out:Array Mq)(i j mg ca cb:Nat):StateT Mx Sem (ForInStep GS):=do
 let y <-M8 a i
 if(i + 1 + 1 == a.size)=true then pure (My (some (eQ a b (out.push y) (i + 1) j),out.push y,i + 1,j,mg,ca,cb))
 else if(decide (ca < 7) && decide (cb < 7))=true then pure (My (none,out.push y,i + 1,j,mg,ca,cb))
 else pure (MG (none,out.push y,i + 1,j,mg,ca,cb))
noncomputable def g2(a b out:Array Mq)(i j mg ca cb:Nat):StateT Mx Sem (ForInStep GS):=do
 let y <-M8 b j
 if(j + 1 == b.size)=true then pure (My (some (dn a b (out.push y) i (j + 1)),out.push y,i,j + 1,mg,ca,cb))
 else do
  let z <-M8 a i
  let some k <-gal true z b (j + 1) (b.size - (j + 1)) 0 | pure (My (some (dn a b (out.push y) i (j + 1)),out.push y,i,j + 1,mg,ca,cb))
  if k > 0 then
    if(j + 1 + k == b.size)=true then pure (My (some (dn a b (out.push y++b.extract (j + 1) (j + 1 + k)) i (j + 1 + k)),out.push y++b.extract (j + 1) (j + 1 + k),i,j + 1 + k,mg,ca,k))
    else g3 a b (out.push y++b.extract (j + 1) (j + 1 + k)) i (j + 1 + k) mg ca k
  else g3 a b (out.push y) i (j + 1) mg ca k
noncomputable def g1(a b out:Array Mq)(i j mg ca cb:Nat):StateT Mx Sem (ForInStep GS):=do
 setG mg
 let y <-M8 b j
 let some k <-gal false y a i (a.size - i) 0 | pure (My (some (dn a b out i j),out,i,j,mg,ca,cb))
 if k > 0 then
   if(i + k + 1 == a.size)=true then pure (My (some (eQ a b (out++a.extract i (i + k)) (i + k) j),out++a.extract i (i + k),i + k,j,mg,k,cb))
   else if(i + k == a.size)=true then pure (My (some (dn a b (out++a.extract i (i + k)) (i + k) j),out++a.extract i (i + k),i + k,j,mg,k,cb))
   else g2 a b (out++a.extract i (i + k)) (i + k) j mg k cb
 else g2 a b out i j mg k cb
noncomputable def f1(a b out:Array Mq)(i j ca cb mg:Nat):StateT Mx Sem (ForInStep FS):=do
 let y <-M8 b j
 let z <-M8 a i
 let some bw <-lt' y z | pure (My (some (dn a b out i j),out,i,j,ca,cb))
 if bw=true then do
   let y <-M8 b j
   if(j + 1 == b.size)=true then pure (My (some (dn a b (out.push y) i (j + 1)),out.push y,i,j + 1,0,cb + 1))
   else if cb + 1>=mg then pure (My (none,out.push y,i,j + 1,0,cb + 1))else pure (MG (none,out.push y,i,j + 1,0,cb + 1))
 else do
   let z <-M8 a i
   if(i + 1 + 1 == a.size)=true then pure (My (some (eQ a b (out.push z) (i + 1) j),out.push z,i + 1,j,ca + 1,0))
   else if ca + 1>=mg then pure (My (none,out.push z,i + 1,j,ca + 1,0))else pure (MG (none,out.push z,i + 1,j,ca + 1,0))
noncomputable def oLo(a b:Array Mq)(c:OS):StateT Mx Sem (ForInStep OS):=do
 let r <-forIn [0:a.size + b.size] ((none,c.2.1,c.2.2.1,c.2.2.2.1,0,0):FS) fun _ d=>f1 a b d.2.1 d.2.2.1 d.2.2.2.1 d.2.2.2.2.1 d.2.2.2.2.2 c.2.2.2.2
 match r.1 with
 | some q=>pure (My (some q,r.2.1,r.2.2.1,r.2.2.2.1,c.2.2.2.2))
 | none=>do
  liftM (rule "list.sort.gallop")
  let e <-forIn [0:a.size + b.size] ((none,r.2.1,r.2.2.1,r.2.2.2.1,c.2.2.2.2 + 1,r.2.2.2.2.1,r.2.2.2.2.2):GS) fun _ d=>
   if d.2.2.2.2.1 > 1 then g1 a b d.2.1 d.2.2.1 d.2.2.2.1 (d.2.2.2.2.1 - 1) d.2.2.2.2.2.1 d.2.2.2.2.2.2 else g1 a b d.2.1 d.2.2.1 d.2.2.2.1 d.2.2.2.2.1 d.2.2.2.2.2.1 d.2.2.2.2.2.2
  match e.1 with
  | some q=>pure (My (some q,e.2.1,e.2.2.1,e.2.2.2.1,e.2.2.2.2.1))
  | none=>do
   setG (e.2.2.2.2.1 + 1)
   pure (MG (none,e.2.1,e.2.2.1,e.2.2.2.1,e.2.2.2.2.1 + 1))
set_option maxHeartbeats 2000000 in
theorem zS(a b:Array Mq):mLo a b=(do
  liftM (rule "list.sort.merge-lo")
  let y <-M8 b 0
  if(1 == b.size)=true then pure (dn a b #[y] 0 1)
  else if(0 + 1 == a.size)=true then pure (eQ a b #[y] 0 1)
  else do
   let st <-get
   let r <-forIn [0:a.size + b.size] ((none,#[y],0,1,Qc st):OS) fun _ c=>oLo a b c
   match r.1 with
   | some q=>pure q
   | none=>liftM (unsupported "internal:list.sort.merge-bound":Sem (Array Mq))):=by
 rw[Eo]
 unfold oLo
 refine congrArg (bind _) (funext fun _=>?_)
 refine congrArg (bind _) (funext fun y=>?_)
 refine ite_congr rfl (fun _=>rfl) (fun _=>?_)
 refine ite_congr rfl (fun _=>rfl) (fun _=>?_)
 refine congrArg (bind _) (funext fun st=>?_)
 refine congr (congrArg bind (congrArg (forIn _ _) (funext fun _=>funext fun c=>?_))) ?_
 ·refine congr (congrArg bind (congrArg (forIn _ _) (funext fun _=>funext fun d=>?_))) ?_
  ·unfold f1
   rfl
  funext r
  obtain⟨r1,r2⟩:=r
  cases r1 with
  | some q=>rfl
  | none=>
   refine congrArg (bind _) (funext fun _=>?_)
   refine congr (congrArg bind (congrArg (forIn _ _) (funext fun _=>funext fun d=>?_))) ?_
   ·
    unfold g1
    refine ite_congr rfl (fun _=>?_) (fun _=>?_)
    all_goals
     refine congrArg (bind _) (funext fun _=>?_)
     refine congrArg (bind _) (funext fun y=>?_)
     refine congrArg (bind _) (funext fun r=>?_)
     cases r with
     | none=>rfl
     | some k=>
      refine ite_congr rfl (fun _=>?_) (fun _=>?_)
      ·refine ite_congr rfl (fun _=>rfl) (fun _=>?_)
       refine ite_congr rfl (fun _=>rfl) (fun _=>?_)
       unfold g2
       rfl
      unfold g2
      rfl
   funext e;obtain⟨e1,e2⟩:=e;cases e1 <;> rfl
 funext e;obtain⟨e1,e2⟩:=e;cases e1 <;> rfl
noncomputable def bV(M:Om)(A:MJ)(E:Mj->Mm->Prop)(s:Mm)(kd:Ng)(rk:Mq->Nat)(S:Mq->Prop):Prop:=
 ∀(x y:Mq) (st:Mx) (Q:Option Bool->Mx->Prop),S x->S y->kindOf st=kd->Q (some (decide (rk x < rk y))) st->wpS M A E s (lt' x y) Q st
structure Keep (st st':Mx):Prop where
 k:kindOf st'=kindOf st
 a:Ms st'=Ms st
 p:MF st'=MF st
 f:M1 st'=M1 st
theorem Keep.bD {st:Mx}:Keep st st:=⟨rfl,rfl,rfl,rfl⟩
theorem Keep.g {st st':Mx}(h:Keep st st')(g:Nat):Keep st (NF (kindOf st') (Ms st') (MF st') g (M1 st')):=⟨h.k,h.a,h.p,h.f⟩
section
variable{rk:Mq->Nat}
abbrev Srt(rk:Mq->Nat)(l:List Mq):Prop:=l.Pairwise fun x y=>rk x<=rk y
structure MS (rk:Mq->Nat) (a b out:List Mq) (i j:Nat):Prop where
 perm:out.Perm (a.take i++b.take j)
 srt:Srt rk out
 le:∀ x∈out,(∀ y∈a.drop i,rk x<=rk y)/\∀ y∈b.drop j,rk x<=rk y
def Res(rk:Mq->Nat)(a b r:List Mq):Prop:=r.Perm (a++b)/\Srt rk r
theorem MS.nu {a b out:List Mq}{i j k:Nat}(h:MS rk a b out i j)(sa:Srt rk a)(hc:∀ y∈(a.drop i).take k,∀ z∈b.drop j,rk y<=rk z):MS rk a b (out++(a.drop i).take k) (i + k) j:=by
 have sd:Srt rk (a.drop i):=Ig (Jz _ _) sa
 have split:a.drop i=(a.drop i).take k++a.drop (i + k):=by rw[<-JY];exact(G' k (a.drop i)).symm
 refine⟨?_,?_,fun x hx=>?_⟩
 ·rw[KI]
  refine(h.perm.append_right _).trans ?_
  rw[l_,l_]
  exact Ih _ IB
 ·refine C_.mpr ⟨h.srt,Ig (Jx _ _) sd,fun x hx y hy=>(h.le x hx).1 y (Iq hy)⟩
 rcases z_.mp hx with hx | hx
 ·refine⟨fun y hy=>(h.le x hx).1 y ?_,(h.le x hx).2⟩
  rw[split]
  exact n_ _ hy
 refine⟨fun y hy=>?_,hc x hx⟩
 rw[split]at sd
 exact(C_.mp sd).2.2 x hx y hy
theorem MS.mY {a b out:List Mq}{i j k:Nat}(h:MS rk a b out i j)(sb:Srt rk b)(hc:∀ y∈(b.drop j).take k,∀ z∈a.drop i,rk y<=rk z):MS rk a b (out++(b.drop j).take k) i (j + k):=by
 have sd:Srt rk (b.drop j):=Ig (Jz _ _) sb
 have split:b.drop j=(b.drop j).take k++b.drop (j + k):=by rw[<-JY];exact(G' k (b.drop j)).symm
 refine⟨?_,?_,fun x hx=>?_⟩
 ·rw[KI,<-l_]
  exact h.perm.append_right _
 ·refine C_.mpr ⟨h.srt,Ig (Jx _ _) sd,fun x hx y hy=>(h.le x hx).2 y (Iq hy)⟩
 rcases z_.mp hx with hx | hx
 ·refine⟨(h.le x hx).1,fun y hy=>(h.le x hx).2 y ?_⟩
  rw[split]
  exact n_ _ hy
 refine⟨hc x hx,fun y hy=>?_⟩
 rw[split]at sd
 exact(C_.mp sd).2.2 x hx y hy
theorem MS.all {a b out:List Mq}{i j:Nat}(h:MS rk a b out i j)(h1:a.length<=i)(h2:b.length<=j):Res rk a b out:=by
 have:=h.perm
 rw[Ie h1,Ie h2]at this
 exact⟨this,h.srt⟩
theorem fN{l:List Mq}(i:Nat):(l.drop i).take l.length=l.drop i:=Ie (by rw[HL];lia)
theorem MS.done {a b out:List Mq}{i j:Nat}(h:MS rk a b out i j)(sa:Srt rk a)(sb:Srt rk b)(e:a.length<=i\/b.length<=j):Res rk a b (out++a.drop i++b.drop j):=by
 have h1:=h.nu (k:=a.length) sa fun y hy z hz=>by
  rcases e with e | e
  ·rw[II e]at hy;simp at hy
  rw[II e]at hz;simp at hz
 have h2:=h1.mY (k:=b.length) sb fun y hy z hz=>by
  rw[II (by lia)]at hz;simp at hz
 rw[fN,fN]at h2
 exact h2.all (by lia) (by lia)
theorem MS.last {a b out:List Mq}{i j:Nat}(h:MS rk a b out i j)(sa:Srt rk a)(sb:Srt rk b)(e:∀ y∈b.drop j,∀ z∈a.drop i,rk y<=rk z):Res rk a b (out++b.drop j++a.drop i):=by
 have h1:=h.mY (k:=b.length) sb fun y hy z hz=>e y (Iq hy) z hz
 have h2:=h1.nu (k:=a.length) sa fun y hy z hz=>by
  rw[II (by lia)]at hz;simp at hz
 rw[fN,fN]at h2
 exact h2.all (by lia) (by lia)
theorem j8(a:Array Mq)(i:Nat):(a.extract i a.size).toList=a.toList.drop i:=by
 rw[JI,Jh]
 exact Ie (by rw[HL,g_];exact f_ _)
theorem fI(a:Array Mq)(i k:Nat):(a.extract i (i + k)).toList=(a.toList.drop i).take k:=by
 rw[JI,Jh,JZ]
theorem drop_one{l:List Mq}{i:Nat}{y:Mq}(h:l[i]?=some y):(l.drop i).take 1=[y]:=by
 obtain⟨hl,e⟩:=gV.mp h
 rw[JQ hl,List.take_succ_cons,List.take_zero,e]
theorem oQ{l:List Mq}{i:Nat}{y:Mq}(h:l[i]?=some y)(s:Srt rk l):∀ z∈l.drop i,rk y<=rk z:=by
 obtain⟨hl,e⟩:=gV.mp h
 intro z hz
 have sd:Srt rk (l.drop i):=Ig (Jz _ _) s
 rw[JQ hl,e]at sd hz
 rcases o_.mp hz with rfl | hz
 ·exact f_ _
 exact(Ip.mp sd).1 z hz
theorem jR{l:List Mq}(s:Srt rk l){i j:Nat}{x y:Mq}(hij:i<=j)(hx:l[i]?=some x)(hy:l[j]?=some y):rk x<=rk y:=by
 refine oQ hx s y ?_
 rw[JB]
 exact⟨j - i,by rw[Jb,show i + (j - i)=j by lia];exact hy⟩
theorem cn{l:List Mq}{i k:Nat}{y:Mq}(h:y∈(l.drop i).take k):∃ j,j < k/\l[i + j]?=some y:=by
 obtain⟨j,hj⟩:=JB.mp h
 rw[Jq]at hj
 split at hj
 ·next hlt=>exact⟨j,hlt,by rw[Jb]at hj;exact hj⟩
 cases hj
theorem eG{l:List Mq}{i:Nat}{y:Mq}(h:y∈l.drop i):∃ j,l[i + j]?=some y:=by
 obtain⟨j,hj⟩:=JB.mp h
 exact⟨j,by rw[Jb]at hj;exact hj⟩
end
section
variable{M:Om}{A:MJ}{E:Mj->Mm->Prop}{s:Mm}{kd:Ng}{rk:Mq->Nat}{S:Mq->Prop}
theorem aP{ar:Array Mq}{i:Nat}{p:Mq}{st:Mx}{Q:Mq->Mx->Prop}(h:ar[i]?=some p)(q:Q p st):wpS M A E s (M8 ar i) Q st:=by
 rw[elem'_eq,h]
 exact Mz q
theorem Dy{lf:Bool}{ky p:Mq}{ar:Array Mq}{b0 i:Nat}{st:Mx}{Q:Option Bool->Mx->Prop}(L:bV M A E s kd rk S)(hk:kindOf st=kd)(hp:ar[b0 + i]?=some p)(Sp:S p)(Sk:S ky)
  (q:Q (some (if lf=true then decide (rk p < rk ky)else !decide (rk ky < rk p))) st):wpS M A E s (bey lf ky ar b0 i) Q st:=by
 unfold bey
 refine Mv (aP hp ?_)
 cases lf with
 | true=>exact L p ky st _ Sp Sk hk q
 | false=>exact Mv (L ky p st _ Sk Sp hk (Mz q))
theorem eA{lf:Bool}{ky:Mq}{ar:Array Mq}{b0 n h0:Nat}{st:Mx}{Q:Option Nat->Mx->Prop}(L:bV M A E s kd rk S)(hk:kindOf st=kd)(hh:h0 < n)(hsz:b0 + n<=ar.size)(Sa:∀(i:Nat) p,ar[i]?=some p->S p)(Sk:S ky)
  (srt:∀(i j:Nat) p q,i<=j->j < n->ar[b0 + i]?=some p->ar[b0 + j]?=some q->rk p<=rk q)
  (h:∀ k,k<=n->(∀(i:Nat) p,i < k->ar[b0 + i]?=some p->if lf=true then rk p < rk ky else rk p<=rk ky)->(∀(i:Nat) p,k<=i->i < n->ar[b0 + i]?=some p->if lf=true then rk ky<=rk p else rk ky < rk p)->Q (some k) st) :
  wpS M A E s (gal lf ky ar b0 n h0) Q st:=by
 have get:∀ i,i < n->ar[b0 + i]?=some (ar.getD (b0 + i) (MV,MV)):=fun i hi=>by
  rw[Jc,i_ (by lia)]
  rfl
 refine DJ (bd:=fun i=>if lf=true then decide (rk (ar.getD (b0 + i) (MV,MV)) < rk ky)else !decide (rk ky < rk (ar.getD (b0 + i) (MV,MV)))) hh (fun i R hi r=>Dy L hk (get i hi) (Sa _ _ (get i hi)) Sk r) ?_ ?_
 ·intro i j hij hj hb
  have:=srt i j _ _ hij hj (get i (by lia)) (get j hj)
  cases lf with
  | true=>
   simp only[if_true,decide_eq_true_eq]at hb ⊢
   lia
  | false=>
   simp only[HY,if_false,Bool.not_eq_true',decide_eq_false_iff_not]at hb ⊢
   lia
 intro k hk' h1 h2
 refine h k hk' (fun i p hi hp=>?_) (fun i p h3 h4 hp=>?_)
 ·have e:=get i (by lia)
  rw[hp]at e
  cases e
  have:=h1 i hi
  cases lf with
  | true=>simpa using this
  | false=>simpa using this
 have e:=get i h4
 rw[hp]at e
 cases e
 have:=h2 i h3 h4
 cases lf with
 | true=>simpa using this
 | false=>simpa using this
theorem j5{g:Nat}{st:Mx}{Q:Unit->Mx->Prop}(q:Q () (NF (kindOf st) (Ms st) (MF st) g (M1 st))):wpS M A E s (setG g) Q st:=Pa q
end
section
variable{M:Om}{A:MJ}{E:Mj->Mm->Prop}{s:Mm}{kd:Ng}{rk:Mq->Nat}{S:Mq->Prop}{a b:Array Mq}
structure LoOk (rk:Mq->Nat) (S:Mq->Prop) (a b:Array Mq):Prop where
 sa:Srt rk a.toList
 sb:Srt rk b.toList
 Sa:∀(i:Nat) p,a[i]?=some p->S p
 Sb:∀(i:Nat) p,b[i]?=some p->S p
 pa:0 < a.size
 pb:0 < b.size
 first:∀ p,b[0]?=some p->∀ z∈a.toList,rk p<=rk z
 last:∀ p,a[a.size - 1]?=some p->∀ z∈b.toList,rk z<=rk p
theorem LoOk.jd (h:LoOk rk S a b){out:Array Mq}{i j:Nat}(m:MS rk a.toList b.toList out.toList i j)(e:i + 1=a.size):Res rk a.toList b.toList (eQ a b out i j).toList:=by
 unfold eQ
 rw[HS,HS,j8,j8]
 refine m.last h.sa h.sb fun y hy z hz=>?_
 obtain⟨k,hk⟩:=eG hz
 have hk':i + k < a.toList.length:=(gV.mp hk).1
 rw[g_]at hk'
 have k0:k=0:=by lia
 subst k0
 refine h.last z ?_ y (JH hy)
 rw[<-e_,show a.size - 1=i + 0 by lia]
 exact hk
theorem LoOk.gc (h:LoOk rk S a b){out:Array Mq}{i j:Nat}(m:MS rk a.toList b.toList out.toList i j)(e:a.size<=i\/b.size<=j):Res rk a.toList b.toList (dn a b out i j).toList:=by
 unfold dn
 rw[HS,HS,j8,j8]
 exact m.done h.sa h.sb (by rw[g_,g_];exact e)
structure LI (rk:Mq->Nat) (a b out:Array Mq) (i j:Nat):Prop where
 m:MS rk a.toList b.toList out.toList i j
 i:i + 1 < a.size
 j:j < b.size
theorem MS.i9 {out:Array Mq}{i j:Nat}(m:MS rk a.toList b.toList out.toList i j)(H:LoOk rk S a b){y:Mq}(hy:b[j]?=some y)(hc:∀ z∈a.toList.drop i,rk y<=rk z):MS rk a.toList b.toList (out.push y).toList i (j + 1):=by
 have hy':b.toList[j]?=some y:=by rw[e_];exact hy
 have:=m.mY (k:=1) H.sb (by rw[drop_one hy'];intro w hw;rw[p_.mp hw];exact hc)
 rw[drop_one hy']at this
 rw[IU]
 exact this
theorem MS.gQ {out:Array Mq}{i j:Nat}(m:MS rk a.toList b.toList out.toList i j)(H:LoOk rk S a b){y:Mq}(hy:a[i]?=some y)(hc:∀ z∈b.toList.drop j,rk y<=rk z):MS rk a.toList b.toList (out.push y).toList (i + 1) j:=by
 have hy':a.toList[i]?=some y:=by rw[e_];exact hy
 have:=m.nu (k:=1) H.sa (by rw[drop_one hy'];intro w hw;rw[p_.mp hw];exact hc)
 rw[drop_one hy']at this
 rw[IU]
 exact this
theorem fR{l:Array Mq}{i:Nat}{y:Mq}(srt:Srt rk l.toList)(hy:l[i]?=some y):∀ z∈l.toList.drop i,rk y<=rk z:=oQ (by rw[e_];exact hy) srt
noncomputable def dq(rk:Mq->Nat)(a b:Array Mq)(lo:Nat)(st:Mx)(r:Option (Array Mq))(out:Array Mq)(i j:Nat)(st':Mx):Prop:=
 Keep st st'/\match r with
 | some q=>Res rk a.toList b.toList q.toList
 | none=>LI rk a b out i j/\lo < i + j
theorem F7{out:Array Mq}{i j ca cb mg:Nat}{st st':Mx}{Q:ForInStep FS->Mx->Prop}(L:bV M A E s kd rk S)(H:LoOk rk S a b)(hk:kindOf st=kd)(K:Keep st st')(I:LI rk a b out i j)
  (h:∀(d:Bool) (c:FS),dq rk a b (i + j) st c.1 c.2.1 c.2.2.1 c.2.2.2.1 st'->(d=false->c.1=none)->Q (if d=true then My c else MG c) st'):wpS M A E s (f1 a b out i j ca cb mg) Q st':=by
 have hi:i < a.size:=by have:=I.i;lia
 obtain⟨y,hy⟩:∃ y,b[j]?=some y:=⟨_,i_ I.j⟩
 obtain⟨z,hz⟩:∃ z,a[i]?=some z:=⟨_,i_ hi⟩
 unfold f1
 refine Mv (aP hy (Mv (aP hz (Mv (L y z st' _ (H.Sb _ _ hy) (H.Sa _ _ hz) (K.k.trans hk) ?_)))))
 dsimp only
 by_cases w:rk y < rk z
 ·rw[decide_eq_true w,if_pos rfl]
  have m:=I.m.i9 H hy fun u hu=>v_ (HN w) (fR H.sa hz u hu)
  refine Mv (aP hy ?_)
  by_cases e:j + 1=b.size
  ·rw[if_pos (by rw[e];exact beq_self_eq_true _)]
   exact Mz (h true _ ⟨K,H.gc m (.inr (by lia))⟩ (fun z=>nomatch z))
  rw[if_neg (by simpa using e)]
  have I2:LI rk a b (out.push y) i (j + 1):=⟨m,I.i,by have:=I.j;lia⟩
  split
  ·exact Mz (h true _ ⟨K,I2,by dsimp only;lia⟩ (fun z=>nomatch z))
  exact Mz (h false _ ⟨K,I2,by dsimp only;lia⟩ (fun _=>rfl))
 rw[decide_eq_false w,if_neg (by simp)]
 have m:=I.m.gQ H hz fun u hu=>v_ (by lia) (fR H.sb hy u hu)
 refine Mv (aP hz ?_)
 by_cases e:i + 1 + 1=a.size
 ·rw[if_pos (by rw[e];exact beq_self_eq_true _)]
  exact Mz (h true _ ⟨K,H.jd m e⟩ (fun z=>nomatch z))
 rw[if_neg (by simpa using e)]
 have I2:LI rk a b (out.push z) (i + 1) j:=⟨m,by have:=I.i;lia,I.j⟩
 split
 ·exact Mz (h true _ ⟨K,I2,by dsimp only;lia⟩ (fun z=>nomatch z))
 exact Mz (h false _ ⟨K,I2,by dsimp only;lia⟩ (fun _=>rfl))
theorem BI{out:Array Mq}{i j mg ca cb lo:Nat}{st st':Mx}{Q:ForInStep GS->Mx->Prop}(H:LoOk rk S a b)(K:Keep st st')(I:LI rk a b out i j)(hc:∀ z,a[i]?=some z->∀ u∈b.toList.drop j,rk z<=rk u)(hl:lo<=i + j)
  (h:∀(d:Bool) (c:GS),dq rk a b lo st c.1 c.2.1 c.2.2.1 c.2.2.2.1 st'->(d=false->c.1=none)->Q (if d=true then My c else MG c) st'):wpS M A E s (g3 a b out i j mg ca cb) Q st':=by
 have hi:i < a.size:=by have:=I.i;lia
 obtain⟨z,hz⟩:∃ z,a[i]?=some z:=⟨_,i_ hi⟩
 unfold g3
 have m:=I.m.gQ H hz (hc z hz)
 refine Mv (aP hz ?_)
 by_cases e:i + 1 + 1=a.size
 ·rw[if_pos (by rw[e];exact beq_self_eq_true _)]
  exact Mz (h true _ ⟨K,H.jd m e⟩ (fun z=>nomatch z))
 rw[if_neg (by simpa using e)]
 have I2:LI rk a b (out.push z) (i + 1) j:=⟨m,by have:=I.i;lia,I.j⟩
 split
 ·exact Mz (h true _ ⟨K,I2,by dsimp only;lia⟩ (fun z=>nomatch z))
 exact Mz (h false _ ⟨K,I2,by dsimp only;lia⟩ (fun _=>rfl))
theorem C0{out:Array Mq}{i j mg ca cb lo:Nat}{st st':Mx}{Q:ForInStep GS->Mx->Prop}(L:bV M A E s kd rk S)(H:LoOk rk S a b)(hk:kindOf st=kd)(K:Keep st st')(I:LI rk a b out i j)(hc:∀ y,b[j]?=some y->∀ u∈a.toList.drop i,rk y<=rk u)(hl:lo<=i + j)
  (h:∀(d:Bool) (c:GS),dq rk a b lo st c.1 c.2.1 c.2.2.1 c.2.2.2.1 st'->(d=false->c.1=none)->Q (if d=true then My c else MG c) st'):wpS M A E s (g2 a b out i j mg ca cb) Q st':=by
 have hi:i < a.size:=by have:=I.i;lia
 obtain⟨y,hy⟩:∃ y,b[j]?=some y:=⟨_,i_ I.j⟩
 obtain⟨z,hz⟩:∃ z,a[i]?=some z:=⟨_,i_ hi⟩
 unfold g2
 have m:=I.m.i9 H hy (hc y hy)
 refine Mv (aP hy ?_)
 by_cases e:j + 1=b.size
 ·rw[if_pos (by rw[e];exact beq_self_eq_true _)]
  exact Mz (h true _ ⟨K,H.gc m (.inr (by lia))⟩ (fun z=>nomatch z))
 rw[if_neg (by simpa using e)]
 have hj:j + 1 < b.size:=by have:=I.j;lia
 refine Mv (aP hz (Mv (eA L (K.k.trans hk) (by lia) (by lia) H.Sb (H.Sa _ _ hz) (fun p q x w h1 h2 h3 h4=>jR H.sb (i:=j + 1 + p) (j:=j + 1 + q) (by(clear h4 h3 h2 hj e m hz hy hi h hl hc I K hk H L;lia)) (by rw[e_];exact h3) (by rw[e_];exact h4)) fun k k1 k2 k3=>?_)))
 dsimp only
 have after:∀ u∈b.toList.drop (j + 1 + k),rk z<=rk u:=fun u hu=>by
  obtain⟨p,hp⟩:=eG hu
  rw[e_]at hp
  have hlt:j + 1 + k + p < b.size:=(JK.mp hp).1
  have:=k3 (k + p) u (by lia) (by(clear hp hu k3 k2 k1 hj e m hz hy hi h hl hc I K hk H L;lia)) (by rw[show j + 1 + (k + p)=j + 1 + k + p by(clear hlt hp hu k3 k2 k1 hj e m hz hy hi h hl hc I K hk H L;lia)];exact hp)
  simpa using this
 by_cases pk:k > 0
 ·rw[if_pos pk]
  have m2:MS rk a.toList b.toList (out.push y++b.extract (j + 1) (j + 1 + k)).toList i (j + 1 + k):=by
   rw[HS,fI]
   refine m.mY H.sb fun u hu w hw=>?_
   obtain⟨p,hp1,hp⟩:=cn hu
   rw[e_]at hp
   have:=k2 p u hp1 hp
   simp only[if_true]at this
   exact v_ (HN this) (fR H.sa hz w hw)
  by_cases e2:j + 1 + k=b.size
  ·rw[if_pos (by rw[e2];exact beq_self_eq_true _)]
   exact Mz (h true _ ⟨K,H.gc m2 (.inr (by(clear m2 pk after k3 k2 k1 hj e m hz hy hi h hl hc I K hk H L;lia)))⟩ (fun z=>nomatch z))
  rw[if_neg (by simpa using e2)]
  refine BI H K ⟨m2,I.i,by(clear m2 after k3 k2 hj e m hz hy hi h hl hc I K hk H L;lia)⟩ (fun z' hz'=>?_) (by(clear e2 m2 pk after k3 k2 k1 hj e m hz hy hi h hc I K hk H L;lia)) h
  rw[hz]at hz'
  cases hz'
  exact after
 rw[if_neg pk]
 have k0:k=0:=by lia
 subst k0
 refine BI H K ⟨m,I.i,by(clear pk after k3 k2 k1 e m hz hy hi h hl hc I K hk H L;omega)⟩ (fun z' hz'=>?_) (by lia) h
 rw[hz]at hz'
 cases hz'
 exact after
theorem FH{out:Array Mq}{i j mg ca cb:Nat}{st st':Mx}{Q:ForInStep GS->Mx->Prop}(L:bV M A E s kd rk S)(H:LoOk rk S a b)(hk:kindOf st=kd)(K:Keep st st')(I:LI rk a b out i j)
  (h:∀(d:Bool) (c:GS) (st2:Mx),dq rk a b (i + j) st c.1 c.2.1 c.2.2.1 c.2.2.2.1 st2->(d=false->c.1=none)->Q (if d=true then My c else MG c) st2):wpS M A E s (g1 a b out i j mg ca cb) Q st':=by
 have hi:i < a.size:=by have:=I.i;lia
 obtain⟨y,hy⟩:∃ y,b[j]?=some y:=⟨_,i_ I.j⟩
 unfold g1
 refine Mv (j5 (Mv (aP hy ?_)))
 have K2:=K.g mg
 revert K2
 generalize NF (kindOf st') (Ms st') (MF st') mg (M1 st')=st2
 intro K2
 refine Mv (eA L (K2.k.trans hk) (by lia) (by lia) H.Sa (H.Sb _ _ hy) (fun p q x w h1 h2 h3 h4=>jR H.sa (i:=i + p) (j:=i + q) (by lia) (by rw[e_];exact h3) (by rw[e_];exact h4)) fun k k1 k2 k3=>?_)
 dsimp only
 have after:∀ u∈a.toList.drop (i + k),rk y<=rk u:=fun u hu=>by
  obtain⟨p,hp⟩:=eG hu
  rw[e_]at hp
  have hlt:i + k + p < a.size:=(JK.mp hp).1
  have:=k3 (k + p) u (by lia) (by lia) (by rw[show i + (k + p)=i + k + p by lia];exact hp)
  simp at this
  lia
 by_cases pk:k > 0
 ·rw[if_pos pk]
  have m2:MS rk a.toList b.toList (out++a.extract i (i + k)).toList (i + k) j:=by
   rw[HS,fI]
   refine I.m.nu H.sa fun u hu w hw=>?_
   obtain⟨p,hp1,hp⟩:=cn hu
   rw[e_]at hp
   have:=k2 p u hp1 hp
   simp at this
   exact v_ this (fR H.sb hy w hw)
  by_cases e1:i + k + 1=a.size
  ·rw[if_pos (by rw[e1];exact beq_self_eq_true _)]
   exact Mz (h true _ _ ⟨K2,H.jd m2 e1⟩ (fun z=>nomatch z))
  rw[if_neg (by simpa using e1)]
  by_cases e2:i + k=a.size
  ·rw[if_pos (by rw[e2];exact beq_self_eq_true _)]
   exact Mz (h true _ _ ⟨K2,H.gc m2 (.inl (by lia))⟩ (fun z=>nomatch z))
  rw[if_neg (by simpa using e2)]
  refine C0 L H hk K2 ⟨m2,by(clear m2 after k3 k2 K2 hy hi h I K hk H L;lia),I.j⟩ (fun y' hy'=>?_) (by lia) fun d c x1 x2=>h d c _ x1 x2
  rw[hy]at hy'
  cases hy'
  exact after
 rw[if_neg pk]
 have k0:k=0:=by lia
 subst k0
 refine C0 L H hk K2 I (fun y' hy'=>?_) (f_ _) fun d c x1 x2=>h d c _ x1 x2
 rw[hy]at hy'
 cases hy'
 exact after
theorem EC{st:Mx}{Q:Array Mq->Mx->Prop}(L:bV M A E s kd rk S)(H:LoOk rk S a b)(hk:kindOf st=kd)(h:∀ r st',Keep st st'->Res rk a.toList b.toList r.toList->Q r st')(hr:∀ x,Mr M A (rule x) (fun _ s'=>s'=s) E s):wpS M A E s (mLo a b) Q st:=by
 rw[zS]
 obtain⟨y,hy⟩:∃ y,b[0]?=some y:=⟨_,i_ H.pb⟩
 have rl:∀ {x:String} {R:Unit->Mx->Prop} {st':Mx},R () st'->wpS M A E s (liftM (rule x):StateT Mx Sem Unit) R st':=fun{x R st'} q=>Qd (MP (hr x) (fun _ _ z=>⟨z,q⟩) fun _ _ z=>z)
 refine Mv (rl (Mv (aP hy ?_)))
 have m0:MS rk a.toList b.toList (#[]:Array Mq).toList 0 0:=⟨by simp,J3,fun x hx=>by simp at hx⟩
 have m1:MS rk a.toList b.toList (#[y]:Array Mq).toList 0 1:=m0.i9 H hy fun z hz=>H.first y hy z (by simpa using hz)
 by_cases e1:1=b.size
 ·rw[if_pos (by rw[<-e1];rfl)]
  exact Mz (h _ _ .bD (H.gc m1 (.inr (by lia))))
 rw[if_neg (by simpa using e1)]
 by_cases e2:0 + 1=a.size
 ·rw[if_pos (by rw[<-e2];rfl)]
  exact Mz (h _ _ .bD (H.jd m1 e2))
 rw[if_neg (by simpa using e2)]
 refine Mv (OE ?_)
 have pa:=H.pa
 have pb:=H.pb
 refine Mv (Nq (M7 (I:=fun x (c:OS) st'=>c.1=none/\Keep st st'/\LI rk a b c.2.1 c.2.2.1 c.2.2.2.1/\x < c.2.2.1 + c.2.2.2.1) (Q:=fun(c:OS) st'=>∃ q,c.1=some q/\Keep st st'/\Res rk a.toList b.toList q.toList) ?_ ?_ ⟨rfl,.bD,⟨m1,by dsimp only;lia,by dsimp only;lia⟩,by show 0 < 0 + 1;lia⟩) ?_)
 ·rintro x ⟨c1,out,i,j,mg⟩ st1 _ hx ⟨rfl,K1,I1,px⟩
  unfold oLo
  dsimp only at I1 px ⊢
  refine Mv (Nq (M7 (I:=fun x (c:FS) st'=>c.1=none/\Keep st st'/\LI rk a b c.2.1 c.2.2.1 c.2.2.2.1/\i + j + x<=c.2.2.1 + c.2.2.2.1) (Q:=fun(c:FS) st'=>dq rk a b (i + j) st c.1 c.2.1 c.2.2.1 c.2.2.2.1 st') ?_ ?_ ⟨rfl,K1,I1,f_ _⟩) ?_)
  ·rintro x2 ⟨d1,out2,i2,j2,ca,cb⟩ st2 _ hx2 ⟨rfl,K2,I2,p2⟩
   dsimp only at I2 p2 ⊢
   refine F7 L H hk K2 I2 fun d c hs hn=>?_
   cases d with
   | true=>
    show dq _ _ _ _ _ _ _ _ _ _
    refine⟨hs.1,?_⟩
    have h2:=hs.2
    cases e:c.1 with
    | some q=>rw[e]at h2;exact h2
    | none=>rw[e]at h2;exact⟨h2.1,by have:=h2.2;(clear e h2 hn hs I2 K2 hx2 px I1 K1 hx pb pa e2 e1 m1 m0 rl hy hr h hk H L;lia)⟩
   | false=>
    have h2:=hs.2
    rw[hn rfl]at h2
    exact⟨hn rfl,hs.1,h2.1,by have:=h2.2;(clear h2 hn hs I2 K2 hx2 px I1 K1 hx pb pa e2 e1 m1 m0 rl hy hr h hk H L;lia)⟩
  ·rintro⟨c1,out2,i2,j2,ca,cb⟩ st2 ⟨rfl,K2,I2,p2⟩
   dsimp only at I2 p2 ⊢
   have:=I2.i
   have:=I2.j
   (clear I2 K2 px I1 K1 hx pb pa e2 e1 m1 m0 rl hy hr h hk H L;lia)
  rintro⟨c1,out2,i2,j2,ca,cb⟩ st2 ⟨K2,h2⟩
  cases c1 with
  | some q=>exact Mz ⟨q,rfl,K2,h2⟩
  | none=>
   obtain⟨I2,p2⟩:=h2
   dsimp only at I2 p2 ⊢
   refine Mv (rl ?_)
   refine Mv (Nq (M7 (I:=fun _ (c:GS) st'=>c.1=none/\Keep st st'/\LI rk a b c.2.1 c.2.2.1 c.2.2.2.1/\i + j < c.2.2.1 + c.2.2.2.1) (Q:=fun(c:GS) st'=>dq rk a b (i + j) st c.1 c.2.1 c.2.2.1 c.2.2.2.1 st') ?_ ?_ ⟨rfl,K2,I2,p2⟩) ?_)
   ·rintro x3 ⟨d1,out3,i3,j3,mg3,ca3,cb3⟩ st3 _ hx3 ⟨rfl,K3,I3,p3⟩
    dsimp only at I3 p3 ⊢
    have go:∀ mg',wpS M A E s (g1 a b out3 i3 j3 mg' ca3 cb3) (fun r st'=>match r with | .done c'=>dq rk a b (i + j) st c'.1 c'.2.1 c'.2.2.1 c'.2.2.2.1 st' | .yield c'=>c'.1=none/\Keep st st'/\LI rk a b c'.2.1 c'.2.2.1 c'.2.2.2.1/\i + j < c'.2.2.1 + c'.2.2.2.1) st3:=fun mg'=>by
     refine FH L H hk K3 I3 fun d c st4 hs hn=>?_
     cases d with
     | true=>
      show dq _ _ _ _ _ _ _ _ _ _
      refine⟨hs.1,?_⟩
      have h2:=hs.2
      cases e:c.1 with
      | some q=>rw[e]at h2;exact h2
      | none=>rw[e]at h2;exact⟨h2.1,by have:=h2.2;(clear e h2 hn hs I3 K3 hx3 p2 I2 K2 px I1 K1 hx pb pa e2 e1 m1 m0 rl hy hr h hk H L;lia)⟩
     | false=>
      have h2:=hs.2
      rw[hn rfl]at h2
      exact⟨hn rfl,hs.1,h2.1,by have:=h2.2;(clear h2 hn hs I3 K3 hx3 p2 I2 K2 px I1 K1 hx pb pa e2 e1 m1 m0 rl hy hr h hk H L;lia)⟩
    split
    ·exact Nq (go _) fun r st' h=>by cases r <;> exact h
    exact Nq (go _) fun r st' h=>by cases r <;> exact h
   ·rintro⟨c1,out3,i3,j3,mg3,ca3,cb3⟩ st3 ⟨rfl,K3,I3,p3⟩
    exact⟨K3,I3,p3⟩
   rintro⟨c1,out3,i3,j3,mg3,ca3,cb3⟩ st3 ⟨K3,h3⟩
   cases c1 with
   | some q=>exact Mz ⟨q,rfl,K3,h3⟩
   | none=>
    obtain⟨I3,p3⟩:=h3
    refine Mv (j5 (Mz ⟨rfl,K3.g _,I3,?_⟩))
    dsimp only at p3 ⊢
    lia
 ·rintro⟨c1,out,i,j,mg⟩ st1 ⟨rfl,K1,I1,px⟩
  have h1:=I1.i
  have h2:=I1.j
  dsimp only at h1 h2 px
  (clear I1 K1 pb pa e2 e1 m1 m0 rl hy hr h hk H L;lia)
 rintro⟨c1,out,i,j,mg⟩ st1 ⟨q,e,K1,r⟩
 dsimp only at e
 subst e
 exact Mz (h q st1 K1 r)
end
def dnH(a b out:Array Mq)(i j:Nat):Array Mq:=a.extract 0 i++b.extract 0 j++out.reverse
def cS(a b out:Array Mq)(i j:Nat):Array Mq:=b.extract 0 j++a.extract 0 i++out.reverse
theorem DA(a b:Array Mq):mHi a b=(do
 rule "list.sort.merge-hi"
 let mut i:=a.size - 1
 let mut j:=b.size
 let mut out:Array Mq:=#[<-M8 a i]
 if i == 0 then return dnH a b out i j
 if j == 1 then return cS a b out i j
 let mut mg:=Qc (<-get)
 for _ in [0:a.size + b.size]do
  let mut ca:=0
  let mut cb:=0
  for _ in [0:a.size + b.size]do
   let some aw <-lt' (<-M8 b (j - 1)) (<-M8 a (i - 1)) | return dnH a b out i j
   if aw then
    i:=i - 1;out:=out.push (<-M8 a i);ca:=ca + 1;cb:=0
    if i == 0 then return dnH a b out i j
    if ca>=mg then break
   else
    j:=j - 1;out:=out.push (<-M8 b j);cb:=cb + 1;ca:=0
    if j == 1 then return cS a b out i j
    if cb>=mg then break
  rule "list.sort.gallop"
  mg:=mg + 1
  for _ in [0:a.size + b.size]do
   if mg > 1 then mg:=mg - 1
   setG mg
   let some at' <-gal false (<-M8 b (j - 1)) a 0 i (i - 1) | return dnH a b out i j
   let k:=i - at'
   ca:=k
   if k > 0 then
    out:=out++(a.extract at' i).reverse;i:=at'
    if i == 0 then return dnH a b out i j
   j:=j - 1;out:=out.push (<-M8 b j)
   if j == 1 then return cS a b out i j
   let some at' <-gal true (<-M8 a (i - 1)) b 0 j (j - 1) | return dnH a b out i j
   let k:=j - at'
   cb:=k
   if k > 0 then
    out:=out++(b.extract at' j).reverse;j:=at'
    if j == 1 then return cS a b out i j
    if j == 0 then return dnH a b out i j
   i:=i - 1;out:=out.push (<-M8 a i)
   if i == 0 then return dnH a b out i j
   if ca < 7 && cb < 7 then break
  mg:=mg + 1
  setG mg
 unsupported "internal:list.sort.merge-bound"):=rfl
abbrev GT:=Option (Array Mq) × Nat × Nat × Array Mq × Nat × Nat × Nat
abbrev FT:=Option (Array Mq) × Nat × Nat × Array Mq × Nat × Nat
abbrev OT:=Option (Array Mq) × Nat × Nat × Array Mq × Nat
noncomputable def k3(a b out:Array Mq)(i j mg ca cb:Nat):StateT Mx Sem (ForInStep GT):=do
 let y <-M8 a (i - 1)
 if(i - 1 == 0)=true then pure (My (some (dnH a b (out.push y) (i - 1) j),i - 1,j,out.push y,mg,ca,cb))
 else if(decide (ca < 7) && decide (cb < 7))=true then pure (My (none,i - 1,j,out.push y,mg,ca,cb))
 else pure (MG (none,i - 1,j,out.push y,mg,ca,cb))
noncomputable def k2(a b out:Array Mq)(i j mg ca cb:Nat):StateT Mx Sem (ForInStep GT):=do
 let y <-M8 b (j - 1)
 if(j - 1 == 1)=true then pure (My (some (cS a b (out.push y) i (j - 1)),i,j - 1,out.push y,mg,ca,cb))
 else do
  let z <-M8 a (i - 1)
  let some at' <-gal true z b 0 (j - 1) (j - 1 - 1) | pure (My (some (dnH a b (out.push y) i (j - 1)),i,j - 1,out.push y,mg,ca,cb))
  if j - 1 - at' > 0 then
    if(at' == 1)=true then pure (My (some (cS a b (out.push y++(b.extract at' (j - 1)).reverse) i at'),i,at',out.push y++(b.extract at' (j - 1)).reverse,mg,ca,j - 1 - at'))
    else if(at' == 0)=true then pure (My (some (dnH a b (out.push y++(b.extract at' (j - 1)).reverse) i at'),i,at',out.push y++(b.extract at' (j - 1)).reverse,mg,ca,j - 1 - at'))
    else k3 a b (out.push y++(b.extract at' (j - 1)).reverse) i at' mg ca (j - 1 - at')
  else k3 a b (out.push y) i (j - 1) mg ca (j - 1 - at')
noncomputable def k1(a b out:Array Mq)(i j mg ca cb:Nat):StateT Mx Sem (ForInStep GT):=do
 setG mg
 let y <-M8 b (j - 1)
 let some at' <-gal false y a 0 i (i - 1) | pure (My (some (dnH a b out i j),i,j,out,mg,ca,cb))
 if i - at' > 0 then
   if(at' == 0)=true then pure (My (some (dnH a b (out++(a.extract at' i).reverse) at' j),at',j,out++(a.extract at' i).reverse,mg,i - at',cb))
   else k2 a b (out++(a.extract at' i).reverse) at' j mg (i - at') cb
 else k2 a b out i j mg (i - at') cb
noncomputable def e1(a b out:Array Mq)(i j ca cb mg:Nat):StateT Mx Sem (ForInStep FT):=do
 let y <-M8 b (j - 1)
 let z <-M8 a (i - 1)
 let some aw <-lt' y z | pure (My (some (dnH a b out i j),i,j,out,ca,cb))
 if aw=true then do
   let z <-M8 a (i - 1)
   if(i - 1 == 0)=true then pure (My (some (dnH a b (out.push z) (i - 1) j),i - 1,j,out.push z,ca + 1,0))
   else if ca + 1>=mg then pure (My (none,i - 1,j,out.push z,ca + 1,0))else pure (MG (none,i - 1,j,out.push z,ca + 1,0))
 else do
   let y <-M8 b (j - 1)
   if(j - 1 == 1)=true then pure (My (some (cS a b (out.push y) i (j - 1)),i,j - 1,out.push y,0,cb + 1))
   else if cb + 1>=mg then pure (My (none,i,j - 1,out.push y,0,cb + 1))else pure (MG (none,i,j - 1,out.push y,0,cb + 1))
noncomputable def oHi(a b:Array Mq)(c:OT):StateT Mx Sem (ForInStep OT):=do
 let r <-forIn [0:a.size + b.size] ((none,c.2.1,c.2.2.1,c.2.2.2.1,0,0):FT) fun _ d=>e1 a b d.2.2.2.1 d.2.1 d.2.2.1 d.2.2.2.2.1 d.2.2.2.2.2 c.2.2.2.2
 match r.1 with
 | some q=>pure (My (some q,r.2.1,r.2.2.1,r.2.2.2.1,c.2.2.2.2))
 | none=>do
  liftM (rule "list.sort.gallop")
  let e <-forIn [0:a.size + b.size] ((none,r.2.1,r.2.2.1,r.2.2.2.1,c.2.2.2.2 + 1,r.2.2.2.2.1,r.2.2.2.2.2):GT) fun _ d=>
   if d.2.2.2.2.1 > 1 then k1 a b d.2.2.2.1 d.2.1 d.2.2.1 (d.2.2.2.2.1 - 1) d.2.2.2.2.2.1 d.2.2.2.2.2.2 else k1 a b d.2.2.2.1 d.2.1 d.2.2.1 d.2.2.2.2.1 d.2.2.2.2.2.1 d.2.2.2.2.2.2
  match e.1 with
  | some q=>pure (My (some q,e.2.1,e.2.2.1,e.2.2.2.1,e.2.2.2.2.1))
  | none=>do
   setG (e.2.2.2.2.1 + 1)
   pure (MG (none,e.2.1,e.2.2.1,e.2.2.2.1,e.2.2.2.2.1 + 1))
set_option maxHeartbeats 2000000 in
theorem AX(a b:Array Mq):mHi a b=(do
  liftM (rule "list.sort.merge-hi")
  let y <-M8 a (a.size - 1)
  if(a.size - 1 == 0)=true then pure (dnH a b #[y] (a.size - 1) b.size)
  else if(b.size == 1)=true then pure (cS a b #[y] (a.size - 1) b.size)
  else do
   let st <-get
   let r <-forIn [0:a.size + b.size] ((none,a.size - 1,b.size,#[y],Qc st):OT) fun _ c=>oHi a b c
   match r.1 with
   | some q=>pure q
   | none=>liftM (unsupported "internal:list.sort.merge-bound":Sem (Array Mq))):=by
 rw[DA]
 unfold oHi
 refine congrArg (bind _) (funext fun _=>?_)
 refine congrArg (bind _) (funext fun y=>?_)
 refine ite_congr rfl (fun _=>rfl) (fun _=>?_)
 refine ite_congr rfl (fun _=>rfl) (fun _=>?_)
 refine congrArg (bind _) (funext fun st=>?_)
 refine congr (congrArg bind (congrArg (forIn _ _) (funext fun _=>funext fun c=>?_))) ?_
 ·refine congr (congrArg bind (congrArg (forIn _ _) (funext fun _=>funext fun d=>?_))) ?_
  ·unfold e1
   rfl
  funext r
  obtain⟨r1,r2⟩:=r
  cases r1 with
  | some q=>rfl
  | none=>
   refine congrArg (bind _) (funext fun _=>?_)
   refine congr (congrArg bind (congrArg (forIn _ _) (funext fun _=>funext fun d=>?_))) ?_
   ·unfold k1
    refine ite_congr rfl (fun _=>?_) (fun _=>?_)
    all_goals
     refine congrArg (bind _) (funext fun _=>?_)
     refine congrArg (bind _) (funext fun y=>?_)
     refine congrArg (bind _) (funext fun r=>?_)
     cases r with
     | none=>rfl
     | some k=>
      refine ite_congr rfl (fun _=>?_) (fun _=>?_)
      ·refine ite_congr rfl (fun _=>rfl) (fun _=>?_)
       unfold k2
       rfl
      unfold k2
      rfl
   funext e;obtain⟨e1,e2⟩:=e;cases e1 <;> rfl
 funext e;obtain⟨e1,e2⟩:=e;cases e1 <;> rfl
section
variable{rk:Mq->Nat}
structure MH (rk:Mq->Nat) (a b o:List Mq) (i j:Nat):Prop where
 perm:o.Perm (a.drop i++b.drop j)
 srt:Srt rk o
 le:∀ x∈o,(∀ y∈a.take i,rk y<=rk x)/\∀ y∈b.take j,rk y<=rk x
theorem oW{l:List Mq}{i t:Nat}(h:t<=i):l.drop t=(l.take i).drop t++l.drop i:=by
 by_cases hi:i<=l.length
 ·have e:=G' i l
  have h2:(l.take i++l.drop i).drop t=(l.take i).drop t++l.drop i:=Ko (by rw[D_];lia)
  rw[e]at h2
  exact h2
 rw[Ie (by lia),II (by lia:l.length<=i),Iz]
theorem fV{l:List Mq}{i t:Nat}(h:t<=i):l.take i=l.take t++(l.take i).drop t:=by
 have:=G' t (l.take i)
 rw[List.take_take,Kg h]at this
 exact this.symm
theorem MH.nu {a b o:List Mq}{i j t:Nat}(h:MH rk a b o i j)(sa:Srt rk a)(ht:t<=i)(hc:∀ y∈(a.take i).drop t,∀ z∈b.take j,rk z<=rk y):MH rk a b ((a.take i).drop t++o) t j:=by
 have st:Srt rk (a.take i):=Ig (Jx _ _) sa
 refine⟨?_,?_,fun x hx=>?_⟩
 ·rw[oW (l:=a) ht,l_]
  exact Ih _ h.perm
 ·exact C_.mpr ⟨Ig (Jz _ _) st,h.srt,fun x hx y hy=>(h.le y hy).1 x (JH hx)⟩
 rcases z_.mp hx with hx | hx
 ·refine⟨fun y hy=>?_,hc x hx⟩
  rw[fV ht]at st
  exact(C_.mp st).2.2 y hy x hx
 refine⟨fun y hy=>(h.le x hx).1 y ?_,(h.le x hx).2⟩
 rw[fV ht]
 exact w_ _ hy
theorem MH.mY {a b o:List Mq}{i j t:Nat}(h:MH rk a b o i j)(sb:Srt rk b)(ht:t<=j)(hc:∀ y∈(b.take j).drop t,∀ z∈a.take i,rk z<=rk y):MH rk a b ((b.take j).drop t++o) i t:=by
 have st:Srt rk (b.take j):=Ig (Jx _ _) sb
 refine⟨?_,?_,fun x hx=>?_⟩
 ·rw[oW (l:=b) ht]
  refine(Ih _ h.perm).trans ?_
  rw[<-l_,<-l_]
  exact Lb _ IB
 ·exact C_.mpr ⟨Ig (Jz _ _) st,h.srt,fun x hx y hy=>(h.le y hy).2 x (JH hx)⟩
 rcases z_.mp hx with hx | hx
 ·refine⟨hc x hx,fun y hy=>?_⟩
  rw[fV ht]at st
  exact(C_.mp st).2.2 y hy x hx
 refine⟨(h.le x hx).1,fun y hy=>(h.le x hx).2 y ?_⟩
 rw[fV ht]
 exact w_ _ hy
theorem MH.done {a b o:List Mq}{i j:Nat}(h:MH rk a b o i j)(sa:Srt rk a)(sb:Srt rk b)(e:i=0\/j=0):Res rk a b (a.take i++b.take j++o):=by
 have h1:=h.mY (t:=0) sb (F' _) fun y hy z hz=>by
  rcases e with e | e
  ·rw[e]at hz;simp at hz
  rw[e]at hy;simp at hy
 have h2:=h1.nu (t:=0) sa (F' _) fun y hy z hz=>by simp at hz
 have p:=h2.perm
 have q:=h2.srt
 simp only[Jj]at p q
 rw[l_]
 exact⟨p,q⟩
theorem MH.first {a b o:List Mq}{i j:Nat}(h:MH rk a b o i j)(sa:Srt rk a)(sb:Srt rk b)(e:∀ y∈a.take i,∀ z∈b.take j,rk z<=rk y):Res rk a b (b.take j++a.take i++o):=by
 have h1:=h.nu (t:=0) sa (F' _) fun y hy z hz=>e y (by rw[Jj]at hy;exact hy) z hz
 have h2:=h1.mY (t:=0) sb (F' _) fun y hy z hz=>by simp at hz
 have p:=h2.perm
 have q:=h2.srt
 simp only[Jj]at p q
 rw[l_]
 exact⟨p,q⟩
theorem jc(a:Array Mq)(i:Nat):(a.extract 0 i).toList=a.toList.take i:=by
 rw[JI,Jh,Jj,L8]
theorem uB(a:Array Mq)(t i:Nat):(a.extract t i).toList=(a.toList.take i).drop t:=by
 rw[JI,Jh,List.drop_take]
theorem take_one{l:List Mq}{i:Nat}{y:Mq}(h0:0 < i)(h:l[i - 1]?=some y):(l.take i).drop (i - 1)=[y]:=by
 obtain⟨hl,e⟩:=gV.mp h
 have:l.take i=l.take (i - 1)++[y]:=by
  conv=>lhs;rw[show i=i - 1 + 1 by lia,Im,h]
  rfl
 rw[this,Ko (by rw[D_];omega),II (by rw[D_];omega)]
 rfl
theorem eh{l:List Mq}{i:Nat}{y:Mq}(h:y∈l.take i):∃ j,j < i/\l[j]?=some y:=by
 obtain⟨j,hj⟩:=JB.mp h
 rw[Jq]at hj
 split at hj
 ·next hlt=>exact⟨j,hlt,hj⟩
 cases hj
theorem oH{l:List Mq}{t i:Nat}{y:Mq}(h:y∈(l.take i).drop t):∃ j,t<=j/\j < i/\l[j]?=some y:=by
 obtain⟨j,hj⟩:=eG h
 rw[Jq]at hj
 split at hj
 ·next hlt=>exact⟨t + j,by lia,hlt,hj⟩
 cases hj
end
section
variable{M:Om}{A:MJ}{E:Mj->Mm->Prop}{s:Mm}{kd:Ng}{rk:Mq->Nat}{S:Mq->Prop}{a b:Array Mq}
abbrev MHo(rk:Mq->Nat)(a b out:Array Mq)(i j:Nat):Prop:=MH rk a.toList b.toList out.toList.reverse i j
theorem LoOk.nZ (h:LoOk rk S a b){out:Array Mq}{i j:Nat}(m:MHo rk a b out i j)(e:i=0\/j=0):Res rk a.toList b.toList (dnH a b out i j).toList:=by
 unfold dnH
 rw[HS,HS,jc,jc,IF]
 exact m.done h.sa h.sb e
theorem LoOk.mI (h:LoOk rk S a b){out:Array Mq}{i j:Nat}(m:MHo rk a b out i j)(e:j=1):Res rk a.toList b.toList (cS a b out i j).toList:=by
 unfold cS
 rw[HS,HS,jc,jc,IF]
 refine m.first h.sa h.sb fun y hy z hz=>?_
 subst e
 obtain⟨k,hk,hz'⟩:=eh hz
 have k0:k=0:=by lia
 subst k0
 exact h.first z (by rw[<-e_];exact hz') y (Iq hy)
structure HI (rk:Mq->Nat) (a b out:Array Mq) (i j:Nat):Prop where
 m:MHo rk a b out i j
 i0:0 < i
 j1:1 < j
 ia:i<=a.size
 jb:j<=b.size
theorem MH.gQ {out:Array Mq}{i j:Nat}(m:MHo rk a b out i j)(H:LoOk rk S a b)(h0:0 < i){y:Mq}(hy:a[i - 1]?=some y)(hc:∀ z∈b.toList.take j,rk z<=rk y):MHo rk a b (out.push y) (i - 1) j:=by
 have hy':a.toList[i - 1]?=some y:=by rw[e_];exact hy
 have:=m.nu (t:=i - 1) H.sa (by lia) (by rw[take_one h0 hy'];intro w hw;rw[p_.mp hw];exact hc)
 rw[take_one h0 hy']at this
 show MH _ _ _ (out.push y).toList.reverse _ _
 rw[IU,JO]
 exact this
theorem MH.i9 {out:Array Mq}{i j:Nat}(m:MHo rk a b out i j)(H:LoOk rk S a b)(h0:0 < j){y:Mq}(hy:b[j - 1]?=some y)(hc:∀ z∈a.toList.take i,rk z<=rk y):MHo rk a b (out.push y) i (j - 1):=by
 have hy':b.toList[j - 1]?=some y:=by rw[e_];exact hy
 have:=m.mY (t:=j - 1) H.sb (by lia) (by rw[take_one h0 hy'];intro w hw;rw[p_.mp hw];exact hc)
 rw[take_one h0 hy']at this
 show MH _ _ _ (out.push y).toList.reverse _ _
 rw[IU,JO]
 exact this
theorem fG{l:Array Mq}{i:Nat}{y:Mq}(srt:Srt rk l.toList)(hy:l[i - 1]?=some y):∀ z∈l.toList.take i,rk z<=rk y:=fun z hz=>by
 obtain⟨k,hk,hz'⟩:=eh hz
 exact jR srt (i:=k) (j:=i - 1) (by lia) hz' (by rw[e_];exact hy)
noncomputable def fv(rk:Mq->Nat)(a b:Array Mq)(lo:Nat)(st:Mx)(r:Option (Array Mq))(out:Array Mq)(i j:Nat)(st':Mx):Prop:=
 Keep st st'/\match r with
 | some q=>Res rk a.toList b.toList q.toList
 | none=>HI rk a b out i j/\i + j < lo
theorem HI.get (I:HI rk a b out i j):(∃ y,b[j - 1]?=some y)/\∃ z,a[i - 1]?=some z:=
 ⟨⟨_,i_ (x_ (KO (Ke Jt I.j1) Jt) I.jb)⟩,⟨_,i_ (x_ (KO I.i0 Jt) I.ia)⟩⟩
theorem Fw{out:Array Mq}{i j ca cb mg:Nat}{st st':Mx}{Q:ForInStep FT->Mx->Prop}(L:bV M A E s kd rk S)(H:LoOk rk S a b)(hk:kindOf st=kd)(K:Keep st st')(I:HI rk a b out i j)
  (h:∀(d:Bool) (c:FT),fv rk a b (i + j) st c.1 c.2.2.2.1 c.2.1 c.2.2.1 st'->(d=false->c.1=none)->Q (if d=true then My c else MG c) st'):wpS M A E s (e1 a b out i j ca cb mg) Q st':=by
 obtain⟨⟨y,hy⟩,⟨z,hz⟩⟩:=I.get
 have i0:=I.i0
 have j1:=I.j1
 have ia:=I.ia
 have jb:=I.jb
 unfold e1
 refine Mv (aP hy (Mv (aP hz (Mv (L y z st' _ (H.Sb _ _ hy) (H.Sa _ _ hz) (K.k.trans hk) ?_)))))
 dsimp only
 by_cases w:rk y < rk z
 ·rw[decide_eq_true w,if_pos rfl]
  have m:=I.m.gQ H i0 hz fun u hu=>v_ (fG H.sb hy u hu) (HN w)
  refine Mv (aP hz ?_)
  by_cases e:i - 1=0
  ·rw[if_pos (by rw[e];rfl)]
   exact Mz (h true _ ⟨K,H.nZ m (.inl e)⟩ (fun z=>nomatch z))
  rw[if_neg (by simpa using e)]
  have I2:HI rk a b (out.push z) (i - 1) j:=⟨m,ID e,j1,v_ (IT ..) ia,jb⟩
  split
  ·exact Mz (h true _ ⟨K,I2,by dsimp only;lia⟩ (fun z=>nomatch z))
  exact Mz (h false _ ⟨K,I2,by dsimp only;lia⟩ (fun _=>rfl))
 rw[decide_eq_false w,if_neg (by simp)]
 have m:=I.m.i9 H (by lia) hy fun u hu=>v_ (fG H.sa hz u hu) (by lia)
 refine Mv (aP hy ?_)
 by_cases e:j - 1=1
 ·rw[if_pos (by rw[e];rfl)]
  exact Mz (h true _ ⟨K,H.mI m e⟩ (fun z=>nomatch z))
 rw[if_neg (by simpa using e)]
 have I2:HI rk a b (out.push y) i (j - 1):=⟨m,i0,by lia,ia,v_ (IT ..) jb⟩
 split
 ·exact Mz (h true _ ⟨K,I2,by dsimp only;lia⟩ (fun z=>nomatch z))
 exact Mz (h false _ ⟨K,I2,by dsimp only;lia⟩ (fun _=>rfl))
theorem C2{out:Array Mq}{i j mg ca cb lo:Nat}{st st':Mx}{Q:ForInStep GT->Mx->Prop}(H:LoOk rk S a b)(K:Keep st st')(I:HI rk a b out i j)(hc:∀ z,a[i - 1]?=some z->∀ u∈b.toList.take j,rk u<=rk z)(hl:i + j<=lo)
  (h:∀(d:Bool) (c:GT),fv rk a b lo st c.1 c.2.2.2.1 c.2.1 c.2.2.1 st'->(d=false->c.1=none)->Q (if d=true then My c else MG c) st'):wpS M A E s (k3 a b out i j mg ca cb) Q st':=by
 obtain⟨⟨y,hy⟩,⟨z,hz⟩⟩:=I.get
 have i0:=I.i0
 have j1:=I.j1
 have ia:=I.ia
 have jb:=I.jb
 unfold k3
 have m:=I.m.gQ H i0 hz (hc z hz)
 refine Mv (aP hz ?_)
 by_cases e:i - 1=0
 ·rw[if_pos (by rw[e];rfl)]
  exact Mz (h true _ ⟨K,H.nZ m (.inl e)⟩ (fun z=>nomatch z))
 rw[if_neg (by simpa using e)]
 have I2:HI rk a b (out.push z) (i - 1) j:=⟨m,ID e,j1,v_ (IT ..) ia,jb⟩
 split
 ·exact Mz (h true _ ⟨K,I2,by dsimp only;lia⟩ (fun z=>nomatch z))
 exact Mz (h false _ ⟨K,I2,by dsimp only;lia⟩ (fun _=>rfl))
theorem MHo.block {out:Array Mq}{i j t:Nat}(m:MHo rk a b out i j)(H:LoOk rk S a b)(ht:t<=j)(hc:∀ y∈(b.toList.take j).drop t,∀ z∈a.toList.take i,rk z<=rk y):MHo rk a b (out++(b.extract t j).reverse) i t:=by
 have:=m.mY H.sb ht hc
 show MH _ _ _ (out++(b.extract t j).reverse).toList.reverse _ _
 rw[HS,JO,IF,Li,uB]
 exact this
theorem MHo.D7 {out:Array Mq}{i j t:Nat}(m:MHo rk a b out i j)(H:LoOk rk S a b)(ht:t<=i)(hc:∀ y∈(a.toList.take i).drop t,∀ z∈b.toList.take j,rk z<=rk y):MHo rk a b (out++(a.extract t i).reverse) t j:=by
 have:=m.nu H.sa ht hc
 show MH _ _ _ (out++(a.extract t i).reverse).toList.reverse _ _
 rw[HS,JO,IF,Li,uB]
 exact this
theorem BW{out:Array Mq}{i j mg ca cb lo:Nat}{st st':Mx}{Q:ForInStep GT->Mx->Prop}(L:bV M A E s kd rk S)(H:LoOk rk S a b)(hk:kindOf st=kd)(K:Keep st st')(I:HI rk a b out i j)(hc:∀ y,b[j - 1]?=some y->∀ u∈a.toList.take i,rk u<=rk y)(hl:i + j<=lo)
  (h:∀(d:Bool) (c:GT),fv rk a b lo st c.1 c.2.2.2.1 c.2.1 c.2.2.1 st'->(d=false->c.1=none)->Q (if d=true then My c else MG c) st'):wpS M A E s (k2 a b out i j mg ca cb) Q st':=by
 obtain⟨⟨y,hy⟩,⟨z,hz⟩⟩:=I.get
 have i0:=I.i0
 have j1:=I.j1
 have ia:=I.ia
 have jb:=I.jb
 unfold k2
 have m:=I.m.i9 H (by lia) hy (hc y hy)
 refine Mv (aP hy ?_)
 by_cases e:j - 1=1
 ·rw[if_pos (by rw[e];rfl)]
  exact Mz (h true _ ⟨K,H.mI m e⟩ (fun z=>nomatch z))
 rw[if_neg (by simpa using e)]
 refine Mv (aP hz (Mv (eA L (K.k.trans hk) (by lia) (by lia) H.Sb (H.Sa _ _ hz) (fun p q x w h1 h2 h3 h4=>jR H.sb (i:=0 + p) (j:=0 + q) (by lia) (by rw[e_];exact h3) (by rw[e_];exact h4)) fun t t1 t2 t3=>?_)))
 dsimp only
 have before:∀ u∈b.toList.take t,rk u<=rk z:=fun u hu=>by
  obtain⟨p,hp1,hp⟩:=eh hu
  rw[e_]at hp
  have:=t2 p u hp1 (by rw[JT];exact hp)
  simp at this
  lia
 by_cases pk:j - 1 - t > 0
 ·rw[if_pos pk]
  have m2:MHo rk a b (out.push y++(b.extract t (j - 1)).reverse) i t:=by
   refine MHo.block m H (by omega) fun u hu w hw=>?_
   obtain⟨p,hp0,hp1,hp⟩:=oH hu
   rw[e_]at hp
   have:=t3 p u hp0 hp1 (by rw[JT];exact hp)
   simp at this
   exact v_ (fG H.sa hz w hw) this
  by_cases e1:t=1
  ·rw[if_pos (by rw[e1];rfl)]
   exact Mz (h true _ ⟨K,H.mI m2 e1⟩ (fun z=>nomatch z))
  rw[if_neg (by simpa using e1)]
  by_cases e2:t=0
  ·rw[if_pos (by rw[e2];rfl)]
   exact Mz (h true _ ⟨K,H.nZ m2 (.inr e2)⟩ (fun z=>nomatch z))
  rw[if_neg (by simpa using e2)]
  refine C2 H K ⟨m2,i0,Jr (ID e2) (N4 e1),ia,v_ t1 (v_ (IT ..) jb)⟩ (fun z' hz'=>?_) (by lia) h
  rw[hz]at hz'
  cases hz'
  exact before
 rw[if_neg pk]
 have k0:t=j - 1:=by lia
 refine C2 H K ⟨m,i0,by lia,ia,v_ (IT ..) jb⟩ (fun z' hz'=>?_) (by lia) h
 rw[hz]at hz'
 cases hz'
 rw[k0]at before
 exact before
theorem Ge{out:Array Mq}{i j mg ca cb:Nat}{st st':Mx}{Q:ForInStep GT->Mx->Prop}(L:bV M A E s kd rk S)(H:LoOk rk S a b)(hk:kindOf st=kd)(K:Keep st st')(I:HI rk a b out i j)
  (h:∀(d:Bool) (c:GT) (st2:Mx),fv rk a b (i + j) st c.1 c.2.2.2.1 c.2.1 c.2.2.1 st2->(d=false->c.1=none)->Q (if d=true then My c else MG c) st2):wpS M A E s (k1 a b out i j mg ca cb) Q st':=by
 obtain⟨⟨y,hy⟩,⟨z,hz⟩⟩:=I.get
 have i0:=I.i0
 have j1:=I.j1
 have ia:=I.ia
 have jb:=I.jb
 unfold k1
 refine Mv (j5 (Mv (aP hy ?_)))
 have K2:=K.g mg
 revert K2
 generalize NF (kindOf st') (Ms st') (MF st') mg (M1 st')=st2
 intro K2
 refine Mv (eA L (K2.k.trans hk) (by lia) (by lia) H.Sa (H.Sb _ _ hy) (fun p q x w h1 h2 h3 h4=>jR H.sa (i:=0 + p) (j:=0 + q) (by lia) (by rw[e_];exact h3) (by rw[e_];exact h4)) fun t t1 t2 t3=>?_)
 dsimp only
 have before:∀ u∈a.toList.take t,rk u<=rk y:=fun u hu=>by
  obtain⟨p,hp1,hp⟩:=eh hu
  rw[e_]at hp
  have:=t2 p u hp1 (by rw[JT];exact hp)
  simpa using this
 by_cases pk:i - t > 0
 ·rw[if_pos pk]
  have m2:MHo rk a b (out++(a.extract t i).reverse) t j:=by
   refine MHo.D7 I.m H (by omega) fun u hu w hw=>?_
   obtain⟨p,hp0,hp1,hp⟩:=oH hu
   rw[e_]at hp
   have:=t3 p u hp0 hp1 (by rw[JT];exact hp)
   simp at this
   exact v_ (fG H.sb hy w hw) (HN this)
  by_cases e2:t=0
  ·rw[if_pos (by rw[e2];rfl)]
   exact Mz (h true _ _ ⟨K2,H.nZ m2 (.inl e2)⟩ (fun z=>nomatch z))
  rw[if_neg (by simpa using e2)]
  refine BW L H hk K2 ⟨m2,by lia,j1,by lia,jb⟩ (fun y' hy'=>?_) (by lia) fun d c x1 x2=>h d c _ x1 x2
  rw[hy]at hy'
  cases hy'
  exact before
 rw[if_neg pk]
 have k0:t=i:=by lia
 rw[k0]at before
 refine BW L H hk K2 I (fun y' hy'=>?_) (f_ _) fun d c x1 x2=>h d c _ x1 x2
 rw[hy]at hy'
 cases hy'
 exact before
theorem EJ{st:Mx}{Q:Array Mq->Mx->Prop}(L:bV M A E s kd rk S)(H:LoOk rk S a b)(hk:kindOf st=kd)(h:∀ r st',Keep st st'->Res rk a.toList b.toList r.toList->Q r st')(hr:∀ x,Mr M A (rule x) (fun _ s'=>s'=s) E s):wpS M A E s (mHi a b) Q st:=by
 rw[AX]
 have pa:=H.pa
 have pb:=H.pb
 obtain⟨y,hy⟩:∃ y,a[a.size - 1]?=some y:=⟨_,i_ (by lia)⟩
 have rl:∀ {x:String} {R:Unit->Mx->Prop} {st':Mx},R () st'->wpS M A E s (liftM (rule x):StateT Mx Sem Unit) R st':=fun{x R st'} q=>Qd (MP (hr x) (fun _ _ z=>⟨z,q⟩) fun _ _ z=>z)
 refine Mv (rl (Mv (aP hy ?_)))
 have m0:MHo rk a b #[] a.size b.size:=⟨by simp,J3,fun x hx=>by simp at hx⟩
 have m1:MHo rk a b #[y] (a.size - 1) b.size:=m0.gQ H pa hy fun z hz=>H.last y hy z (Iq hz)
 by_cases e1:a.size - 1=0
 ·rw[if_pos (by rw[e1];rfl)]
  exact Mz (h _ _ .bD (H.nZ m1 (.inl e1)))
 rw[if_neg (by simpa using e1)]
 by_cases e2:b.size=1
 ·rw[if_pos (by rw[e2];rfl)]
  exact Mz (h _ _ .bD (H.mI m1 e2))
 rw[if_neg (by simpa using e2)]
 refine Mv (OE ?_)
 refine Mv (Nq (M7 (I:=fun x (c:OT) st'=>c.1=none/\Keep st st'/\HI rk a b c.2.2.2.1 c.2.1 c.2.2.1/\c.2.1 + c.2.2.1 + x < a.size + b.size) (Q:=fun(c:OT) st'=>∃ q,c.1=some q/\Keep st st'/\Res rk a.toList b.toList q.toList) ?_ ?_ ⟨rfl,.bD,⟨m1,by dsimp only;lia,by dsimp only;lia,by dsimp only;lia,by dsimp only;lia⟩,by dsimp only;lia⟩) ?_)
 ·rintro x ⟨c1,i,j,out,mg⟩ st1 _ hx ⟨rfl,K1,I1,px⟩
  unfold oHi
  dsimp only at I1 px ⊢
  refine Mv (Nq (M7 (I:=fun x (c:FT) st'=>c.1=none/\Keep st st'/\HI rk a b c.2.2.2.1 c.2.1 c.2.2.1/\c.2.1 + c.2.2.1 + x<=i + j) (Q:=fun(c:FT) st'=>fv rk a b (i + j) st c.1 c.2.2.2.1 c.2.1 c.2.2.1 st') ?_ ?_ ⟨rfl,K1,I1,f_ _⟩) ?_)
  ·rintro x2 ⟨d1,i2,j2,out2,ca,cb⟩ st2 _ hx2 ⟨rfl,K2,I2,p2⟩
   dsimp only at I2 p2 ⊢
   refine Fw L H hk K2 I2 fun d c hs hn=>?_
   cases d with
   | true=>
    show fv _ _ _ _ _ _ _ _ _ _
    refine⟨hs.1,?_⟩
    have h2:=hs.2
    cases e:c.1 with
    | some q=>rw[e]at h2;exact h2
    | none=>rw[e]at h2;exact⟨h2.1,by have:=h2.2;lia⟩
   | false=>
    have h2:=hs.2
    rw[hn rfl]at h2
    exact⟨hn rfl,hs.1,h2.1,by have:=h2.2;lia⟩
  ·rintro⟨c1,i2,j2,out2,ca,cb⟩ st2 ⟨rfl,K2,I2,p2⟩
   dsimp only at I2 p2 ⊢
   have:=I2.i0
   have:=I2.j1
   lia
  rintro⟨c1,i2,j2,out2,ca,cb⟩ st2 ⟨K2,h2⟩
  cases c1 with
  | some q=>exact Mz ⟨q,rfl,K2,h2⟩
  | none=>
   obtain⟨I2,p2⟩:=h2
   dsimp only at I2 p2 ⊢
   refine Mv (rl ?_)
   refine Mv (Nq (M7 (I:=fun _ (c:GT) st'=>c.1=none/\Keep st st'/\HI rk a b c.2.2.2.1 c.2.1 c.2.2.1/\c.2.1 + c.2.2.1 < i + j) (Q:=fun(c:GT) st'=>fv rk a b (i + j) st c.1 c.2.2.2.1 c.2.1 c.2.2.1 st') ?_ ?_ ⟨rfl,K2,I2,p2⟩) ?_)
   ·rintro x3 ⟨d1,i3,j3,out3,mg3,ca3,cb3⟩ st3 _ hx3 ⟨rfl,K3,I3,p3⟩
    dsimp only at I3 p3 ⊢
    have go:∀ mg',wpS M A E s (k1 a b out3 i3 j3 mg' ca3 cb3) (fun r st'=>match r with | .done c'=>fv rk a b (i + j) st c'.1 c'.2.2.2.1 c'.2.1 c'.2.2.1 st' | .yield c'=>c'.1=none/\Keep st st'/\HI rk a b c'.2.2.2.1 c'.2.1 c'.2.2.1/\c'.2.1 + c'.2.2.1 < i + j) st3:=fun mg'=>by
     refine Ge L H hk K3 I3 fun d c st4 hs hn=>?_
     cases d with
     | true=>
      show fv _ _ _ _ _ _ _ _ _ _
      refine⟨hs.1,?_⟩
      have h2:=hs.2
      cases e:c.1 with
      | some q=>rw[e]at h2;exact h2
      | none=>rw[e]at h2;exact⟨h2.1,by have:=h2.2;lia⟩
     | false=>
      have h2:=hs.2
      rw[hn rfl]at h2
      exact⟨hn rfl,hs.1,h2.1,by have:=h2.2;lia⟩
    split
    ·exact Nq (go _) fun r st' h=>by cases r <;> exact h
    exact Nq (go _) fun r st' h=>by cases r <;> exact h
   ·rintro⟨c1,i3,j3,out3,mg3,ca3,cb3⟩ st3 ⟨rfl,K3,I3,p3⟩
    exact⟨K3,I3,p3⟩
   rintro⟨c1,i3,j3,out3,mg3,ca3,cb3⟩ st3 ⟨K3,h3⟩
   cases c1 with
   | some q=>exact Mz ⟨q,rfl,K3,h3⟩
   | none=>
    obtain⟨I3,p3⟩:=h3
    refine Mv (j5 (Mz ⟨rfl,K3.g _,I3,?_⟩))
    dsimp only at p3 ⊢
    lia
 ·rintro⟨c1,i,j,out,mg⟩ st1 ⟨rfl,K1,I1,px⟩
  dsimp only at px
  lia
 rintro⟨c1,i,j,out,mg⟩ st1 ⟨q,e,K1,r⟩
 dsimp only at e
 subst e
 exact Mz (h q st1 K1 r)
end
def R(rk:Mq->Nat)(xs:Array Mq)(i:Nat):Nat:=match xs[i]? with
 | some p=>rk p
 | none=>0
structure Kp2 (st st':Mx):Prop where
 k:kindOf st'=kindOf st
 p:MF st'=MF st
 f:M1 st'=M1 st
 a:(Ms st').Perm (Ms st)
theorem Kp2.bD {st:Mx}:Kp2 st st:=⟨rfl,rfl,rfl,K_ _⟩
theorem Kp2.trans {s1 s2 s3:Mx}(h:Kp2 s1 s2)(g:Kp2 s2 s3):Kp2 s1 s3:=⟨g.k.trans h.k,g.p.trans h.p,g.f.trans h.f,g.a.trans h.a⟩
theorem Kp2.size {st st':Mx}(h:Kp2 st st'):(Ms st').size=(Ms st).size:=h.a.size_eq
section
variable{rk:Mq->Nat}
theorem cw{xs ys:Array Mq}{i j:Nat}(h:xs[i]?=ys[j]?):R rk xs i=R rk ys j:=by unfold R;rw[h]
theorem xH{xs:Array Mq}{i j:Nat}(hj:j<=xs.size)(k:Nat):R rk (mirror xs i j ((j - i) / 2)) k=if i<=k/\k < j then R rk xs (i + j - 1 - k)else R rk xs k:=by
 have:=Q7 (i:=i) hj k
 split at this <;> rename_i h
 ·rw[if_pos h];exact cw this
 rw[if_neg h];exact cw this
theorem wJ{xs:Array Mq}{src d:Nat}(hs:src < xs.size)(hd:d<=src)(k:Nat):R rk (R6 xs src d) k=if k=src - d then R rk xs src else if src - d < k/\k<=src then R rk xs (k - 1)else R rk xs k:=by
 have:=R7 hs d hd k
 split at this
 ·rename_i h;rw[if_pos h];exact cw this
 rename_i h
 rw[if_neg h]
 split at this
 ·rename_i h2;rw[if_pos h2];exact cw this
 rename_i h2;rw[if_neg h2];exact cw this
noncomputable def bK(rk:Mq->Nat)(xs:Array Mq)(lo n:Nat):Prop:=∀ i j,i<=j->j < n->R rk xs (lo + i)<=R rk xs (lo + j)
noncomputable def oF(rk:Mq->Nat)(xs:Array Mq)(lo n:Nat):Prop:=∀ i j,i<=j->j < n->R rk xs (lo + j)<=R rk xs (lo + i)
end
structure Within (st st':Mx) (lo n:Nat):Prop where
 kp:Kp2 st st'
 out:∀ k,(k < lo\/lo + n<=k)->(Ms st')[k]?=(Ms st)[k]?
theorem Within.bD {st:Mx}{lo n:Nat}:Within st st lo n:=⟨.bD,fun _ _=>rfl⟩
theorem Within.trans {s1 s2 s3:Mx}{lo n:Nat}(h:Within s1 s2 lo n)(g:Within s2 s3 lo n):Within s1 s3 lo n:=⟨h.kp.trans g.kp,fun k hk=>(g.out k hk).trans (h.out k hk)⟩
section
variable{M:Om}{A:MJ}{E:Mj->Mm->Prop}{s:Mm}{kd:Ng}{rk:Mq->Nat}{S:Mq->Prop}
def gZ(S:Mq->Prop)(st:Mx):Prop:=∀ p∈(Ms st).toList,S p
theorem gZ.at {st:Mx}(h:gZ S st){i:Nat}{p:Mq}(e:(Ms st)[i]?=some p):S p:=h p (by rw[<-e_]at e;exact HW e)
theorem gZ.kp {st st':Mx}(h:gZ S st)(k:Kp2 st st'):gZ S st':=fun p hp=>h p ((Ir.mp k.a).mem_iff.mp hp)
theorem eL{i j:Nat}{st:Mx}{Q:Option Bool->Mx->Prop}(L:bV M A E s kd rk S)(hk:kindOf st=kd)(hS:gZ S st)(hi:i < (Ms st).size)(hj:j < (Ms st).size)(q:Q (some (decide (R rk (Ms st) i < R rk (Ms st) j))) st):wpS M A E s (R8 i j) Q st:=by
 rw[ltAt'_eq]
 refine Mv (OE ?_)
 have e1:(Ms st)[i]?=some (Ms st)[i]:=i_ hi
 have e2:(Ms st)[j]?=some (Ms st)[j]:=i_ hj
 refine Mv (aP e1 (Mv (aP e2 (L _ _ st _ (hS.at e1) (hS.at e2) hk ?_))))
 unfold R at q
 rw[e1,e2]at q
 exact q
theorem xw{i j lo n:Nat}{st:Mx}{Q:Unit->Mx->Prop}(hl:lo<=i)(hj:j<=lo + n)(hsz:j<=(Ms st).size)(h:∀ st',Within st st' lo n->(∀ k,R rk (Ms st') k=if i<=k/\k < j then R rk (Ms st) (i + j - 1 - k)else R rk (Ms st) k)->Q () st'):wpS M A E s (Oz i j) Q st:=by
 rw[reverseSlice'_eq]
 refine Pa (h _ ⟨⟨rfl,rfl,rfl,mirror_perm _ _ _ _⟩,fun k hk=>?_⟩ fun k=>xH hsz k)
 show(mirror (Ms st) i j ((j - i) / 2))[k]?=_
 rw[Q7 hsz,if_neg (by lia)]
theorem AI{lo n ok:Nat}{st:Mx}{Q:Bool->Mx->Prop}(L:bV M A E s kd rk S)(hk:kindOf st=kd)(hS:gZ S st)(hn:lo + n<=(Ms st).size)(hok:ok<=n)(hs:bK rk (Ms st) lo ok)
  (h:∀ st',Within st st' lo n->bK rk (Ms st') lo n->Q true st'):wpS M A E s (Uh lo n ok) Q st:=by
 rw[binarySort'_eq]
 refine Mv (Nq (M7 (I:=fun k c st'=>c=(none,())/\Within st st' lo n/\bK rk (Ms st') lo k) (Q:=fun c st'=>c=(none,())/\Within st st' lo n/\bK rk (Ms st') lo (max (max ok 1) n)) ?_ (fun c st' z=>z) ⟨rfl,.bD,fun i j h1 h2=>?_⟩) ?_)
 ·rintro k c st1 hk1 hk2 ⟨rfl,W,s1⟩
  have sz1:=W.kp.size
  have hS1:=hS.kp W.kp
  refine Mv (Nq (M7 (I:=fun x c st'=>st'=st1/\∃ l r,c=(none,l,r)/\l<=r/\r<=k/\r - l<=k - x/\(∀ i,i < l->R rk (Ms st1) (lo + i)<=R rk (Ms st1) (lo + k))/\(∀ i,r<=i->i < k->R rk (Ms st1) (lo + k) < R rk (Ms st1) (lo + i)))
   (Q:=fun c st'=>st'=st1/\∃ l,c=(none,l,l)/\l<=k/\(∀ i,i < l->R rk (Ms st1) (lo + i)<=R rk (Ms st1) (lo + k))/\(∀ i,l<=i->i < k->R rk (Ms st1) (lo + k) < R rk (Ms st1) (lo + i))) ?_ ?_ ⟨rfl,0,k,rfl,F' _,f_ _,by lia,fun i hi=>by lia,fun i h1 h2=>by lia⟩) ?_)
  ·rintro x c st2 _ hx ⟨rfl,l,r,rfl,g1,g2,g3,g4,g5⟩
   dsimp only
   by_cases z:l>=r
   ·rw[if_pos z]
    have e:l=r:=by lia
    subst e
    exact Mz ⟨rfl,l,rfl,g2,g4,g5⟩
   rw[if_neg z]
   have m1:l<=(l + r) / 2:=by omega
   have m2:(l + r) / 2 < r:=by omega
   generalize (l + r) / 2=m at m1 m2 ⊢
   have m3:=x_ m2 g2
   have sz:∀ {y},y<=k->lo + y < (Ms st2).size:=fun h=>by lia
   refine Mv (eL L (W.kp.k.trans hk) hS1 (sz (f_ _)) (sz (HN m3)) ?_)
   dsimp only
   by_cases w:R rk (Ms st2) (lo + k) < R rk (Ms st2) (lo + m)
   ·rw[decide_eq_true w,if_pos rfl]
    exact Mz ⟨rfl,l,m,rfl,m1,HN m3,by lia,g4,fun i h1 h2=>x_ w (s1 m i h1 h2)⟩
   rw[decide_eq_false w,if_neg (by simp)]
   exact Mz ⟨rfl,m + 1,r,rfl,m2,g2,by lia,fun i hi=>v_ (s1 i m (J4 hi) m3) (Ia w),g5⟩
  ·rintro c st2 ⟨rfl,l,r,rfl,g1,g2,g3,g4,g5⟩
   have e:l=r:=by lia
   subst e
   exact⟨rfl,l,rfl,g2,g4,g5⟩
  rintro c st2 ⟨rfl,l,rfl,g2,g4,g5⟩
  dsimp only
  rw[moveDown'_eq]
  have hk1:lo + k < (Ms st2).size:=by lia
  have e0:lo + k - (lo + k - (lo + l))=lo + l:=Nat.sub_sub_self (JN g2 lo)
  have hb:∀ j,R rk (R6 (Ms st2) (lo + k) (lo + k - (lo + l))) (lo + j)=if j=l then R rk (Ms st2) (lo + k)else if l < j/\j<=k then R rk (Ms st2) (lo + (j - 1))else R rk (Ms st2) (lo + j):=fun j=>by
   rw[wJ hk1 (IT ..),e0]
   by_cases c1:j=l
   ·rw[if_pos c1,if_pos (congrArg (lo + ·) c1)]
   rw[if_neg c1,if_neg (fun z=>c1 (Nat.add_left_cancel z))]
   by_cases c2:l < j/\j<=k
   ·rw[if_pos c2,if_pos ⟨Kr c2.1 lo,JN c2.2 lo⟩,LB (Nat.one_le_of_lt c2.1)]
   rw[if_neg c2,if_neg (fun z=>c2 ⟨Nat.lt_of_add_lt_add_left z.1,Nat.le_of_add_le_add_left z.2⟩)]
  refine Mv (Pa (Mz ⟨rfl,W.trans ⟨⟨rfl,rfl,rfl,bubble_perm _ _ _⟩,fun j hj=>?_⟩,fun i j hij hj=>?_⟩))
  ·show(R6 (Ms st2) (lo + k) (lo + k - (lo + l)))[j]?=_
   rw[R7 hk1 _ (IT ..),e0,if_neg (by lia),if_neg (by lia)]
  show R rk (R6 (Ms st2) (lo + k) (lo + k - (lo + l))) (lo + i)<=R rk (R6 (Ms st2) (lo + k) (lo + k - (lo + l))) (lo + j)
  rw[hb,hb]
  have ss:∀ p q,p<=q->q < k->R rk (Ms st2) (lo + p)<=R rk (Ms st2) (lo + q):=s1
  have hj:j<=k:=J4 hj
  have dn:∀ {x},l < x->x<=k->x - 1 < k:=fun a b=>x_ (Nat.sub_one_lt_of_lt a) b
  by_cases i1:i < l
  ·rw[if_neg (u_ i1),if_neg (fun z=>Nat.lt_asymm z.1 i1)]
   by_cases j2:j=l
   ·rw[if_pos j2]
    exact g4 i i1
   rw[if_neg j2]
   by_cases j1:l < j
   ·rw[if_pos ⟨j1,hj⟩]
    exact ss i (j - 1) (Kh (Ke i1 j1)) (dn j1 hj)
   rw[if_neg (fun z=>j1 z.1)]
   exact ss i j hij (x_ (Jr (Ia j1) j2) g2)
  by_cases i2:i=l
  ·rw[if_pos i2]
   by_cases j2:j=l
   ·rw[if_pos j2]
    exact f_ _
   have j1:l < j:=Jr (i2 ▸ hij) (fun z=>j2 z.symm)
   rw[if_neg j2,if_pos ⟨j1,hj⟩]
   exact HN (g5 (j - 1) (Kh j1) (dn j1 hj))
  have i3:l < i:=Jr (Ia i1) (fun z=>i2 z.symm)
  have j1:=x_ i3 hij
  rw[if_neg i2,if_pos ⟨i3,v_ hij hj⟩,if_neg (fun z=>IX _ (z ▸ j1)),if_pos ⟨j1,hj⟩]
  exact ss (i - 1) (j - 1) (Lj hij 1) (dn j1 hj)
 ·by_cases z:1<=ok
  ·rw[Nat.max_eq_left z]at h2
   exact hs i j h1 h2
  have:i=j:=by lia
  subst this
  exact f_ _
 rintro c st1 ⟨rfl,W,s1⟩
 exact Mz (h st1 W fun i j h1 h2=>s1 i j h1 (by lia))
end
theorem uV{l x:Nat}(h:1<=x):l + (x - 1)=l + x - 1:=(LB h l).symm
theorem CY{l k:Nat}(h:l<=k):l + (k - l)=k:=JP h
theorem FD{l a i:Nat}(h:i < a):l + (l + a) - 1 - (l + i)=l + (a - 1 - i):=by lia
theorem DL{l x k:Nat}(h0:l<=k)(h:k < l + x):k - l < x:=JR h0 h
noncomputable def yC(l0 a0 q0:Nat):StateT Mx Sem (Option Nat):=do
 let mut n:=a0
 for _ in [a0:q0]do
  let some sm <-R8 (l0 + n) (l0 + n - 1) | return none
  if sm then break
  n:=n + 1
 return some n
def nS(l0 a0 q0:Nat):StateT Mx Sem (Option Nat):=do
 Oz l0 (l0 + a0)
 yC l0 a0 q0
noncomputable def nJ(l0 a0 q0:Nat):StateT Mx Sem (Option Nat):=do
 rule "list.sort.descending-run"
 let mut n:=a0 + 1
 let mut eq:=0
 for _ in [n:q0]do
  let some sm <-R8 (l0 + n) (l0 + n - 1) | return none
  if sm then
   if eq > 0 then Oz (l0 + n - (eq + 1)) (l0 + n)
   eq:=0
  else
   let some la <-R8 (l0 + n - 1) (l0 + n) | return none
   if la then break
   eq:=eq + 1
  n:=n + 1
 if eq > 0 then
  Oz (l0 + n - (eq + 1)) (l0 + n)
  nS l0 n q0
 else nS l0 n q0
theorem Gp(l0 q0:Nat):SE l0 q0=(do
 let mut n:=1
 for _ in [1:q0]do
  let some sm <-R8 (l0 + n) (l0 + n - 1) | return none
  if sm then break
  n:=n + 1
 if n == q0 then return some n
 if n > 1 then
  let some ro <-R8 l0 (l0 + n - 1) | return none
  if ro then return some n
  Oz l0 (l0 + n)
  nJ l0 n q0
 else nJ l0 n q0):=rfl
section
variable{M:Om}{A:MJ}{E:Mj->Mm->Prop}{s:Mm}{kd:Ng}{rk:Mq->Nat}{S:Mq->Prop}
theorem bK.snoc {xs:Array Mq}{lo n:Nat}(h:bK rk xs lo n)(h1:1<=n)(k:R rk xs (lo + n - 1)<=R rk xs (lo + n)):bK rk xs lo (n + 1):=fun i j hij hj=>by
 by_cases z:j < n
 ·exact h i j hij z
 have e:j=n:=by lia
 subst e
 by_cases w:i=j
 ·subst w;exact f_ _
 have:=h i (j - 1) (by lia) (by lia)
 rw[uV h1]at this
 exact v_ this k
theorem yR{l0 a0 q0:Nat}{st:Mx}{Q:Option Nat->Mx->Prop}(L:bV M A E s kd rk S)(hk:kindOf st=kd)(hS:gZ S st)(hsz:l0 + q0<=(Ms st).size)(h1:1<=a0)(h2:a0<=q0)(hs:bK rk (Ms st) l0 a0)
  (h:∀ n,a0<=n->n<=q0->bK rk (Ms st) l0 n->Q (some n) st):wpS M A E s (yC l0 a0 q0) Q st:=by
 unfold yC
 dsimp only
 refine Mv (Nq (M7 (I:=fun x c st'=>st'=st/\c=(none,x)/\bK rk (Ms st) l0 x) (Q:=fun c st'=>st'=st/\∃ n,c=(none,n)/\a0<=n/\n<=q0/\bK rk (Ms st) l0 n) ?_ ?_ ⟨rfl,rfl,hs⟩) ?_)
 ·rintro x c st1 hx1 hx2 ⟨rfl,rfl,s1⟩
  dsimp only
  refine Mv (eL L hk hS (by lia) (by lia) ?_)
  dsimp only
  by_cases w:R rk (Ms st1) (l0 + x) < R rk (Ms st1) (l0 + x - 1)
  ·rw[decide_eq_true w,if_pos rfl]
   exact Mz ⟨rfl,x,rfl,hx1,by lia,s1⟩
  rw[decide_eq_false w,if_neg (by simp)]
  exact Mz ⟨rfl,rfl,s1.snoc (by lia) (by lia)⟩
 ·rintro c st1 ⟨rfl,rfl,s1⟩
  rw[KZ h2]at s1 ⊢
  exact⟨rfl,q0,rfl,h2,f_ _,s1⟩
 rintro c st1 ⟨rfl,n,rfl,g1,g2,g3⟩
 exact Mz (h n g1 g2 g3)
theorem kJ{l0 a0 q0:Nat}{st:Mx}{Q:Option Nat->Mx->Prop}(L:bV M A E s kd rk S)(hk:kindOf st=kd)(hS:gZ S st)(hsz:l0 + q0<=(Ms st).size)(h1:1<=a0)(h2:a0<=q0)(hs:oF rk (Ms st) l0 a0)
  (h:∀ n st',a0<=n->n<=q0->Within st st' l0 q0->bK rk (Ms st') l0 n->Q (some n) st'):wpS M A E s (nS l0 a0 q0) Q st:=by
 unfold nS
 refine Mv (xw (rk:=rk) (lo:=l0) (n:=q0) (f_ _) (by lia) (by lia) fun st1 W1 r1=>?_)
 refine yR L (W1.kp.k.trans hk) (hS.kp W1.kp) (by rw[W1.kp.size];exact hsz) h1 h2 (fun i j hij hj=>?_) fun n g1 g2 g3=>h n st1 g1 g2 W1 g3
 have hi:=Ij hij hj
 rw[r1,r1,if_pos ⟨KW ..,Kr hi l0⟩,if_pos ⟨KW ..,Kr hj l0⟩,FD hi,FD hj]
 exact hs (a0 - 1 - j) (a0 - 1 - i) (Nat.sub_le_sub_left hij _) (Ij (IT _ _) (KO h1 Jt))
theorem jN{i j lo n:Nat}{st:Mx}{Q:Unit->Mx->Prop}(hl:lo<=i)(hj:j<=lo + n)(hsz:j<=(Ms st).size)(heq:∀ k,i<=k->k < j->R rk (Ms st) k=R rk (Ms st) (j - 1))(h:∀ st',Within st st' lo n->(∀ k,R rk (Ms st') k=R rk (Ms st) k)->Q () st'):wpS M A E s (Oz i j) Q st:=by
 refine xw (rk:=rk) hl hj hsz fun st1 W r1=>h st1 W fun k=>?_
 rw[r1]
 split
 ·rename_i z
  rw[heq k z.1 z.2,heq (i + j - 1 - k) (by(clear r1 W h heq hsz hj hl;lia)) (by(clear r1 W h heq hsz hj hl;lia))]
 rfl
theorem oF.snoc {xs:Array Mq}{lo n:Nat}(h:oF rk xs lo n)(h1:1<=n)(k:R rk xs (lo + n)<=R rk xs (lo + n - 1)):oF rk xs lo (n + 1):=fun i j hij hj=>by
 by_cases z:j < n
 ·exact h i j hij z
 have e:j=n:=by lia
 subst e
 by_cases w:i=j
 ·subst w;exact f_ _
 have:=h i (j - 1) (by lia) (by lia)
 rw[show lo + (j - 1)=lo + j - 1 by lia]at this
 exact v_ k this
theorem kT{l0 a0 q0:Nat}{st:Mx}{Q:Option Nat->Mx->Prop}(L:bV M A E s kd rk S)(hk:kindOf st=kd)(hS:gZ S st)(hsz:l0 + q0<=(Ms st).size)(h2:a0 + 1<=q0)(hs:oF rk (Ms st) l0 (a0 + 1))(hr:∀ x,Mr M A (rule x) (fun _ s'=>s'=s) E s)
  (h:∀ n st',1<=n->n<=q0->Within st st' l0 q0->bK rk (Ms st') l0 n->Q (some n) st'):wpS M A E s (nJ l0 a0 q0) Q st:=by
 unfold nJ
 refine Mv (Qd (MP (hr _) (fun _ _ z=>⟨z,?_⟩) fun _ _ z=>z))
 dsimp only
 refine Mv (Nq (M7 (I:=fun x c st'=>∃ eq,c=(none,x,eq)/\Within st st' l0 q0/\oF rk (Ms st') l0 x/\eq + 1<=x/\∀ k,x - 1 - eq<=k->k < x->R rk (Ms st') (l0 + k)=R rk (Ms st') (l0 + (x - 1)))
  (Q:=fun c st'=>∃ n eq,c=(none,n,eq)/\a0 + 1<=n/\n<=q0/\Within st st' l0 q0/\oF rk (Ms st') l0 n/\eq + 1<=n/\∀ k,n - 1 - eq<=k->k < n->R rk (Ms st') (l0 + k)=R rk (Ms st') (l0 + (n - 1))) ?_ ?_ ⟨0,rfl,.bD,hs,by lia,fun k h1 h2=>by rw[show k=a0 + 1 - 1 by lia]⟩) ?_)
 ·rintro x c st1 hx1 hx2 ⟨eq,rfl,W,d1,e1,ev⟩
  dsimp only
  have hk1:=W.kp.k.trans hk
  have hS1:=hS.kp W.kp
  have sz1:=W.kp.size
  have x1:1<=x:=v_ (LU 1 eq) e1
  have b1:l0 + x < (Ms st1).size:=by lia
  have b2:l0 + x - 1 < (Ms st1).size:=Ij (IT ..) b1
  refine Mv (eL L hk1 hS1 b1 b2 ?_)
  dsimp only
  by_cases w:R rk (Ms st1) (l0 + x) < R rk (Ms st1) (l0 + x - 1)
  ·rw[decide_eq_true w,if_pos rfl]
   have fin:∀ st2,Within st st2 l0 q0->(∀ k,R rk (Ms st2) k=R rk (Ms st1) k)->∃ eq',((none,x + 1,0):Option (Option Nat) × Nat × Nat)=(none,x + 1,eq')/\Within st st2 l0 q0/\oF rk (Ms st2) l0 (x + 1)/\eq' + 1<=x + 1/\∀ k,x + 1 - 1 - eq'<=k->k < x + 1->R rk (Ms st2) (l0 + k)=R rk (Ms st2) (l0 + (x + 1 - 1)):=fun st2 W2 r2=>by
    refine⟨0,rfl,W2,fun i j hij hj=>?_,by lia,fun k h1 h2=>by rw[show k=x + 1 - 1 by lia]⟩
    rw[r2,r2]
    exact d1.snoc x1 (HN w) i j hij hj
   by_cases z:eq > 0
   ·rw[if_pos z]
    refine Mv (jN (rk:=rk) (lo:=l0) (n:=q0) (by lia) (by lia) (by lia) (fun k h1 h2=>?_) fun st2 W2 r2=>Mz (fin st2 (W.trans W2) r2))
    have k0:l0<=k:=by lia
    have:=ev (k - l0) (by lia) (DL k0 h2)
    rw[CY k0,uV x1]at this
    exact this
   rw[if_neg z]
   exact Mz (fin st1 W fun _=>rfl)
  rw[decide_eq_false w,if_neg (by simp)]
  refine Mv (eL L hk1 hS1 b2 b1 ?_)
  dsimp only
  by_cases v:R rk (Ms st1) (l0 + x - 1) < R rk (Ms st1) (l0 + x)
  ·rw[decide_eq_true v,if_pos rfl]
   exact Mz ⟨x,eq,rfl,hx1,by lia,W,d1,e1,ev⟩
  rw[decide_eq_false v,if_neg (by simp)]
  have ee:R rk (Ms st1) (l0 + x)=R rk (Ms st1) (l0 + x - 1):=LV (Ia v) (Ia w)
  refine Mz ⟨eq + 1,rfl,W,d1.snoc x1 (JS ee),by lia,fun k h1 h2=>?_⟩
  rw[show l0 + (x + 1 - 1)=l0 + x by lia]
  by_cases y:k=x
  ·rw[y]
  have:=ev k (by lia) (by lia)
  rw[uV x1]at this
  exact this.trans ee.symm
 ·rintro c st1 ⟨eq,rfl,W,d1,e1,ev⟩
  rw[KZ h2]at d1 e1 ev ⊢
  exact⟨q0,eq,rfl,h2,f_ _,W,d1,e1,ev⟩
 rintro c st1 ⟨n,eq,rfl,g1,g2,W,d1,e1,ev⟩
 have sz1:=W.kp.size
 dsimp only
 by_cases z:eq > 0
 ·rw[if_pos z]
  refine Mv (jN (rk:=rk) (lo:=l0) (n:=q0) (by lia) (by lia) (by lia) (fun k h1 h2=>?_) fun st2 W2 r2=>?_)
  ·have k0:l0<=k:=by lia
   have:=ev (k - l0) (by lia) (DL k0 h2)
   rw[CY k0,uV (v_ (LU 1 eq) e1)]at this
   exact this
  refine kJ L ((W.trans W2).kp.k.trans hk) (hS.kp (W.trans W2).kp) (by rw[(W.trans W2).kp.size];exact hsz) (by lia) g2 (fun i j hij hj=>by rw[r2,r2];exact d1 i j hij hj) fun m st3 k1 k2 W3 s3=>h m st3 (by lia) k2 ((W.trans W2).trans W3) s3
 rw[if_neg z]
 exact kJ L (W.kp.k.trans hk) (hS.kp W.kp) (by rw[sz1];exact hsz) (by lia) g2 d1 fun m st3 k1 k2 W3 s3=>h m st3 (by lia) k2 (W.trans W3) s3
theorem oJ{l0 q0:Nat}{st:Mx}{Q:Option Nat->Mx->Prop}(L:bV M A E s kd rk S)(hk:kindOf st=kd)(hS:gZ S st)(hsz:l0 + q0<=(Ms st).size)(h1:1<=q0)(hr:∀ x,Mr M A (rule x) (fun _ s'=>s'=s) E s)
  (h:∀ n st',1<=n->n<=q0->Within st st' l0 q0->bK rk (Ms st') l0 n->Q (some n) st'):wpS M A E s (SE l0 q0) Q st:=by
 rw[Gp]
 dsimp only
 refine Mv (Nq (M7 (I:=fun x c st'=>st'=st/\c=(none,x)/\bK rk (Ms st) l0 x) (Q:=fun c st'=>st'=st/\∃ n,c=(none,n)/\1<=n/\n<=q0/\bK rk (Ms st) l0 n/\(n=q0\/R rk (Ms st) (l0 + n) < R rk (Ms st) (l0 + n - 1))) ?_ ?_ ⟨rfl,rfl,fun i j h1 h2=>by rw[show i=j by lia];exact f_ _⟩) ?_)
 ·rintro x c st1 hx1 hx2 ⟨rfl,rfl,s1⟩
  dsimp only
  refine Mv (eL L hk hS (by lia) (by lia) ?_)
  dsimp only
  by_cases w:R rk (Ms st1) (l0 + x) < R rk (Ms st1) (l0 + x - 1)
  ·rw[decide_eq_true w,if_pos rfl]
   exact Mz ⟨rfl,x,rfl,hx1,by lia,s1,.inr w⟩
  rw[decide_eq_false w,if_neg (by simp)]
  exact Mz ⟨rfl,rfl,s1.snoc (by(clear w s1 h hsz hS hk hx2 hr h1 L;omega)) (by lia)⟩
 ·rintro c st1 ⟨rfl,rfl,s1⟩
  rw[KZ h1]at s1 ⊢
  exact⟨rfl,q0,rfl,h1,f_ _,s1,.inl rfl⟩
 rintro c st1 ⟨rfl,n,rfl,g1,g2,g3,g4⟩
 dsimp only
 by_cases e:n=q0
 ·rw[if_pos (by rw[e];exact beq_self_eq_true _)]
  exact Mz (h n st1 g1 g2 .bD g3)
 rw[if_neg (by simpa using e)]
 have lt:=g4.resolve_left e
 by_cases z:n > 1
 ·rw[if_pos z]
  refine Mv (eL L hk hS (by lia) (by(clear lt e g4 g3 g1 h hS hk hr h1 L;lia)) ?_)
  dsimp only
  by_cases w:R rk (Ms st1) l0 < R rk (Ms st1) (l0 + n - 1)
  ·rw[decide_eq_true w,if_pos rfl]
   exact Mz (h n st1 g1 g2 .bD g3)
  rw[decide_eq_false w,if_neg (by simp)]
  have all:∀ k,l0<=k->k < l0 + n->R rk (Ms st1) k=R rk (Ms st1) (l0 + n - 1):=fun k h1 h2=>by
   have kn:=DL h1 h2
   have a:=g3 0 (k - l0) (F' _) kn
   have b:=g3 (k - l0) (n - 1) (Kh kn) (KO g1 Jt)
   rw[CY h1]at a b
   rw[uV g1]at b
   rw[Ki]at a
   exact LV b (v_ (Ia w) a)
  refine Mv (jN (rk:=rk) (lo:=l0) (n:=q0) (f_ _) (by(clear all w z lt e g4 g3 g1 h hsz hS hk hr h1 L;lia)) (by(clear all w z lt e g4 g3 g1 h hS hk hr h1 L;lia)) all fun st2 W2 r2=>?_)
  refine kT L (W2.kp.k.trans hk) (hS.kp W2.kp) (by rw[W2.kp.size];exact hsz) (by lia) (fun i j hij hj=>?_) hr fun m st3 k1 k2 W3 s3=>h m st3 k1 k2 (W2.trans W3) s3
  rw[r2,r2]
  by_cases y:j < n
  ·rw[all (l0 + i) (by lia) (by lia),all (l0 + j) (by lia) (by(clear hj hij r2 W2 all w z lt e g4 g3 g2 g1 h hsz hS hk hr h1 L;lia))]
   exact f_ _
  rw[show j=n by lia]
  by_cases y2:i < n
  ·rw[all (l0 + i) (by lia) (by(clear y hj hij r2 W2 all w z lt e g4 g3 g2 g1 h hsz hS hk hr h1 L;lia))];exact HN lt
  rw[show i=n by(clear y r2 W2 all w z lt e g4 g3 g2 g1 h hsz hS hk hr h1 L;lia)];exact f_ _
 rw[if_neg z]
 have n1:n=1:=by lia
 subst n1
 refine kT L hk hS hsz (by lia) (fun i j hij hj=>?_) hr fun m st3 k1 k2 W3 s3=>h m st3 k1 k2 W3 s3
 by_cases y:i=j
 ·rw[y];exact f_ _
 rw[show i=0 by lia,show j=1 by lia]
 exact HN lt
end
noncomputable def wrote(xs:Array Mq)(q:Nat)(ys:Array Mq):Array Mq:=ys.toList.zipIdx.foldl (fun u (p,j)=>u.setIfInBounds (q + j) p) xs
theorem Ei(i:Nat):QY i=(do
 let st <-get
 let (some (s1,n1,pw),some (s2,n2,_)):=((MF st)[i]?,(MF st)[i + 1]?) | unsupported "internal:list.sort.pending"
 set (NF (kindOf st) (Ms st) (((MF st).setIfInBounds i (s1,n1 + n2,pw)).eraseIdxIfInBounds (i + 1)) (Qc st) (M1 st))
 let some k <-gal false (<-M8 (Ms st) s2) (Ms st) s1 n1 0 | return false
 let (s1,n1):=(s1 + k,n1 - k)
 if n1 == 0 then return true
 let some n2 <-gal true (<-M8 (Ms st) (s1 + n1 - 1)) (Ms st) s2 n2 (n2 - 1) | return false
 if n2 == 0 then return true
 let x:=(Ms st).extract s1 s2
 let y:=(Ms st).extract s2 (s2 + n2)
 let mm <-if n1<=n2 then mLo x y else mHi x y
 modify fun z=>setArr z (wrote (Ms z) s1 mm)
 return (M1 (<-get)).isNone):=rfl
theorem kS(q:Nat):∀(l:List Mq) (n:Nat) (xs:Array Mq),q + n + l.length<=xs.size->((l.zipIdx n).foldl (fun u (p,j)=>u.setIfInBounds (q + j) p) xs).toList=xs.toList.take (q + n)++(l++xs.toList.drop (q + n + l.length))
 | [],n,xs,_=>by
  simp
 | p::t,n,xs,h=>by
  rw[k_]at h
  rw[KS,List.foldl_cons,kS q t (n + 1) _ (by rw[K0];lia),KJ]
  have hl:q + n < xs.toList.length:=by rw[g_];lia
  rw[show q + (n + 1)=q + n + 1 by lia,Im,List.take_set_of_le (f_ _),J5 hl,List.drop_set_of_lt (by lia),k_,show q + n + 1 + t.length=q + n + (t.length + 1) by lia]
  simp
theorem qG{xs ys:Array Mq}{q:Nat}(h:q + ys.size<=xs.size):(wrote xs q ys).toList=xs.toList.take q++(ys.toList++xs.toList.drop (q + ys.size)):=by
 have:=kS q ys.toList 0 xs (by rw[g_];exact h)
 rw[g_]at this
 exact this
theorem wx{a b c:List Mq}{i:Nat}(h:a.length=b.length)(hi:a.length<=i):(a++c)[i]?=(b++c)[i]?:=by rw[H_ hi,H_ (by lia),h]
section
variable{rk:Mq->Nat}
theorem tX{xs:Array Mq}{i:Nat}{p:Mq}(h:xs.toList[i]?=some p):R rk xs i=rk p:=by
 unfold R
 rw[<-e_,h]
theorem dR{xs:Array Mq}{lo n:Nat}(h:bK rk xs lo n):Srt rk ((xs.toList.drop lo).take n):=by
 refine Ji.mpr fun i j hi hj hij=>?_
 have hj':j < n:=by rw[D_]at hj;lia
 have ei:=d_ hi
 have ej:=d_ hj
 rw[Jq,if_pos (by lia),Jb]at ei ej
 have:=h i j (by lia) hj'
 rw[tX ei,tX ej]at this
 exact this
theorem n0{l k n:Nat}(h:k<=n):l + k + (n - k)=l + n:=by rw[JL,JP h]
theorem xh{xs:Array Mq}{lo n:Nat}(hn:lo + n<=xs.size)(h:Srt rk ((xs.toList.drop lo).take n)):bK rk xs lo n:=by
 intro i j hij hj
 by_cases e:i=j
 ·rw[e];exact f_ _
 have len:((xs.toList.drop lo).take n).length=n:=by rw[D_,HL,g_];lia
 have hi':i < ((xs.toList.drop lo).take n).length:=by lia
 have hj':j < ((xs.toList.drop lo).take n).length:=by lia
 have:=Ji.mp h i j hi' hj' (by lia)
 have ei:=d_ hi'
 have ej:=d_ hj'
 rw[Jq,if_pos (by lia),Jb]at ei ej
 rw[tX ei,tX ej]
 exact this
theorem pH{xs:Array Mq}{lo n m:Nat}(h1:bK rk xs lo n)(h2:bK rk xs (lo + n) m)(h:∀ i j,i < n->j < m->R rk xs (lo + i)<=R rk xs (lo + n + j)):bK rk xs lo (n + m):=by
 intro i j hij hj
 by_cases z:j < n
 ·exact h1 i j hij z
 by_cases w:i < n
 ·have:=h i (j - n) w (JR (Ia z) hj)
  rw[n0 (Ia z)]at this
  exact this
 have:=h2 (i - n) (j - n) (Lj hij n) (JR (Ia z) hj)
 rw[n0 (Ia z),n0 (Ia w)]at this
 exact this
theorem fJ{T:List Mq}{lo k n:Nat}(h:k<=n):(T.drop lo).take n=(T.drop lo).take k++(T.drop (lo + k)).take (n - k):=by
 conv=>lhs;rw[show n=k + (n - k)from(JP h).symm,KI,JY]
theorem merged{xs r:Array Mq}{lo k n m c:Nat}(hk:k<=n)(hc:c<=m)(hsz:lo + n + m<=xs.size)(o1:bK rk xs lo n)(o2:bK rk xs (lo + n) m)
  (a1:∀ p∈(xs.toList.drop lo).take k,∀ q∈(xs.toList.drop (lo + n)).take m,rk p<=rk q) (a2:∀ p∈(xs.toList.drop lo).take n,∀ q∈(xs.toList.drop (lo + n + c)).take (m - c),rk p<=rk q)
  (hr:Res rk ((xs.toList.drop (lo + k)).take (n - k)) ((xs.toList.drop (lo + n)).take c) r.toList) :
  (wrote xs (lo + k) r).Perm xs/\(∀ i,(i < lo\/lo + n + m<=i)->(wrote xs (lo + k) r)[i]?=xs[i]?)/\bK rk (wrote xs (lo + k) r) lo (n + m):=by
 have lr:r.size=n - k + c:=by
  have:=hr.1.length_eq
  rw[f',D_,D_,HL,HL,g_,g_]at this
  lia
 have wl:(wrote xs (lo + k) r).toList=xs.toList.take lo++((xs.toList.drop lo).take k++(r.toList++((xs.toList.drop (lo + n + c)).take (m - c)++xs.toList.drop (lo + n + m)))):=by
  rw[qG (by lia),KI,l_,lr,<-JL,n0 hk]
  congr 3
  have:=(G' (m - c) (xs.toList.drop (lo + n + c))).symm
  rw[JY,n0 hc]at this
  exact this
 have xl:xs.toList=xs.toList.take lo++((xs.toList.drop lo).take k++((xs.toList.drop (lo + k)).take (n - k)++(xs.toList.drop (lo + n)).take c++((xs.toList.drop (lo + n + c)).take (m - c)++xs.toList.drop (lo + n + m)))):=by
  have e1:=(G' lo xs.toList).symm
  have e2:=(G' k (xs.toList.drop lo)).symm
  have e3:=(G' (n - k) (xs.toList.drop (lo + k))).symm
  have e4:=(G' c (xs.toList.drop (lo + n))).symm
  have e5:=(G' (m - c) (xs.toList.drop (lo + n + c))).symm
  rw[JY]at e2 e3 e4 e5
  rw[n0 hk]at e3
  rw[n0 hc]at e5
  rw[l_,<-e5,<-e4,<-e3,<-e2,<-e1]
 have sz:(wrote xs (lo + k) r).size=xs.size:=by
  have:=congrArg J6 wl
  have h2:=congrArg J6 xl
  have h3:=hr.1.length_eq
  simp only[f']at this h2 h3
  have e1:=@g_ _ (wrote xs (lo + k) r)
  have e2:=@g_ _ xs
  lia
 have X:(xs.toList.drop lo).take n=(xs.toList.drop lo).take k++(xs.toList.drop (lo + k)).take (n - k):=fJ hk
 have Y:(xs.toList.drop (lo + n)).take m=(xs.toList.drop (lo + n)).take c++(xs.toList.drop (lo + n + c)).take (m - c):=fJ hc
 have sX:=dR o1
 have sY:=dR o2
 rw[X]at sX
 rw[Y]at sY
 obtain⟨sx1,sx2,sx⟩:=C_.mp sX
 obtain⟨sy1,sy2,sy⟩:=C_.mp sY
 refine⟨Ir.mpr ?_,fun i hi=>?_,xh (by lia) ?_⟩
 ·rw[wl]
  conv=>rhs;rw[xl]
  exact Ih _ (Ih _ (Lb _ hr.1))
 ·rw[<-e_,<-e_,wl]
  conv=>rhs;rw[xl]
  have hl1:(xs.toList.take lo).length=lo:=by rw[D_,g_];lia
  rcases hi with hi | hi
  ·rw[IQ (by lia),IQ (by lia)]
  have hl2:((xs.toList.drop lo).take k).length=k:=by rw[D_,HL,g_];lia
  have hl3:r.toList.length=n - k + c:=by rw[g_];exact lr
  have hl4:=hr.1.length_eq
  rw[<-l_,<-l_]
  conv=>rhs;rw[<-l_,<-l_]
  refine wx ?_ ?_
  ·rw[f',f',f',f',hl4]
  rw[f',f',hl1,hl2,hl3];lia
 have hl1:(xs.toList.take lo).length=lo:=by rw[D_,g_];lia
 have e:((wrote xs (lo + k) r).toList.drop lo).take (n + m)=(xs.toList.drop lo).take k++(r.toList++(xs.toList.drop (lo + n + c)).take (m - c)):=by
  rw[wl,List.drop_left' hl1,<-l_,<-l_,List.take_left',l_]
  rw[f',f',D_,D_,HL,HL,g_,g_]
  lia
 rw[e]
 have mr:∀ q∈r.toList,q∈(xs.toList.drop (lo + k)).take (n - k)\/q∈(xs.toList.drop (lo + n)).take c:=fun q hq=>z_.mp (hr.1.mem_iff.mp hq)
 refine C_.mpr ⟨sx1,C_.mpr ⟨hr.2,sy2,fun p hp q hq=>?_⟩,fun p hp q hq=>?_⟩
 ·rcases mr p hp with hp | hp
  ·exact a2 p (by rw[X];exact n_ _ hp) q hq
  exact sy p hp q hq
 rcases z_.mp hq with hq | hq
 ·rcases mr q hq with hq | hq
  ·exact sx p hp q hq
  exact a1 p hp q (by rw[Y];exact w_ _ hq)
 exact a1 p hp q (by rw[Y];exact n_ _ hq)
end
theorem A0{α:Type}{ps:Array α}{pre post:List α}{x y:α}(h:ps.toList=pre++x::y::post):ps[pre.length]?=some x/\ps[pre.length + 1]?=some y:=by
 rw[<-e_,<-e_,h]
 constructor
 ·rw[H_ (f_ _),JA];rfl
 rw[H_ (by lia),JZ];rfl
theorem uL{α:Type}{ps:Array α}{pre post:List α}{x y z:α}(h:ps.toList=pre++x::y::post):((ps.setIfInBounds pre.length z).eraseIdxIfInBounds (pre.length + 1)).toList=pre++z::post:=by
 have hs:ps.size=pre.length + (post.length + 2):=by rw[<-g_,h,f'];rfl
 have hb:pre.length + 1 < (ps.setIfInBounds pre.length z).size:=by rw[K0];lia
 unfold Array.eraseIdxIfInBounds
 rw[dif_pos hb,Array.toList_eraseIdx,KJ,h]
 rw[List.set_append_right _ _ (f_ _),JA,Lv,List.eraseIdx_append_of_length_le (by lia),JZ]
 rfl
section
variable{M:Om}{A:MJ}{E:Mj->Mm->Prop}{s:Mm}{kd:Ng}{rk:Mq->Nat}{S:Mq->Prop}
theorem Cp{σ:Type}{v st:σ}{Q:PUnit->σ->Prop}(q:Q ⟨⟩ v):wpS M A E s (set v:StateT σ Sem PUnit) Q st:=by
 unfold wpS
 rw[StateT.run_set]
 exact Mn ⟨rfl,q⟩
structure Mgd (rk:Mq->Nat) (st st':Mx) (lo n:Nat) (ps:List (Nat × Nat × Nat)):Prop where
 k:kindOf st'=kindOf st
 f:M1 st'=none
 p:(MF st').toList=ps
 a:(Ms st').Perm (Ms st)
 out:∀ i,(i < lo\/lo + n<=i)->(Ms st')[i]?=(Ms st)[i]?
 srt:bK rk (Ms st') lo n
theorem Di{pre post:List (Nat × Nat × Nat)}{s1 n1 pw n2 p2:Nat}{st:Mx}{Q:Bool->Mx->Prop}(L:bV M A E s kd rk S)(hk:kindOf st=kd)(hS:gZ S st)(hf:M1 st=none)(hr:∀ x,Mr M A (rule x) (fun _ s'=>s'=s) E s)
  (hp:(MF st).toList=pre++(s1,n1,pw)::(s1 + n1,n2,p2)::post) (h1:1<=n1) (h2:1<=n2) (hsz:s1 + n1 + n2<=(Ms st).size) (o1:bK rk (Ms st) s1 n1) (o2:bK rk (Ms st) (s1 + n1) n2)
  (h:∀ st',Mgd rk st st' s1 (n1 + n2) (pre++(s1,n1 + n2,pw)::post)->Q true st'):wpS M A E s (QY pre.length) Q st:=by
 rw[Ei]
 refine Mv (OE ?_)
 dsimp only
 obtain⟨e1,e2⟩:=A0 hp
 rw[e1,e2]
 dsimp only
 refine Mv (Cp ?_)
 generalize hst1:NF (kindOf st) (Ms st) (((MF st).setIfInBounds pre.length (s1,n1 + n2,pw)).eraseIdxIfInBounds (pre.length + 1)) (Qc st) (M1 st)=st1
 have k1:kindOf st1=kd:=by rw[<-hst1];exact hk
 have a1:Ms st1=Ms st:=by rw[<-hst1]
 have f1:M1 st1=none:=by rw[<-hst1];exact hf
 have p1:(MF st1).toList=pre++(s1,n1 + n2,pw)::post:=by rw[<-hst1];exact uL hp
 have SA:∀(i:Nat) p,(Ms st)[i]?=some p->S p:=fun i p e=>hS.at e
 have gt:∀ i,i < (Ms st).size->∃ p,(Ms st)[i]?=some p:=fun i hi=>⟨_,i_ hi⟩
 have RR:∀ {i:Nat} {p:Mq},(Ms st)[i]?=some p->R rk (Ms st) i=rk p:=fun{i p} e=>by unfold R;rw[e]
 obtain⟨ky,hky⟩:=gt (s1 + n1) (by lia)
 have iO:bK rk (Ms st) s1 (n1 + n2)->Q true st1:=fun z=>h st1 ⟨k1.trans hk.symm,f1,p1,by rw[a1],fun i _=>by rw[a1],by rw[a1];exact z⟩
 refine Mv (aP hky (Mv (eA L k1 (by lia) (by lia) SA (SA _ _ hky) (fun i j p q hij hj hp hq=>?_) fun k hk1 g1 g2=>?_)))
 ·have:=o1 i j hij hj
  rw[RR hp,RR hq]at this
  exact this
 dsimp only
 have below:∀ i,i < k->∀ j,j < n2->R rk (Ms st) (s1 + i)<=R rk (Ms st) (s1 + n1 + j):=fun i hi j hj=>by
  obtain⟨p,hp⟩:=gt (s1 + i) (by lia)
  have a:=g1 i p hi hp
  rw[if_neg (by simp)]at a
  have b:=o2 0 j (F' _) hj
  rw[Ki,RR hky]at b
  rw[RR hp]
  exact v_ a b
 by_cases z:n1 - k=0
 ·rw[if_pos (by rw[z];rfl)]
  exact Mz (iO (pH o1 o2 fun i j hi hj=>below i (by lia) j hj))
 rw[if_neg (by simpa using z)]
 obtain⟨la,hla⟩:=gt (s1 + n1 - 1) (by lia)
 rw[n0 hk1]
 refine Mv (aP hla (Mv (eA L k1 (by lia) (by omega) SA (SA _ _ hla) (fun i j p q hij hj hp hq=>?_) fun c hc1 d1 d2=>?_)))
 ·have:=o2 i j hij hj
  rw[RR hp,RR hq]at this
  exact this
 dsimp only
 have above:∀ i,i < n1->∀ j,c<=j->j < n2->R rk (Ms st) (s1 + i)<=R rk (Ms st) (s1 + n1 + j):=fun i hi j hj hj2=>by
  obtain⟨p,hp⟩:=gt (s1 + n1 + j) (by lia)
  have a:=d2 j p hj hj2 hp
  rw[if_pos rfl]at a
  have hn1:1<=n1:=by lia
  have b:=o1 i (n1 - 1) (by lia) (KO hn1 Jt)
  rw[uV hn1,RR hla]at b
  rw[RR hp]
  exact v_ b a
 by_cases w:c=0
 ·rw[if_pos (by rw[w];rfl)]
  exact Mz (iO (pH o1 o2 fun i j hi hj=>above i hi j (by lia) hj))
 rw[if_neg (by simpa using w)]
 have ex:((Ms st).extract (s1 + k) (s1 + n1)).toList=((Ms st).toList.drop (s1 + k)).take (n1 - k):=by
  have:=fI (Ms st) (s1 + k) (n1 - k)
  rw[n0 hk1]at this
  exact this
 have ey:=fI (Ms st) (s1 + n1) c
 have zx:((Ms st).extract (s1 + k) (s1 + n1)).size=n1 - k:=by rw[Lw];lia
 have zy:((Ms st).extract (s1 + n1) (s1 + n1 + c)).size=c:=by rw[Lw];lia
 have T2:∀ {i:Nat} {p:Mq},(Ms st).toList[i]?=some p->(Ms st)[i]?=some p:=fun{i p} e=>by rw[e_]at e;exact e
 have sX:=dR o1
 have sY:=dR o2
 rw[fJ hk1]at sX
 rw[fJ hc1]at sY
 have H:LoOk rk S ((Ms st).extract (s1 + k) (s1 + n1)) ((Ms st).extract (s1 + n1) (s1 + n1 + c)):=by
  refine⟨by rw[ex];exact(C_.mp sX).2.1,by rw[ey];exact(C_.mp sY).1,fun i p e=>?_,fun i p e=>?_,by lia,by lia,fun p e u hu=>?_,fun p e u hu=>?_⟩
  ·rw[Ju]at e
   split at e
   ·exact SA _ _ e
   cases e
  ·rw[Ju]at e
   split at e
   ·exact SA _ _ e
   cases e
  ·rw[Ju,if_pos (by lia),Ki,hky]at e
   cases e
   rw[ex]at hu
   obtain⟨j,hj,ej⟩:=cn hu
   have:=g2 (k + j) u (by lia) (by lia) (by rw[<-JL];exact T2 ej)
   rw[if_neg (by simp)]at this
   exact HN this
  rw[zx,Ju,if_pos (by lia),show s1 + k + (n1 - k - 1)=s1 + n1 - 1 by lia,hla]at e
  cases e
  rw[ey]at hu
  obtain⟨j,hj,ej⟩:=cn hu
  have:=d1 j u hj (T2 ej)
  rw[if_pos rfl]at this
  exact HN this
 have fin:∀ r st2,Keep st1 st2->Res rk ((Ms st).extract (s1 + k) (s1 + n1)).toList ((Ms st).extract (s1 + n1) (s1 + n1 + c)).toList r.toList->wpS M A E s (do
   modify fun z=>setArr z (wrote (Ms z) (s1 + k) r)
   let g <-get
   pure (M1 g).isNone:StateT Mx Sem Bool) Q st2:=fun r st2 K hres=>by
  rw[ex,ey]at hres
  refine Mv (Pa (Mv (OE (Mz ?_))))
  have hf2:M1 st2=none:=K.f.trans f1
  have aa:Ms st2=Ms st:=K.a.trans a1
  have q1:∀ p∈((Ms st).toList.drop s1).take k,∀ q∈((Ms st).toList.drop (s1 + n1)).take n2,rk p<=rk q:=fun p hp q hq=>by
   obtain⟨i,hi,ei⟩:=cn hp
   obtain⟨j,hj,ej⟩:=cn hq
   have:=below i hi j hj
   rw[RR (T2 ei),RR (T2 ej)]at this
   exact this
  have q2:∀ p∈((Ms st).toList.drop s1).take n1,∀ q∈((Ms st).toList.drop (s1 + n1 + c)).take (n2 - c),rk p<=rk q:=fun p hp q hq=>by
   obtain⟨i,hi,ei⟩:=cn hp
   obtain⟨j,hj,ej⟩:=cn hq
   have:=above i hi (c + j) (by lia) (by lia)
   rw[<-JL,RR (T2 ei),RR (T2 ej)]at this
   exact this
  obtain⟨m1,m2,m3⟩:=merged (rk:=rk) (xs:=Ms st) (r:=r) (lo:=s1) (k:=k) (n:=n1) (m:=n2) (c:=c) hk1 hc1 (by omega) o1 o2 q1 q2 hres
  rw[show(M1 (setArr st2 (wrote (Ms st2) (s1 + k) r))).isNone=true by show(M1 st2).isNone=true;rw[hf2];rfl]
  refine h _ ⟨K.k.trans (k1.trans hk.symm),hf2,?_,?_,fun i hi=>?_,?_⟩
  ·show(MF st2).toList=_
   rw[K.p]
   exact p1
  ·show(wrote (Ms st2) (s1 + k) r).Perm _
   rw[aa]
   exact m1
  ·show(wrote (Ms st2) (s1 + k) r)[i]?=_
   rw[aa]
   exact m2 i (by lia)
  show bK rk (wrote (Ms st2) (s1 + k) r) _ _
  rw[aa]
  exact m3
 by_cases v:n1 - k<=c
 ·rw[if_pos v]
  exact Mv (EC L H k1 fin hr)
 rw[if_neg v]
 exact Mv (EJ L H k1 fin hr)
end
abbrev CS:=Option Unit × Unit
abbrev LS:=Option Unit × Nat
noncomputable def j9(w0:Nat):StateT Mx Sem (ForInStep CS):=do
 let g <-get
 match(if(MF g).size > 1 then(MF g)[(MF g).size - 2]? else none)with
 | some (_,_,old)=>
  if old<=w0 then pure (My (none,()))
  else do
   let b <-QY ((MF g).size - 2)
   if(!b)=true then pure (My (some (),()))else pure (MG (none,()))
 | _=>pure (My (none,()))
noncomputable def nE(q0 n:Nat):StateT Mx Sem (ForInStep LS):=do
 modify fun z=>setPending z ((MF z).push (q0,n,0))
 pure (MG (none,q0 + n))
noncomputable def tl(sz q0 n:Nat):StateT Mx Sem (ForInStep LS):=do
 let g <-get
 match(MF g).back? with
 | some (s1,n1,_)=>do
  let c <-forIn [0:sz] ((none,()):CS) fun _ _=>j9 (power' sz (2 * s1 + n1) (2 * s1 + n1 + n1 + n) sz)
  match c.1 with
  | some r=>pure (My (some r,q0))
  | none=>do
   modify fun z=>setPending z ((MF z).modify ((MF z).size - 1) fun x=>(x.1,x.2.1,power' sz (2 * s1 + n1) (2 * s1 + n1 + n1 + n) sz))
   nE q0 n
 | _=>nE q0 n
noncomputable def fA(sz q0:Nat):StateT Mx Sem (ForInStep LS):=
 if q0>=sz then pure (My (none,q0))else do
  let f <-SE q0 (sz - q0)
  match f with
  | some n=>
   if n < Rr sz sz 0 then do
    rule "list.sort.binary-insertion"
    let b <-Uh q0 (min (sz - q0) (Rr sz sz 0)) n
    if(!b)=true then pure (My (some (),q0))else tl sz q0 (min (sz - q0) (Rr sz sz 0))
   else tl sz q0 n
  | _=>pure (My (some (),q0))
noncomputable def pick(ps:Array (Nat × Nat × Nat)):Nat:=
 if Mg (fun x=>decide (x < ps[ps.size - 2 + 1]?.elim 0 fun y=>y.2.1)) (if ps.size - 2 > 0 then JJ (fun y=>y.2.1) ps[ps.size - 2 - 1]? else none)=true then ps.size - 2 - 1 else ps.size - 2
noncomputable def tQ:StateT Mx Sem (ForInStep CS):=do
 let g <-get
 if(MF g).size<=1 then pure (My (none,()))
 else do
  let b <-QY (pick (MF g))
  if(!b)=true then pure (My (some (),()))else pure (MG (none,()))
theorem FY:sortRuns'=(do
 let g <-get
 let c <-forIn [0:(Ms g).size] ((none,0):LS) fun _ c=>fA (Ms g).size c.2
 match c.1 with
 | some r=>pure r
 | none=>do
  let d <-forIn [0:(Ms g).size] ((none,()):CS) fun _ _=>tQ
  match d.1 with
  | some r=>pure r
  | none=>pure ()):=by
 rw[sortRuns'_eq]
 dsimp only
 refine congrArg (bind get) (funext fun g=>?_)
 refine congr (congrArg bind ?_) (funext fun c=>?_)
 ·refine congrArg (forIn _ _) (funext fun _=>funext fun c=>?_)
  unfold fA
  refine ite_congr rfl (fun _=>rfl) (fun _=>?_)
  refine congrArg (bind _) (funext fun f=>?_)
  cases f with
  | none=>rfl
  | some n=>
   dsimp only
   refine ite_congr rfl (fun _=>congrArg (bind _) (funext fun _=>congrArg (bind _) (funext fun b=>ite_congr rfl (fun _=>rfl) (fun _=>?_)))) (fun _=>?_)
   all_goals
    unfold tl
    refine congrArg (bind _) (funext fun g=>?_)
    generalize (MF g).back?=bk
    rcases bk with _ | ⟨s1,n1,z⟩
    ·rfl
    dsimp only
    refine congr (congrArg bind ?_) (funext fun c=>?_)
    ·refine congrArg (forIn _ _) (funext fun _=>funext fun c=>?_)
     unfold j9
     refine congrArg (bind _) (funext fun g=>?_)
     generalize (if(MF g).size > 1 then(MF g)[(MF g).size - 2]? else none)=o
     rcases o with _ | ⟨_,_,_⟩ <;> rfl
    rcases c with⟨_ | _,_⟩ <;> rfl
 rcases c with⟨_ | _,_⟩
 ·dsimp only
  refine congr (congrArg bind ?_) (funext fun c=>?_)
  ·rfl
  rcases c with⟨_ | _,_⟩ <;> rfl
 rfl
noncomputable def Pd(rk:Mq->Nat)(xs:Array Mq):List (Nat × Nat × Nat)->Nat->Nat->Prop
 | [],a,b=>a=b
 | (c,n,_)::t,a,b=>c=a/\1<=n/\bK rk xs c n/\Pd rk xs t (a + n) b
section
variable{rk:Mq->Nat}
theorem Pd.le {xs:Array Mq}:∀ {l:List (Nat × Nat × Nat)} {a b:Nat},Pd rk xs l a b->a + l.length<=b
 | [],_,_,h=>JS h
 | (c,n,_)::t,a,b,h=>by
  have:=h.2.2.2.le
  have:=h.2.1
  rw[k_]
  lia
theorem Pd.congr {xs ys:Array Mq}:∀ {l:List (Nat × Nat × Nat)} {a b:Nat},Pd rk xs l a b->(∀ i,a<=i->i < b->R rk ys i=R rk xs i)->Pd rk ys l a b
 | [],_,_,h,_=>h
 | (c,n,_)::t,a,b,h,e=>by
  have le:=h.2.2.2.le
  have ca:=h.1
  refine⟨h.1,h.2.1,fun i j hij hj=>?_,h.2.2.2.congr fun i h1 h2=>e i (by lia) h2⟩
  rw[e _ (by lia) (by lia),e _ (by lia) (by lia)]
  exact h.2.2.1 i j hij hj
theorem cZ{xs:Array Mq}:∀ {l m:List (Nat × Nat × Nat)} {a b:Nat},Pd rk xs (l++m) a b↔∃ c,Pd rk xs l a c/\Pd rk xs m c b
 | [],m,a,b=>⟨fun h=>⟨a,rfl,h⟩,fun⟨c,e,h⟩=>by cases (show a=c from e);exact h⟩
 | (c,n,_)::t,m,a,b=>⟨fun h=>by
   obtain⟨d,h1,h2⟩:=cZ.mp h.2.2.2
   exact⟨d,⟨h.1,h.2.1,h.2.2.1,h1⟩,h2⟩,fun⟨d,h,h2⟩=>⟨h.1,h.2.1,h.2.2.1,cZ.mpr ⟨d,h.2.2.2,h2⟩⟩⟩
theorem Pd.modify {xs:Array Mq}{w0:Nat}:∀ {l:List (Nat × Nat × Nat)} {i a b:Nat},Pd rk xs l a b->Pd rk xs (l.modify i fun x=>(x.1,x.2.1,w0)) a b
 | [],i,_,_,h=>by cases i <;> exact h
 | (c,n,_)::t,0,a,b,h=>⟨h.1,h.2.1,h.2.2.1,h.2.2.2⟩
 | (c,n,_)::t,i + 1,a,b,h=>⟨h.1,h.2.1,h.2.2.1,h.2.2.2.modify⟩
theorem nN{α:Type}:∀ {l:List α} {i:Nat},i + 1 < l.length->∃ pre x y post,l=pre++x::y::post/\pre.length=i
 | x::y::t,0,_=>⟨[],x,y,t,rfl,rfl⟩
 | [_],0,h=>absurd h (by simp)
 | x::t,i + 1,h=>by
  obtain⟨p,a,b,q,e,f⟩:=nN (l:=t) (i:=i) (by rw[k_]at h;lia)
  exact⟨x::p,a,b,q,by rw[e];rfl,by rw[k_,f]⟩
 | [],_,h=>absurd h (by simp)
end
section
variable{M:Om}{A:MJ}{E:Mj->Mm->Prop}{s:Mm}{kd:Ng}{rk:Mq->Nat}{S:Mq->Prop}{a0:Array Mq}
structure Iv (kd:Ng) (rk:Mq->Nat) (a0:Array Mq) (q0:Nat) (st:Mx):Prop where
 k:kindOf st=kd
 f:M1 st=none
 a:(Ms st).Perm a0
 pd:Pd rk (Ms st) (MF st).toList 0 q0
theorem Iv.all {q0:Nat}{st:Mx}(h:Iv kd rk a0 q0 st)(hS:∀ p∈a0.toList,S p):gZ S st:=fun p hp=>hS p ((Ir.mp h.a).mem_iff.mp hp)
theorem oZ{q0 i:Nat}{st:Mx}{Q:Bool->Mx->Prop}(L:bV M A E s kd rk S)(hS:∀ p∈a0.toList,S p)(hr:∀ x,Mr M A (rule x) (fun _ s'=>s'=s) E s)(I:Iv kd rk a0 q0 st)(hq:q0<=a0.size)(hi:i + 1 < (MF st).size)
  (h:∀ st',Iv kd rk a0 q0 st'->(MF st').size + 1=(MF st).size->(∀ j,q0<=j->(Ms st')[j]?=(Ms st)[j]?)->Q true st'):wpS M A E s (QY i) Q st:=by
 obtain⟨pre,⟨s1,n1,pw⟩,⟨s2,n2,p2⟩,post,e,el⟩:=nN (l:=(MF st).toList) (i:=i) (by rw[g_];exact hi)
 subst el
 have P:=I.pd
 rw[e]at P
 obtain⟨c,P1,e1,k1,o1,e2,k2,o2,P3⟩:=cZ.mp P
 subst e1
 subst e2
 have le:=P3.le
 have sz:=I.a.size_eq
 refine Di L I.k (I.all hS) I.f hr e k1 k2 (by lia) o1 o2 fun st' m=>?_
 have same:∀ j,(j < s1\/s1 + n1 + n2<=j)->R rk (Ms st') j=R rk (Ms st) j:=fun j hj=>cw (m.out j (by lia))
 refine h st' ⟨m.k.trans I.k,m.f,m.a.trans I.a,?_⟩ ?_ fun j hj=>m.out j (by lia)
 ·rw[m.p]
  refine cZ.mpr ⟨s1,P1.congr fun j _ hj=>same j (by lia),rfl,by lia,m.srt,?_⟩
  rw[<-JL]
  exact P3.congr fun j hj _=>same j (by lia)
 rw[<-g_,<-g_,m.p,e]
 simp only[f',k_]
 lia
theorem rh{q0 w0:Nat}{st:Mx}{Q:ForInStep CS->Mx->Prop}(L:bV M A E s kd rk S)(hS:∀ p∈a0.toList,S p)(hr:∀ x,Mr M A (rule x) (fun _ s'=>s'=s) E s)(I:Iv kd rk a0 q0 st)(hq:q0<=a0.size)
  (h:∀ st' (d:Bool),Iv kd rk a0 q0 st'->(∀ j,q0<=j->(Ms st')[j]?=(Ms st)[j]?)->Q (if d=true then My (none,())else MG (none,())) st'):wpS M A E s (j9 w0) Q st:=by
 unfold j9
 refine Mv (OE ?_)
 generalize ho:(if(MF st).size > 1 then(MF st)[(MF st).size - 2]? else none)=o
 rcases o with _ | ⟨x,y,old⟩
 ·exact Mz (h st true I fun _ _=>rfl)
 dsimp only
 have h1:(MF st).size > 1:=by
  by_cases z:(MF st).size > 1
  ·exact z
  rw[if_neg z]at ho;cases ho
 by_cases w:old<=w0
 ·rw[if_pos w]
  exact Mz (h st true I fun _ _=>rfl)
 rw[if_neg w]
 refine Mv (oZ L hS hr I hq (by lia) fun st' I' _ e=>?_)
 rw[if_neg (by simp)]
 exact Mz (h st' false I' e)
theorem lT{q0 n:Nat}{st:Mx}{Q:ForInStep LS->Mx->Prop}(I:Iv kd rk a0 q0 st)(hn:1<=n)(o:bK rk (Ms st) q0 n)(h:∀ st',Iv kd rk a0 (q0 + n) st'->Q (MG (none,q0 + n)) st'):wpS M A E s (nE q0 n) Q st:=by
 unfold nE
 refine Mv (Pa (Mz (h _ ⟨I.k,I.f,I.a,?_⟩)))
 show Pd rk (Ms st) ((MF st).push (q0,n,0)).toList 0 (q0 + n)
 rw[IU]
 exact cZ.mpr ⟨q0,I.pd,rfl,hn,o,rfl⟩
theorem C7{q0 n:Nat}{st:Mx}{Q:ForInStep LS->Mx->Prop}(L:bV M A E s kd rk S)(hS:∀ p∈a0.toList,S p)(hr:∀ x,Mr M A (rule x) (fun _ s'=>s'=s) E s)(I:Iv kd rk a0 q0 st)(hq:q0<=a0.size)(hn:1<=n)(o:bK rk (Ms st) q0 n)
  (h:∀ st',Iv kd rk a0 (q0 + n) st'->Q (MG (none,q0 + n)) st'):wpS M A E s (tl a0.size q0 n) Q st:=by
 unfold tl
 refine Mv (OE ?_)
 generalize (MF st).back?=bk
 rcases bk with _ | ⟨s1,n1,z⟩
 ·exact lT I hn o h
 dsimp only
 generalize power' a0.size (2 * s1 + n1) (2 * s1 + n1 + n1 + n) a0.size=w0
 refine Mv (Nq (M7 (I:=fun _ c st'=>c=(none,())/\Iv kd rk a0 q0 st'/\∀ j,q0<=j->(Ms st')[j]?=(Ms st)[j]?) (Q:=fun c st'=>c=(none,())/\Iv kd rk a0 q0 st'/\∀ j,q0<=j->(Ms st')[j]?=(Ms st)[j]?) ?_ (fun _ _ z=>z) ⟨rfl,I,fun _ _=>rfl⟩) ?_)
 ·rintro x c st1 _ _ ⟨rfl,I1,e1⟩
  refine rh L hS hr I1 hq fun st2 d I2 e2=>?_
  cases d
  ·exact⟨rfl,I2,fun j hj=>(e2 j hj).trans (e1 j hj)⟩
  exact⟨rfl,I2,fun j hj=>(e2 j hj).trans (e1 j hj)⟩
 rintro c st1 ⟨rfl,I1,e1⟩
 dsimp only
 refine Mv (Pa ?_)
 refine lT ⟨I1.k,I1.f,I1.a,?_⟩ hn (fun i j hij hj=>?_) h
 ·show Pd rk (Ms st1) ((MF st1).modify ((MF st1).size - 1) fun x=>(x.1,x.2.1,w0)).toList 0 q0
  rw[Array.toList_modify]
  exact I1.pd.modify
 show R rk (Ms st1) (q0 + i)<=R rk (Ms st1) (q0 + j)
 rw[cw (rk:=rk) (e1 (q0 + i) (by lia)),cw (rk:=rk) (e1 (q0 + j) (by lia))]
 exact o i j hij hj
theorem Iv.within {q0 n:Nat}{st st':Mx}(I:Iv kd rk a0 q0 st)(W:Within st st' q0 n):Iv kd rk a0 q0 st':=⟨W.kp.k.trans I.k,W.kp.f.trans I.f,W.kp.a.trans I.a,by
 rw[W.kp.p]
 exact I.pd.congr fun i _ hi=>cw (W.out i (.inl hi))⟩
theorem oh{q0:Nat}{st:Mx}{Q:ForInStep LS->Mx->Prop}(L:bV M A E s kd rk S)(hS:∀ p∈a0.toList,S p)(hr:∀ x,Mr M A (rule x) (fun _ s'=>s'=s) E s)(I:Iv kd rk a0 q0 st)(hq:q0<=a0.size)
  (h1:q0=a0.size->Q (My (none,q0)) st) (h2:∀ n st',1<=n->q0 + n<=a0.size->Iv kd rk a0 (q0 + n) st'->Q (MG (none,q0 + n)) st'):wpS M A E s (fA a0.size q0) Q st:=by
 unfold fA
 by_cases z:q0>=a0.size
 ·rw[if_pos z]
  exact Mz (h1 (by lia))
 rw[if_neg z]
 have qz:=HN (KY z)
 have sz:=I.a.size_eq
 refine Mv (oJ L I.k (I.all hS) (by lia) (by lia) hr fun n st1 g1 g2 W1 o1=>?_)
 dsimp only
 have I1:=I.within W1
 by_cases w:n < Rr a0.size a0.size 0
 ·rw[if_pos w]
  generalize Rr a0.size a0.size 0=mr at w ⊢
  refine Mv (Qd (MP (hr _) (fun _ _ z=>⟨z,?_⟩) fun _ _ z=>z))
  have sz1:=I1.a.size_eq
  have f1:n<=min (a0.size - q0) mr:=Nat.le_min.mpr ⟨g2,HN w⟩
  have f4:q0 + min (a0.size - q0) mr<=a0.size:=v_ (JN (Nat.min_le_left ..) q0) (JS (JP qz))
  have f5:=v_ g1 f1
  generalize min (a0.size - q0) mr=fr at f1 f4 f5 ⊢
  refine Mv (AI L I1.k (I1.all hS) (by rw[sz1];exact f4) f1 o1 fun st2 W2 o2=>?_)
  rw[if_neg (by simp)]
  exact C7 L hS hr (I1.within W2) hq f5 o2 fun st3 I3=>h2 _ st3 f5 f4 I3
 rw[if_neg w]
 exact C7 L hS hr I1 hq g1 o1 fun st3 I3=>h2 _ st3 g1 (by lia) I3
theorem zm{ps:Array (Nat × Nat × Nat)}(h:1 < ps.size):pick ps + 1 < ps.size:=by
 unfold pick
 generalize Mg (fun x=>decide (x < ps[ps.size - 2 + 1]?.elim 0 fun y=>y.2.1)) (if ps.size - 2 > 0 then JJ (fun y=>y.2.1) ps[ps.size - 2 - 1]? else none)=b
 cases b
 ·rw[if_neg (by simp)];lia
 rw[if_pos rfl];lia
theorem iN{st:Mx}{Q:Unit->Mx->Prop}(L:bV M A E s kd rk S)(hS:∀ p∈(Ms st).toList,S p)(hr:∀ x,Mr M A (rule x) (fun _ s'=>s'=s) E s)(hk:kindOf st=kd)(hf:M1 st=none)(hp:MF st=#[])
  (h:∀ st',(Ms st').Perm (Ms st)->M1 st'=none->Srt rk (Ms st').toList->Q () st'):wpS M A E s sortRuns' Q st:=by
 rw[FY]
 refine Mv (OE ?_)
 have I0:Iv kd rk (Ms st) 0 st:=⟨hk,hf,K_ _,by rw[hp];exact rfl⟩
 revert I0 hS h
 generalize Ms st=a0
 intro hS h I0
 refine Mv (Nq (M7 (I:=fun x c st'=>∃ q0,c=(none,q0)/\x<=q0/\q0<=a0.size/\Iv kd rk a0 q0 st') (Q:=fun c st'=>c=(none,a0.size)/\Iv kd rk a0 a0.size st') ?_ ?_ ⟨0,rfl,f_ _,F' _,I0⟩) ?_)
 ·rintro x c st1 _ _ ⟨q0,rfl,g1,g2,I⟩
  exact oh L hS hr I g2 (fun e=>by subst e;exact⟨rfl,I⟩) fun n st2 k1 k2 I2=>⟨q0 + n,rfl,by lia,k2,I2⟩
 ·rintro c st1 ⟨q0,rfl,g1,g2,I⟩
  have e:q0=a0.size:=by lia
  subst e
  exact⟨rfl,I⟩
 rintro c st1 ⟨rfl,I1⟩
 dsimp only
 refine Mv (Nq (M7 (I:=fun x c st'=>c=(none,())/\Iv kd rk a0 a0.size st'/\((MF st').size<=1\/(MF st').size + x<=a0.size)) (Q:=fun c st'=>c=(none,())/\Iv kd rk a0 a0.size st'/\(MF st').size<=1) ?_ ?_ ⟨rfl,I1,.inr ?_⟩) ?_)
 ·rintro x c st2 _ _ ⟨rfl,I2,g⟩
  unfold tQ
  refine Mv (OE ?_)
  by_cases z:(MF st2).size<=1
  ·rw[if_pos z]
   exact Mz ⟨rfl,I2,z⟩
  rw[if_neg z]
  refine Mv (oZ L hS hr I2 (f_ _) (zm (by lia)) fun st3 I3 e _=>?_)
  rw[if_neg (by simp)]
  exact Mz ⟨rfl,I3,.inr (by lia)⟩
 ·rintro c st2 ⟨rfl,I2,g⟩
  exact⟨rfl,I2,by lia⟩
 ·have:=I1.pd.le
  rw[g_]at this
  lia
 rintro c st2 ⟨rfl,I2,g⟩
 refine Mz (h st2 I2.a I2.f ?_)
 have P:=I2.pd
 have sz:=I2.a.size_eq
 have lp:(MF st2).toList.length<=1:=by rw[g_];exact g
 have o:bK rk (Ms st2) 0 a0.size:=by
  generalize (MF st2).toList=l at P lp
  match l,P,lp with
  | [],P,_=>
   have e:0=a0.size:=P
   intro i j _ hj
   lia
  | [(c,n,_)],P,_=>
   obtain⟨e1,_,o,e2⟩:=P
   have e2:0 + n=a0.size:=e2
   subst e1
   rw[<-e2,JT]
   exact o
  | _::_::_,_,lp=>simp at lp
 have:=dR o
 rw[Jj,Ie (by rw[g_];lia)]at this
 exact this
end
section
variable{κ:Type}{lt:κ->κ->Bool}
def rnk(lt:κ->κ->Bool)(ks:List κ)(k:κ):Nat:=ks.countP fun y=>lt y k
theorem count_le{p q:κ->Bool}:∀ {l:List κ},(∀ x∈l,p x=true->q x=true)->l.countP p<=l.countP q
 | [],_=>f_ _
 | x::t,h=>by
  have ih:=count_le (l:=t) fun y hy=>h y (.tail _ hy)
  have hx:=h x (.head _)
  rw[Ka,Ka]
  cases e:p x
  ·rw[if_neg (by simp)];lia
  rw[hx e,if_pos rfl];lia
theorem oG{p q:κ->Bool}:∀ {l:List κ} {z:κ},(∀ x∈l,p x=true->q x=true)->z∈l->p z=false->q z=true->l.countP p < l.countP q
 | x::t,z,h,hz,h1,h2=>by
  have ih:=count_le (l:=t) fun y hy=>h y (.tail _ hy)
  have hx:=h x (.head _)
  rw[Ka,Ka]
  rcases o_.mp hz with e | e
  ·subst e
   rw[h1,h2,if_neg (by simp),if_pos rfl];lia
  have:=oG (l:=t) (fun y hy=>h y (.tail _ hy)) e h1 h2
  cases e:p x
  ·rw[if_neg (by simp)];lia
  rw[hx e,if_pos rfl];lia
structure Tot (lt:κ->κ->Bool):Prop where
 irr:∀ a,lt a a=false
 tr:∀ a b c,lt a b=true->lt b c=true->lt a c=true
 tot:∀ a b,lt a b=false->lt b a=false->a=b
theorem DI(T:Tot lt){ks:List κ}{a b:κ}(h:lt b a=false):rnk lt ks a<=rnk lt ks b:=by
 refine count_le fun y _ hy=>?_
 cases e:lt a b
 ·rw[<-T.tot a b e h];exact hy
 exact T.tr _ _ _ hy e
theorem hZ(T:Tot lt){ks:List κ}{a b:κ}(ha:a∈ks)(h:lt a b=true):rnk lt ks a < rnk lt ks b:=oG (fun y _ hy=>T.tr _ _ _ hy h) ha (T.irr a) h
theorem ue(T:Tot lt){ks:List κ}{a b:κ}(ha:a∈ks):decide (rnk lt ks a < rnk lt ks b)=lt a b:=by
 cases e:lt a b
 ·exact decide_eq_false (Kj.mpr (DI T e))
 exact decide_eq_true (hZ T ha e)
end
noncomputable def ltL:List Int->List Int->Bool
 | _,[]=>false
 | [],_::_=>true
 | a::x,b::y=>if a=b then ltL x y else decide (a < b)
theorem sV:∀ x,ltL x x=false
 | []=>rfl
 | a::x=>by rw[ltL,if_pos rfl];exact sV x
theorem vU:∀ a b c,ltL a b=true->ltL b c=true->ltL a c=true
 | _,[],_,h,_=>by simp[ltL]at h
 | _,_::_,[],_,h=>by simp[ltL]at h
 | [],_::_,_::_,_,_=>rfl
 | a::x,b::y,c::z,h,g=>by
  rw[ltL]at h g ⊢
  by_cases e1:a=b
  ·subst e1
   rw[if_pos rfl]at h
   by_cases e2:a=c
   ·subst e2
    rw[if_pos rfl]at g ⊢
    exact vU x y z h g
   rw[if_neg e2]at g ⊢
   exact g
  rw[if_neg e1]at h
  have h:=of_decide_eq_true h
  by_cases e2:b=c
  ·subst e2
   rw[if_neg e1]
   exact decide_eq_true h
  rw[if_neg e2]at g
  have g:=of_decide_eq_true g
  rw[if_neg (by lia)]
  exact decide_eq_true (by lia)
theorem sS:∀ a b,ltL a b=false->ltL b a=false->a=b
 | [],[],_,_=>rfl
 | [],_::_,h,_=>by simp[ltL]at h
 | _::_,[],_,h=>by simp[ltL]at h
 | a::x,b::y,h,g=>by
  rw[ltL]at h g
  by_cases e:a=b
  ·subst e
   rw[if_pos rfl]at h g
   rw[sS x y h g]
  rw[if_neg e]at h
  rw[if_neg (fun z=>e z.symm)]at g
  have h:=of_decide_eq_false h
  have g:=of_decide_eq_false g
  lia
theorem rC:Tot ltL:=⟨sV,vU,sS⟩
def cg:Mj->Int
 | .int i _=>i
 | _=>0
noncomputable def cM(h:MD):Mj->List Int
 | .ref a=>match h.get? a with
  | some o=>match o.data with
   | .seq xs _=>xs.toList.map cg
   | _=>[]
  | none=>[]
 | _=>[]
def AllInt(l:List Mj):Prop:=∀ v∈l,∃ i t,v=.int i t
noncomputable def Bg(h:MD)(v:Mj):Prop:=∃ a o xs n,v=.ref a/\h.get? a=some o/\o.cls=.type "tuple"/\o.data=.seq xs n/\AllInt xs.toList/\0 < xs.size
theorem mQ{h:MD}{a:Ml}{o:Obj}{xs:Array Mj}{n:Nat}(e:h.get? a=some o)(d:o.data=.seq xs n):cM h (.ref a)=xs.toList.map cg:=by
 unfold cM
 dsimp only
 rw[e]
 dsimp only
 rw[d]
section
variable{prog:MA}{w:MC}{A:MJ}{E:Mj->Mm->Prop}{s:Mm}
theorem uk{Q:Bool->Mm->Prop}{fin:Bool}:∀(xs ys:List Mj) (i:Nat),AllInt xs->AllInt ys->fin=decide (xs.length < ys.length)->Q (ltL (xs.map cg) (ys.map cg)) s->PySem.W.KatLex prog w A true fin Q (xs.zip ys) i s
 | [],[],i,_,_,e,q=>by
  subst e
  exact Qr q
 | [],b::y,i,_,_,e,q=>by
  subst e
  exact Qr q
 | a::x,[],i,_,_,e,q=>by
  subst e
  exact Qr q
 | a::x,b::y,i,ha,hb,e,q=>by
  obtain⟨n,t,rfl⟩:=ha a (.head _)
  obtain⟨m,u,rfl⟩:=hb b (.head _)
  rw[j',j',ltL]at q
  refine PySem.W.kat_cons (RG ?_)
  by_cases z:n=m
  ·have q:Q (ltL (x.map cg) (y.map cg)) s:=by
    rw[if_pos (show cg (.int n t)=cg (.int m u)from z)]at q
    exact q
   rw[show(n == m)=true by simpa using z]
   refine PySem.W.kat_yes (uk x y (i + 1) (fun v hv=>ha v (.tail _ hv)) (fun v hv=>hb v (.tail _ hv)) ?_ q)
   rw[e,k_,k_]
   exact decide_eq_decide.mpr (by lia)
  have q:Q (decide (n < m)) s:=by
   rw[if_neg (show ¬ cg (.int n t)=cg (.int m u)from z)]at q
   exact q
  rw[show(n == m)=false by simpa using z]
  refine PySem.W.kat_no ?_
  cases (true && i == 0)
  ·exact PySem.W.kat_one _ _ (lt_int q)
  exact oneLt_int q
theorem jj{h0:MD}{ks:List (List Int)}{S:Mq->Prop}(hS:∀ x,S x->Bg h0 x.1/\cM h0 x.1∈ks)(hk:∀ b o,h0.get? b=some o->(∃ x n,o.cls=.type "tuple"/\o.data=.seq x n)->s.heap.get? b=some o) :
  bV (Mw prog w) A E s (Rt true) (fun x=>rnk ltL ks (cM h0 x.1)) S:=by
 intro x y st Q sx sy kd q
 obtain⟨⟨a,oa,xs,na,ea,ga,ca,da,ia,_⟩,ma⟩:=hS x sx
 obtain⟨⟨b,ob,ys,nb,eb,gb,cb,db,ib,_⟩,mb⟩:=hS y sy
 rw[lt'_eq]
 refine Mv (OE ?_)
 rw[kd,ea,eb]
 refine Mv (Qd (NC (PySem.W.kat_lt (hk _ _ ga ⟨_,_,ca,da⟩) da (hk _ _ gb ⟨_,_,cb,db⟩) db (uk _ _ 0 ia ib (by rw[g_,g_]) ⟨rfl,?_⟩))))
 refine Mz ?_
 dsimp only at q
 rw[ue rC ma,ea,eb,mQ ga da,mQ gb db]at q
 exact q
theorem kj{M:Om}{h0:MD}{vs:List Mj}{Q:Ng->Mm->Prop}(hv:∀ v∈vs,Bg h0 v)(hk:∀ b o,h0.get? b=some o->(∃ x n,o.cls=.type "tuple"/\o.data=.seq x n)->s.heap.get? b=some o)(hne:vs≠[])(q:Q (Rt true) s):Mr M A (O1 vs.toArray) Q E s:=by
 have mk:∀(l:List Mj),(∀ v∈l,Bg h0 v)->∃ fs,PySem.W.KatTups s.heap l fs/\AllInt fs/\fs.length=l.length:=by
  intro l
  induction l with
  | nil=>exact fun _=>⟨[],Ut,fun v hv=>(nomatch hv),rfl⟩
  | cons v r ih=>
   intro hl
   obtain⟨fs,k1,k2,k3⟩:=ih fun v hv=>hl v (.tail _ hv)
   obtain⟨a,o,xs,n,rfl,g,c,d,i,z⟩:=hl v (.head _)
   obtain⟨f,hf⟩:∃ f,xs[0]?=some f:=⟨_,i_ z⟩
   refine⟨f::fs,Uo (hk _ _ g ⟨_,_,c,d⟩) c d hf k1,fun v hv=>?_,by rw[k_,k_,k3]⟩
   rcases o_.mp hv with e | e
   ·subst e
    rw[<-e_]at hf
    exact i _ (HW hf)
   exact k2 v e
 obtain⟨fs,k1,k2,k3⟩:=mk vs hv
 refine PySem.W.kat_kind (T:=.type "int") k1 ?_ (fun v hv=>?_) rfl q
 ·rw[k3]
  exact Ks.mpr hne
 obtain⟨i,t,rfl⟩:=k2 v hv
 exact .now
end
section
variable{prog:MA}{w:MC}{A:MJ}{E:Mj->Mm->Prop}{s:Mm}
theorem dM(vs:List Mj):(vs.toArray.zip vs.toArray).toList=vs.map fun v=>(v,v):=by
 rw[Array.toList_zip]
 induction vs with
 | nil=>rfl
 | cons v r ih=>exact congrArg ((v,v)::·) ih
theorem hU{a:Ml}{vs:List Mj}{n:Nat}{kd:Ng}{rk:Mq->Nat}{S:Mq->Prop}{P:UB->Mm->Prop}(ho:s.heap.get? a=some (MK "list" vs.toArray n))(hz:vs.length<=sizeLine)(hS:∀ v∈vs,S (v,v))
  (kind:∀ h',(∀ b o,b≠a->s.heap.get? b=some o->h'.get? b=some o)->∀ {Q:Ng->Mm->Prop},vs≠[]->Q kd { s with heap:=h' }->Mr (Mw prog w) A (O1 vs.toArray) Q E { s with heap:=h' })
  (lt:∀ h',(∀ b o,b≠a->s.heap.get? b=some o->h'.get? b=some o)->bV (Mw prog w) A E { s with heap:=h' } kd rk S)
  (h:∀(o:List Mj) c h',o.Perm vs->o.Pairwise (fun x y=>rk (x,x)<=rk (y,y))->(∀ b u,b≠a->s.heap.get? b=some u->h'.get? b=some u)->h'.get? a=some (MK "list" o.toArray c)->P (.done (.ret .none)) { s with heap:=h' }) :
  Mr (Mw prog w) A (Nu.«list.sort» ⟨[.ref a],[]⟩) P E s:=by
 rw[list_sort_plain]
 have ha:a < s.heap.objs.size:=Mu ho
 refine Mi (TM ho rfl ?_)
 refine Mi (PV ho rfl ?_ (by rw[q_];exact hz) (F' _))
 obtain⟨e1,ho1⟩:∃ e1,(s.heap.update a (MN fun _=>(#[]:Array Mj))).get? a=some (MK "list" #[] e1):=⟨_,Pb ho fun _=>#[]⟩
 refine Mi (QA ho1 rfl ?_)
 refine Mi (QG ?_ hz)
 refine Mi (NY ?_ (F' _))
 refine MM ?_
 have k2:∀ b u,(s.heap.update a (MN fun _=>(#[]:Array Mj))).get? b=some u->(((s.heap.update a (MN fun _=>(#[]:Array Mj))).push (MK "tuple" vs.toArray 0)).push (MK "list" #[] 0)).get? b=some u:=fun b u e=>Mo _ (Mo _ e)
 have k3:∀ b u,b≠a->s.heap.get? b=some u->(((s.heap.update a (MN fun _=>(#[]:Array Mj))).push (MK "tuple" vs.toArray 0)).push (MK "list" #[] 0)).get? b=some u:=fun b u hb e=>k2 b u (by rw[NM _ _ _ _ hb];exact e)
 have ho6:=k2 _ _ ho1
 show Mr (Mw prog w) A _ P E { s with heap:=((s.heap.update a (MN fun _=>(#[]:Array Mj))).push (MK "tuple" vs.toArray 0)).push (MK "list" #[] 0) }
 generalize ((s.heap.update a (MN fun _=>(#[]:Array Mj))).push (MK "tuple" vs.toArray 0)).push (MK "list" #[] 0)=h1 at k3 ho6 ⊢
 dsimp only
 have fin:∀ st':Mx,(Ms st').Perm (vs.toArray.zip vs.toArray)->Srt rk (Ms st').toList->M1 st'=none->Mr (Mw prog w) A (do
   let touched:=(<-seqEpoch a) != e1
   Qj (.ref a) fun _=>(Ms st').map (·.2)
   if let some e:=M1 st' then rule "list.sort.comparison-raised";throw e
   if touched then rule "list.sort.modified";raiseError "ValueError" "list modified during sort"
   ret .none) P E { s with heap:=h1 }:=fun st' hp hs hf=>by
  have lp:(Ms st').toList.Perm (vs.map fun v=>(v,v)):=by
   have:=Ir.mp hp
   rw[dM]at this
   exact this
  have op:((Ms st').toList.map (·.2)).Perm vs:=by
   have:=lp.map (·.2)
   rw[D',show((fun x:Mq=>x.2) ∘ fun v:Mj=>(v,v))=id from rfl,Kw]at this
   exact this
  have tw:∀ p∈(Ms st').toList,p=(p.2,p.2):=fun p hp=>by
   obtain⟨v,_,e⟩:=m_.mp (lp.mem_iff.mp hp)
   rw[<-e]
  have osr:((Ms st').toList.map (·.2)).Pairwise (fun x y=>rk (x,x)<=rk (y,y)):=by
   rw[E_]
   refine HZ (fun{p q} hp hq hr=>?_) hs
   rw[<-tw p hp,<-tw q hq]
   exact hr
  have os:((Ms st').map (·.2)).size<=sizeLine + 1:=by
   rw[<-g_,Kb,op.length_eq]
   lia
  refine Mi (QA ho6 rfl ?_)
  refine Mi (PV ho6 rfl ?_ (F' _) os)
  rw[hf]
  simp only[bne_self_eq_false,HY,if_false]
  obtain⟨c,hc⟩:∃ c,(h1.update a (MN fun _=>(Ms st').map (·.2))).get? a=some (MK "list" ((Ms st').toList.map (·.2)).toArray c):=by
   have:=Pb ho6 fun _=>(Ms st').map (·.2)
   rw[show((Ms st').toList.map (·.2)).toArray=(Ms st').map (·.2) by rw[<-Kb]]
   exact⟨_,this⟩
  refine Mn (h _ c _ op osr (fun b u hb e=>?_) hc)
  rw[NM _ _ _ _ hb]
  exact k3 b u hb e
 by_cases h2:vs.toArray.size < 2
 ·rw[if_pos h2,if_pos h2]
  refine Mi (Mn ?_)
  rw[R9]
  refine Mi (Mn ?_)
  refine fin (NF general' (vs.toArray.zip vs.toArray) #[] 7 none) (K_ _) ?_ rfl
  show Srt rk (vs.toArray.zip vs.toArray).toList
  rw[dM]
  have h3:vs.length < 2:=h2
  clear fin h lt kind hS ho
  match vs,h3 with
  | [],_=>exact .nil
  | [v],_=>exact J1 _ _
  | _::_::_,h3=>exact absurd h3 (by rw[k_,k_];lia)
 rw[if_neg h2,if_neg h2]
 refine Mi (kind h1 k3 (fun z=>by rw[z]at h2;simp at h2) ?_)
 refine Mi (MP (iN (st:=NF kd (vs.toArray.zip vs.toArray) #[] 7 none) (Q:=fun _ st'=>(Ms st').Perm (vs.toArray.zip vs.toArray)/\M1 st'=none/\Srt rk (Ms st').toList) (lt h1 k3) (fun p hp=>?_) (fun x=>NQ rfl) rfl rfl rfl fun st' a1 a2 a3=>⟨a1,a2,a3⟩) ?_ fun _ _ e=>e)
 ·rw[show(Ms (NF kd (vs.toArray.zip vs.toArray) #[] 7 none))=vs.toArray.zip vs.toArray from rfl,dM]at hp
  obtain⟨v,hv,e⟩:=m_.mp hp
  rw[<-e]
  exact hS v hv
 rintro⟨⟨⟩,st'⟩ s' ⟨rfl,hp,hf,hs⟩
 exact fin st' hp hs hf
theorem jl{l:Ml}{vs:List Mj}{kd:Ng}{rk:Mq->Nat}{S:Mq->Prop}{Q:Mj->Mm->Prop}(hl:s.heap.IsList l vs.toArray)(hz:vs.length<=sizeLine)(hS:∀ v∈vs,S (v,v))
  (kind:∀ h',(∀ b o,s.heap.get? b=some o->h'.get? b=some o)->∀ {Q:Ng->Mm->Prop} {E:Mj->Mm->Prop},vs≠[]->Q kd { s with heap:=h' }->Mr (Mw prog w) A.in1.in1 (O1 vs.toArray) Q E { s with heap:=h' })
  (lt:∀ h' E,(∀ b o,s.heap.get? b=some o->h'.get? b=some o)->bV (Mw prog w) A.in1.in1 E { s with heap:=h' } kd rk S)
  (h:∀(o:List Mj) a c h',o.Perm vs->o.Pairwise (fun x y=>rk (x,x)<=rk (y,y))->s.heap.objs.size<=a->(∀ b u,s.heap.get? b=some u->h'.get? b=some u)->h'.get? a=some (MK "list" o.toArray c)->Q (.ref a) { s with heap:=h' }) :
  Mr (Mw prog w) A (call (.builtin "sorted") [.ref l]) Q E s:=by
 refine N3 QB Qe Qf (Rm _) ?_
 unfold Nu.«sorted»
 refine Mi (m:=QZ "sorted" 1 1 _) (Mn ?_)
 refine Mi (TN hl ?_ hz)
 refine Mi (NY ?_ hz)
 have hsz:((s.heap.push (MK "list" #[] 0)).update s.heap.objs.size (MN (·++vs.toArray))).objs.size=s.heap.objs.size + 1:=by
  rw[RT,size_push']
 have hoL:(((s.heap.push (MK "list" #[] 0)).update s.heap.objs.size (MN (·++vs.toArray))).push (MK "list" vs.toArray 0)).get? (s.heap.objs.size + 1)=some (MK "list" vs.toArray 0):=by
  rw[<-hsz];exact Mt _ rfl
 have keep:∀ b o,s.heap.get? b=some o->(((s.heap.push (MK "list" #[] 0)).update s.heap.objs.size (MN (·++vs.toArray))).push (MK "list" vs.toArray 0)).get? b=some o:=fun b o q=>by
  have hlt:b < s.heap.objs.size:=Mu q
  rw[OP _ _ _ (by rw[hsz];exact u_ (IV hlt)),NM _ _ _ _ (u_ hlt),OP _ _ _ (u_ hlt)]
  exact q
 show Mr _ _ _ _ _ { s with heap:=((s.heap.push (MK "list" #[] 0)).update s.heap.objs.size (MN (·++vs.toArray))).push (MK "list" vs.toArray 0) }
 rw[hsz]
 generalize ((s.heap.push (MK "list" #[] 0)).update s.heap.objs.size (MN (·++vs.toArray))).push (MK "list" vs.toArray 0)=h1 at hoL keep ⊢
 have ne:∀ b o,s.heap.get? b=some o->b≠s.heap.objs.size + 1:=fun b o e=>u_ (IV (Mu e))
 refine Mi (MM (MX Po ⟨_,hoL,rfl⟩ Pc ?body (QJ _)))
 case body=>
  refine hU (s:={ s with heap:=h1 }) (kd:=kd) (rk:=rk) (S:=S) hoL hz hS (fun h' k {Q} hne q=>kind h' (fun b o e=>k b o (ne b o e) (keep b o e)) hne q) (fun h' k=>lt h' _ fun b o e=>k b o (ne b o e) (keep b o e)) fun o c h' g1 g2 g3 g4=>?_
  exact⟨_,rfl,Mn ⟨_,rfl,h o _ c h' g1 g2 (Jv _) (fun b u e=>g3 b u (ne b u e) (keep b u e)) g4⟩⟩
end
end ZS
namespace PL
open PySem L2
inductive T where
 | any | hole (w:V) | bare | kp (G:Hp)
 | non | bl (b:Bool) | int (i:Int) | str (x:Str) | ty (n:String)
 | tup (ts:List T) | cst (ts:List T)
 | lst (o:Bool) (ts:List T)
 | dK (o:Bool) (kvs:List (Key × T))
 | dT (o:Bool) (kvs:List (List Key × T))
mutual
def er:T->T
 | .tup ts=>.tup (erL ts)
 | .cst ts=>.cst (erL ts)
 | .lst _ ts=>.lst false (erL ts)
 | .dK _ kvs=>.dK false (erK kvs)
 | .dT _ kvs=>.dT false (erT kvs)
 | .bare=>.any
 | t=>t
def erL:List T->List T
 | []=>[]
 | t::r=>er t::erL r
def erK:List (Key × T)->List (Key × T)
 | []=>[]
 | (k,t)::r=>(k,er t)::erK r
def erT:List (List Key × T)->List (List Key × T)
 | []=>[]
 | (k,t)::r=>(k,er t)::erT r
end
mutual
def b7:T->Bool
 | .tup ts=>bE ts
 | .cst ts=>bE ts
 | .lst o ts=>!o && bE ts
 | .dK o kvs=>!o && nh kvs
 | .dT o kvs=>!o && mF kvs
 | .bare=>false
 | _=>true
def bE:List T->Bool
 | []=>true
 | t::r=>b7 t && bE r
def nh:List (Key × T)->Bool
 | []=>true
 | (_,t)::r=>b7 t && nh r
def mF:List (List Key × T)->Bool
 | []=>true
 | (_,t)::r=>b7 t && mF r
end
mutual
def cG:T->Bool
 | .tup ts=>cu ts
 | .cst ts=>cu ts
 | .lst o ts=>o && cu ts
 | .dK o kvs=>o && jy kvs
 | .dT o kvs=>o && lq kvs
 | .kp _=>false
 | _=>true
def cu:List T->Bool
 | []=>true
 | t::r=>cG t && cu r
def jy:List (Key × T)->Bool
 | []=>true
 | (_,t)::r=>cG t && jy r
def lq:List (List Key × T)->Bool
 | []=>true
 | (_,t)::r=>cG t && lq r
end
theorem fw{α:Type}(g:α->T):∀ l:List α,erL (l.map g)=l.map fun x=>er (g x)
 | []=>rfl
 | x::r=>by rw[j',erL,fw g r,j']
theorem jD:∀ l:List T,erL l=l.map er
 | []=>rfl
 | x::r=>by rw[erL,jD r,j']
theorem nz(l:List T):(erL l).length=l.length:=by rw[jD,a_]
theorem zD(l m:List T):erL (l++m)=erL l++erL m:=by rw[jD,jD,jD,t_]
theorem cF:∀ l:List T,bE l=l.all b7
 | []=>rfl
 | x::r=>by rw[bE,cF r,KH]
theorem d4:∀ l:List T,cu l=l.all cG
 | []=>rfl
 | x::r=>by rw[cu,d4 r,KH]
mutual
theorem bT:∀ t:T,b7 (er t)=true
 | .tup ts=>by rw[er,b7,eF ts]
 | .cst ts=>by rw[er,b7,eF ts]
 | .lst _ ts=>by rw[er,b7,eF ts];rfl
 | .dK _ ts=>by rw[er,b7,lR ts];rfl
 | .dT _ ts=>by rw[er,b7,kR ts];rfl
 | .bare=>rfl
 | .any=>rfl
 | .hole _=>rfl
 | .kp _=>rfl
 | .non=>rfl
 | .bl _=>rfl
 | .int _=>rfl
 | .str _=>rfl
 | .ty _=>rfl
theorem eF:∀ t:List T,bE (erL t)=true
 | []=>rfl
 | t::r=>by rw[erL,bE,bT t,eF r];rfl
theorem lR:∀ t:List (Key × T),nh (erK t)=true
 | []=>rfl
 | (_,t)::r=>by rw[erK,nh,bT t,lR r];rfl
theorem kR:∀ t:List (List Key × T),mF (erT t)=true
 | []=>rfl
 | (_,t)::r=>by rw[erT,mF,bT t,kR r];rfl
end
def Gr(G H:Hp):Prop:=∀ b u,Rd G b u->Rd H b u
theorem Gr.bD {H:Hp}:Gr H H:=fun _ _ h=>h
theorem Gr.trans {G H J:Hp}(a:Gr G H)(b:Gr H J):Gr G J:=fun c u h=>b c u (a c u h)
theorem Gr.of {G H:Hp}(h:aS G H):Gr G H:=fun b u r=>by
 rcases r with r | ⟨o,r⟩
 ·exact .inl (h _ _ r)
 exact .inr ⟨o,h _ _ r⟩
theorem Rd.some {H:Hp}{a:Ml}{u:HO}(h:Rd H a u):∃ w,H a=some w:=by
 rcases h with h | ⟨o,h⟩
 ·exact⟨_,h⟩
 exact⟨_,h⟩
theorem Gr.none {G H:Hp}(h:Gr G H){a:Ml}(e:H a=none):G a=none:=by
 cases q:G a with
 | none=>rfl
 | some u=>
  obtain⟨w,z⟩:=Rd.some (h a u (.inl q))
  rw[e]at z;cases z
def TK(H H':Hp):Prop:=∀ b xs,H b=some (.tup xs)->H' b=some (.tup xs)
theorem aS.tk {G H:Hp}(h:aS G H):TK G H:=fun b xs r=>h _ _ r
theorem Put.tk {H H':Hp}{a:Ml}{o:HO}(p:Put H a o H')(ht:∀ xs,H a≠some (.tup xs)):TK H H':=fun b xs r=>by
 have hb:b≠a:=fun z=>ht xs (z ▸ r)
 rw[p.else_ b hb];exact r
section
variable(K:Mk)(Hz H:Hp)
mutual
inductive RepT:T->V->List Ml->Prop
 | any {v:V}:RepT .any v []
 | hole {w:V}:RepT (.hole w) w []
 | bare {a:Ml} {u:HO} (h:H a=some u) (ht:∀ xs,H a≠some (.tup xs)):RepT .bare (.ref a) [a]
 | kp {G:Hp} {v:V} (h:Gr G Hz):RepT (.kp G) v []
 | non:RepT .non .non []
 | bl {b:Bool}:RepT (.bl b) (.bl b) []
 | int {i:Int}:RepT (.int i) (.int i) []
 | str {x:Str}:RepT (.str x) (.str x) []
 | ty {n:String}:RepT (.ty n) (.ty n) []
 | tup {a:Ml} {ts:List T} {vs:List V} {L:List Ml} (h:H a=some (.tup vs)) (c:RepTs ts vs L):RepT (.tup ts) (.ref a) L
 | cst {a:Ml} {ts:List T} {vs:List V} (h:SqT K (fun _=>none) a vs) (c:RepTs ts vs []):RepT (.cst ts) (.ref a) []
 | lstO {a:Ml} {ts:List T} {vs:List V} {L:List Ml} (h:H a=some (.lst vs)) (c:RepTs ts vs L):RepT (.lst true ts) (.ref a) (a::L)
 | lstZ {a:Ml} {ts:List T} {vs:List V} (h:Rd Hz a (.lst vs)) (c:RepTs ts vs []):RepT (.lst false ts) (.ref a) []
 | dKO {a:Ml} {ts:List (Key × T)} {vs:List (Key × V)} {L:List Ml} (h:H a=some (.dK vs)) (c:RepKs ts vs L):RepT (.dK true ts) (.ref a) (a::L)
 | dKZ {a:Ml} {ts:List (Key × T)} {vs:List (Key × V)} (h:Rd Hz a (.dK vs)) (c:RepKs ts vs []):RepT (.dK false ts) (.ref a) []
 | dTO {a:Ml} {ts:List (List Key × T)} {vs:List (List Key × V)} {L:List Ml} (h:H a=some (.dT vs)) (c:RepXs ts vs L):RepT (.dT true ts) (.ref a) (a::L)
 | dTZ {a:Ml} {ts:List (List Key × T)} {vs:List (List Key × V)} (h:Rd Hz a (.dT vs)) (c:RepXs ts vs []):RepT (.dT false ts) (.ref a) []
inductive RepTs:List T->List V->List Ml->Prop
 | nil:RepTs [] [] []
 | cons {t:T} {v:V} {L M N:List Ml} {ts:List T} {vs:List V} (e:N=L++M) (h:RepT t v L) (c:RepTs ts vs M):RepTs (t::ts) (v::vs) N
inductive RepKs:List (Key × T)->List (Key × V)->List Ml->Prop
 | nil:RepKs [] [] []
 | cons {k:Key} {t:T} {v:V} {L M N:List Ml} {ts:List (Key × T)} {vs:List (Key × V)} (e:N=L++M) (h:RepT t v L) (c:RepKs ts vs M):RepKs ((k,t)::ts) ((k,v)::vs) N
inductive RepXs:List (List Key × T)->List (List Key × V)->List Ml->Prop
 | nil:RepXs [] [] []
 | cons {k:List Key} {t:T} {v:V} {L M N:List Ml} {ts:List (List Key × T)} {vs:List (List Key × V)} (e:N=L++M) (h:RepT t v L) (c:RepXs ts vs M):RepXs ((k,t)::ts) ((k,v)::vs) N
end
end
section
variable{K:Mk}
theorem eK{Hz H:Hp}{P:T->V->List Ml->Prop}{Ps:List T->List V->List Ml->Prop}{Pk:List (Key × T)->List (Key × V)->List Ml->Prop}{Px:List (List Key × T)->List (List Key × V)->List Ml->Prop}
  (c1:∀ {v},P .any v []) (c2:∀ {w},P (.hole w) w []) (c3:∀ {a u},H a=some u->(∀ xs,H a≠some (.tup xs))->P .bare (.ref a) [a]) (c4:∀ {G v},Gr G Hz->P (.kp G) v [])
  (c5:P .non .non []) (c6:∀ {b},P (.bl b) (.bl b) []) (c7:∀ {i},P (.int i) (.int i) []) (c8:∀ {x},P (.str x) (.str x) []) (c9:∀ {n},P (.ty n) (.ty n) [])
  (c10:∀ {a ts vs L},H a=some (.tup vs)->Ps ts vs L->P (.tup ts) (.ref a) L) (c11:∀ {a ts vs},SqT K (fun _=>none) a vs->Ps ts vs []->P (.cst ts) (.ref a) [])
  (c12:∀ {a ts vs L},H a=some (.lst vs)->Ps ts vs L->P (.lst true ts) (.ref a) (a::L)) (c13:∀ {a ts vs},Rd Hz a (.lst vs)->Ps ts vs []->P (.lst false ts) (.ref a) [])
  (c14:∀ {a ts vs L},H a=some (.dK vs)->Pk ts vs L->P (.dK true ts) (.ref a) (a::L)) (c15:∀ {a ts vs},Rd Hz a (.dK vs)->Pk ts vs []->P (.dK false ts) (.ref a) [])
  (c16:∀ {a ts vs L},H a=some (.dT vs)->Px ts vs L->P (.dT true ts) (.ref a) (a::L)) (c17:∀ {a ts vs},Rd Hz a (.dT vs)->Px ts vs []->P (.dT false ts) (.ref a) [])
  (s0:Ps [] [] []) (s1:∀ {t v L M ts vs},P t v L->Ps ts vs M->Ps (t::ts) (v::vs) (L++M))
  (k0:Pk [] [] []) (k1:∀ {k t v L M ts vs},P t v L->Pk ts vs M->Pk ((k,t)::ts) ((k,v)::vs) (L++M))
  (x0:Px [] [] []) (x1:∀ {k t v L M ts vs},P t v L->Px ts vs M->Px ((k,t)::ts) ((k,v)::vs) (L++M)) :
  (∀ {t v L},RepT K Hz H t v L->P t v L)/\(∀ {t v L},RepTs K Hz H t v L->Ps t v L)/\(∀ {t v L},RepKs K Hz H t v L->Pk t v L)/\(∀ {t v L},RepXs K Hz H t v L->Px t v L):=by
 have m1:∀ {t v L},RepT K Hz H t v L->P t v L:=fun h=>RepT.rec (motive_1:=fun t v L _=>P t v L) (motive_2:=fun t v L _=>Ps t v L) (motive_3:=fun t v L _=>Pk t v L) (motive_4:=fun t v L _=>Px t v L)
  c1 c2 c3 c4 c5 c6 c7 c8 c9 (fun h _ i=>c10 h i) (fun h _ i=>c11 h i) (fun h _ i=>c12 h i) (fun h _ i=>c13 h i) (fun h _ i=>c14 h i) (fun h _ i=>c15 h i) (fun h _ i=>c16 h i) (fun h _ i=>c17 h i)
  s0 (fun e _ _ i j=>e ▸ s1 i j) k0 (fun e _ _ i j=>e ▸ k1 i j) x0 (fun e _ _ i j=>e ▸ x1 i j) h
 refine⟨m1,fun h=>?_,fun h=>?_,fun h=>?_⟩
 ·exact RepTs.rec (motive_1:=fun t v L _=>True) (motive_2:=fun t v L _=>Ps t v L) (motive_3:=fun t v L _=>True) (motive_4:=fun t v L _=>True)
   trivial trivial (fun _ _=>trivial) (fun _=>trivial) trivial trivial trivial trivial trivial (fun _ _ _=>trivial) (fun _ _ _=>trivial) (fun _ _ _=>trivial) (fun _ _ _=>trivial) (fun _ _ _=>trivial) (fun _ _ _=>trivial) (fun _ _ _=>trivial) (fun _ _ _=>trivial)
   s0 (fun e h _ _ j=>e ▸ s1 (m1 h) j) trivial (fun _ _ _ _ _=>trivial) trivial (fun _ _ _ _ _=>trivial) h
 ·exact RepKs.rec (motive_1:=fun t v L _=>True) (motive_2:=fun t v L _=>True) (motive_3:=fun t v L _=>Pk t v L) (motive_4:=fun t v L _=>True)
   trivial trivial (fun _ _=>trivial) (fun _=>trivial) trivial trivial trivial trivial trivial (fun _ _ _=>trivial) (fun _ _ _=>trivial) (fun _ _ _=>trivial) (fun _ _ _=>trivial) (fun _ _ _=>trivial) (fun _ _ _=>trivial) (fun _ _ _=>trivial) (fun _ _ _=>trivial)
   trivial (fun _ _ _ _ _=>trivial) k0 (fun e h _ _ j=>e ▸ k1 (m1 h) j) trivial (fun _ _ _ _ _=>trivial) h
 exact RepXs.rec (motive_1:=fun t v L _=>True) (motive_2:=fun t v L _=>True) (motive_3:=fun t v L _=>True) (motive_4:=fun t v L _=>Px t v L)
  trivial trivial (fun _ _=>trivial) (fun _=>trivial) trivial trivial trivial trivial trivial (fun _ _ _=>trivial) (fun _ _ _=>trivial) (fun _ _ _=>trivial) (fun _ _ _=>trivial) (fun _ _ _=>trivial) (fun _ _ _=>trivial) (fun _ _ _=>trivial) (fun _ _ _=>trivial)
  trivial (fun _ _ _ _ _=>trivial) trivial (fun _ _ _ _ _=>trivial) x0 (fun e h _ _ j=>e ▸ x1 (m1 h) j) h
noncomputable def Kps(H H':Hp)(L:List Ml):Prop:=∀ a∈L,∀ u,H a=some u->H' a=some u/\((∀ xs,H a≠some (.tup xs))->∀ xs,H' a≠some (.tup xs))
theorem Kps.hd {H H':Hp}{a:Ml}{L:List Ml}(h:Kps H H' (a::L)){u:HO}(e:H a=some u):H' a=some u/\((∀ xs,H a≠some (.tup xs))->∀ xs,H' a≠some (.tup xs)):=h _ s_ _ e
theorem Kps.tl {H H':Hp}{a:Ml}{L:List Ml}(h:Kps H H' (a::L)):Kps H H' L:=fun a m=>h a (r_ _ m)
theorem Kps.l {H H':Hp}{L M:List Ml}(h:Kps H H' (L++M)):Kps H H' L:=fun a m=>h a (w_ _ m)
theorem Kps.r {H H':Hp}{L M:List Ml}(h:Kps H H' (L++M)):Kps H H' M:=fun a m=>h a (n_ _ m)
theorem xf{Hz H Hz' H':Hp}(ht:TK H H')(hz:Gr Hz Hz'):(∀ {t v L},RepT K Hz H t v L->Kps H H' L->RepT K Hz' H' t v L)/\(∀ {t v L},RepTs K Hz H t v L->Kps H H' L->RepTs K Hz' H' t v L)/\(∀ {t v L},RepKs K Hz H t v L->Kps H H' L->RepKs K Hz' H' t v L)/\(∀ {t v L},RepXs K Hz H t v L->Kps H H' L->RepXs K Hz' H' t v L):=
 eK (P:=fun t v L=>Kps H H' L->RepT K Hz' H' t v L) (Ps:=fun t v L=>Kps H H' L->RepTs K Hz' H' t v L) (Pk:=fun t v L=>Kps H H' L->RepKs K Hz' H' t v L) (Px:=fun t v L=>Kps H H' L->RepXs K Hz' H' t v L)
  (fun _=>.any) (fun _=>.hole) (fun h t o=>.bare (o.hd h).1 ((o.hd h).2 t)) (fun h _=>.kp (h.trans hz)) (fun _=>.non) (fun _=>.bl) (fun _=>.int) (fun _=>.str) (fun _=>.ty)
  (fun h c o=>.tup (ht _ _ h) (c o)) (fun h c o=>.cst h (c o)) (fun h c o=>.lstO (o.hd h).1 (c o.tl)) (fun h c o=>.lstZ (hz _ _ h) (c o)) (fun h c o=>.dKO (o.hd h).1 (c o.tl)) (fun h c o=>.dKZ (hz _ _ h) (c o)) (fun h c o=>.dTO (o.hd h).1 (c o.tl)) (fun h c o=>.dTZ (hz _ _ h) (c o))
  (fun _=>.nil) (fun i j o=>.cons rfl (i o.l) (j o.r)) (fun _=>.nil) (fun i j o=>.cons rfl (i o.l) (j o.r)) (fun _=>.nil) (fun i j o=>.cons rfl (i o.l) (j o.r))
theorem RepT.move {Hz H Hz' H':Hp}(ht:TK H H')(hz:Gr Hz Hz'){t:T}{v:V}{L:List Ml}(o:Kps H H' L)(h:RepT K Hz H t v L):RepT K Hz' H' t v L:=(xf ht hz).1 h o
def Thr(H:Hp)(L:List Ml):Prop:=∀ a∈L,(∃ u,H a=some u)/\∀ xs,H a≠some (.tup xs)
theorem Thr.nil {H:Hp}:Thr H []:=fun a m=>nomatch m
theorem Thr.cons {H:Hp}{a:Ml}{u:HO}{L:List Ml}(h:H a=some u)(t:∀ xs,H a≠some (.tup xs))(c:Thr H L):Thr H (a::L):=fun b m=>by
 rcases o_.mp m with rfl | m
 ·exact⟨⟨_,h⟩,t⟩
 exact c b m
theorem Thr.app {H:Hp}{L M:List Ml}(c:Thr H L)(d:Thr H M):Thr H (L++M):=fun b m=>(z_.mp m).elim (c b) (d b)
theorem uM{Hz H:Hp}:(∀ {t v L},RepT K Hz H t v L->Thr H L)/\(∀ {t v L},RepTs K Hz H t v L->Thr H L)/\(∀ {t v L},RepKs K Hz H t v L->Thr H L)/\(∀ {t v L},RepXs K Hz H t v L->Thr H L):=
 eK (P:=fun t v L=>Thr H L) (Ps:=fun t v L=>Thr H L) (Pk:=fun t v L=>Thr H L) (Px:=fun t v L=>Thr H L)
  .nil .nil (fun h t=>.cons h t .nil) (fun _=>.nil) .nil .nil .nil .nil .nil (fun _ c=>c) (fun _ c=>c) (fun h c=>.cons h (fun xs r=>by rw[h]at r;cases r) c) (fun _ c=>c) (fun h c=>.cons h (fun xs r=>by rw[h]at r;cases r) c) (fun _ c=>c) (fun h c=>.cons h (fun xs r=>by rw[h]at r;cases r) c) (fun _ c=>c)
  .nil (fun c d=>c.app d) .nil (fun c d=>c.app d) .nil (fun c d=>c.app d)
theorem RepT.there {Hz H:Hp}{t:T}{v:V}{L:List Ml}(h:RepT K Hz H t v L):Thr H L:=uM.1 h
def Fzn(H Z:Hp)(L:List Ml):Prop:=∀ a∈L,Z a=H a
theorem Fzn.hd {H Z:Hp}{a:Ml}{L:List Ml}(h:Fzn H Z (a::L)){u:HO}(e:H a=some u):Rd Z a u:=.inl (by rw[h _ s_];exact e)
theorem Fzn.tl {H Z:Hp}{a:Ml}{L:List Ml}(h:Fzn H Z (a::L)):Fzn H Z L:=fun a m=>h a (r_ _ m)
theorem Fzn.l {H Z:Hp}{L M:List Ml}(h:Fzn H Z (L++M)):Fzn H Z L:=fun a m=>h a (w_ _ m)
theorem Fzn.r {H Z:Hp}{L M:List Ml}(h:Fzn H Z (L++M)):Fzn H Z M:=fun a m=>h a (n_ _ m)
theorem AO{Hz H Z:Hp}(hz:Gr Hz Z):(∀ {t v L},RepT K Hz H t v L->Fzn H Z L->RepT K Z H (er t) v [])/\(∀ {t v L},RepTs K Hz H t v L->Fzn H Z L->RepTs K Z H (erL t) v [])/\(∀ {t v L},RepKs K Hz H t v L->Fzn H Z L->RepKs K Z H (erK t) v [])/\(∀ {t v L},RepXs K Hz H t v L->Fzn H Z L->RepXs K Z H (erT t) v []):=
 eK (P:=fun t v L=>Fzn H Z L->RepT K Z H (er t) v []) (Ps:=fun t v L=>Fzn H Z L->RepTs K Z H (erL t) v []) (Pk:=fun t v L=>Fzn H Z L->RepKs K Z H (erK t) v []) (Px:=fun t v L=>Fzn H Z L->RepXs K Z H (erT t) v [])
  (fun _=>.any) (fun _=>.hole) (fun _ _ _=>.any) (fun h _=>.kp (h.trans hz)) (fun _=>.non) (fun _=>.bl) (fun _=>.int) (fun _=>.str) (fun _=>.ty)
  (fun h c o=>.tup h (c o)) (fun h c o=>.cst h (c o)) (fun h c o=>.lstZ (o.hd h) (c o.tl)) (fun h c o=>.lstZ (hz _ _ h) (c o)) (fun h c o=>.dKZ (o.hd h) (c o.tl)) (fun h c o=>.dKZ (hz _ _ h) (c o)) (fun h c o=>.dTZ (o.hd h) (c o.tl)) (fun h c o=>.dTZ (hz _ _ h) (c o))
  (fun _=>.nil) (fun i j o=>.cons rfl (i o.l) (j o.r)) (fun _=>.nil) (fun i j o=>.cons rfl (i o.l) (j o.r)) (fun _=>.nil) (fun i j o=>.cons rfl (i o.l) (j o.r))
theorem RepT.frz {Hz H Z:Hp}(hz:Gr Hz Z){t:T}{v:V}{L:List Ml}(o:Fzn H Z L)(h:RepT K Hz H t v L):RepT K Z H (er t) v []:=(AO hz).1 h o
theorem zC{Hz H:Hp}:(∀ {t v L},RepT K Hz H t v L->b7 t=true->L=[])/\(∀ {t v L},RepTs K Hz H t v L->bE t=true->L=[])/\(∀ {t v L},RepKs K Hz H t v L->True)/\(∀ {t v L},RepXs K Hz H t v L->True):=
 eK (P:=fun t v L=>b7 t=true->L=[]) (Ps:=fun t v L=>bE t=true->L=[]) (Pk:=fun t v L=>True) (Px:=fun t v L=>True)
  (fun _=>rfl) (fun _=>rfl) (fun _ _ n=>nomatch n) (fun _ _=>rfl) (fun _=>rfl) (fun _=>rfl) (fun _=>rfl) (fun _=>rfl) (fun _=>rfl)
  (fun _ c n=>c (by rw[b7]at n;exact n)) (fun _ _ _=>rfl) (fun _ _ n=>nomatch n) (fun _ _ _=>rfl) (fun _ _ n=>nomatch n) (fun _ _ _=>rfl) (fun _ _ n=>nomatch n) (fun _ _ _=>rfl)
  (fun _=>rfl) (fun i j n=>by
   rw[bE,HP]at n
   rw[i n.1,j n.2]
   rfl) trivial (fun _ _=>trivial) trivial (fun _ _=>trivial)
theorem RepT.nil_of {Hz H:Hp}{t:T}{v:V}{L:List Ml}(n:b7 t=true)(h:RepT K Hz H t v L):L=[]:=zC.1 h n
theorem wX{Hz H Z H':Hp}(ht:TK H H'):(∀ {t v L},RepT K Hz H t v L->cG t=true->Kps H H' L->RepT K Z H' t v L)/\(∀ {t v L},RepTs K Hz H t v L->cu t=true->Kps H H' L->RepTs K Z H' t v L)/\(∀ {t v L},RepKs K Hz H t v L->jy t=true->Kps H H' L->RepKs K Z H' t v L)/\(∀ {t v L},RepXs K Hz H t v L->lq t=true->Kps H H' L->RepXs K Z H' t v L):=
 eK (P:=fun t v L=>cG t=true->Kps H H' L->RepT K Z H' t v L) (Ps:=fun t v L=>cu t=true->Kps H H' L->RepTs K Z H' t v L) (Pk:=fun t v L=>jy t=true->Kps H H' L->RepKs K Z H' t v L) (Px:=fun t v L=>lq t=true->Kps H H' L->RepXs K Z H' t v L)
  (fun _ _=>.any) (fun _ _=>.hole) (fun h t _ o=>.bare (o.hd h).1 ((o.hd h).2 t)) (fun _ n=>nomatch n) (fun _ _=>.non) (fun _ _=>.bl) (fun _ _=>.int) (fun _ _=>.str) (fun _ _=>.ty)
  (fun h c n o=>.tup (ht _ _ h) (c (by rw[cG]at n;exact n) o)) (fun h c n o=>.cst h (c (by rw[cG]at n;exact n) o)) (fun h c n o=>.lstO (o.hd h).1 (c (by rw[cG,JM]at n;exact n) o.tl)) (fun _ _ n=>nomatch n) (fun h c n o=>.dKO (o.hd h).1 (c (by rw[cG,JM]at n;exact n) o.tl)) (fun _ _ n=>nomatch n) (fun h c n o=>.dTO (o.hd h).1 (c (by rw[cG,JM]at n;exact n) o.tl)) (fun _ _ n=>nomatch n)
  (fun _ _=>.nil) (fun i j n o=>.cons rfl (i (by rw[cu,HP]at n;exact n.1) o.l) (j (by rw[cu,HP]at n;exact n.2) o.r)) (fun _ _=>.nil) (fun i j n o=>.cons rfl (i (by rw[jy,HP]at n;exact n.1) o.l) (j (by rw[jy,HP]at n;exact n.2) o.r)) (fun _ _=>.nil) (fun i j n o=>.cons rfl (i (by rw[lq,HP]at n;exact n.1) o.l) (j (by rw[lq,HP]at n;exact n.2) o.r))
theorem RepT.Hc {Hz H Z H':Hp}(ht:TK H H'){t:T}{v:V}{L:List Ml}(n:cG t=true)(o:Kps H H' L)(h:RepT K Hz H t v L):RepT K Z H' t v L:=(wX ht).1 h n o
abbrev Ev:=List T
abbrev Fm:=List (T × Option V)
noncomputable def kq(K:Mk)(Hz H:Hp)(t:T)(x:Option V)(L:List Ml):Prop:=(t=.any/\L=[])\/∃ v,x=some v/\RepT K Hz H t v L
inductive RepL (K:Mk) (Hz H:Hp):Fm->List Ml->Prop
 | nil:RepL K Hz H [] []
 | cons {t:T} {x:Option V} {L M N:List Ml} {r:Fm} (e:N=L++M) (h:kq K Hz H t x L) (c:RepL K Hz H r M):RepL K Hz H ((t,x)::r) N
def Rp(K:Mk)(H:Hp)(Γ:Fm):Prop:=∃ Hz L,RepL K Hz H Γ L/\L.Nodup/\Gr Hz H/\∀ b∈L,Hz b=none
theorem kq.move {Hz H Hz' H':Hp}(ht:TK H H')(hz:Gr Hz Hz'){t:T}{x:Option V}{L:List Ml}(ho:∀ a∈L,∀ u,H a=some u->H' a=some u/\((∀ xs,H a≠some (.tup xs))->∀ xs,H' a≠some (.tup xs)))(h:kq K Hz H t x L):kq K Hz' H' t x L:=by
 rcases h with⟨rfl,rfl⟩ | ⟨v,rfl,h⟩
 ·exact .inl ⟨rfl,rfl⟩
 exact .inr ⟨v,rfl,h.move ht hz ho⟩
theorem kq.there {Hz H:Hp}{t:T}{x:Option V}{L:List Ml}(h:kq K Hz H t x L):∀ a∈L,(∃ u,H a=some u)/\∀ xs,H a≠some (.tup xs):=by
 rcases h with⟨rfl,rfl⟩ | ⟨v,rfl,h⟩
 ·intro a m;cases m
 exact h.there
theorem RepL.move {Hz H Hz' H':Hp}(ht:TK H H')(hz:Gr Hz Hz'):∀ {Γ:Fm} {L:List Ml},(∀ a∈L,∀ u,H a=some u->H' a=some u/\((∀ xs,H a≠some (.tup xs))->∀ xs,H' a≠some (.tup xs)))->RepL K Hz H Γ L->RepL K Hz' H' Γ L
 | _,_,_,.nil=>.nil
 | _,_,ho,.cons e h c=>.cons e (h.move ht hz fun a m=>ho a (by rw[e];exact w_ _ m)) (c.move ht hz fun a m=>ho a (by rw[e];exact n_ _ m))
theorem RepL.there {Hz H:Hp}:∀ {Γ:Fm} {L:List Ml},RepL K Hz H Γ L->∀ a∈L,(∃ u,H a=some u)/\∀ xs,H a≠some (.tup xs)
 | _,_,.nil,a,m=>by cases m
 | _,_,.cons e h c,a,m=>by
  rw[e]at m
  rcases z_.mp m with m | m
  ·exact h.there a m
  exact c.there a m
theorem RepL.app {Hz H:Hp}:∀ {Γ Δ:Fm} {L M:List Ml},RepL K Hz H Γ L->RepL K Hz H Δ M->RepL K Hz H (Γ++Δ) (L++M)
 | _,_,_,_,.nil,d=>d
 | _,_,_,_,.cons e h c,d=>.cons (by rw[e,l_]) h (c.app d)
theorem RepL.split {Hz H:Hp}:∀ {Γ Δ:Fm} {N:List Ml},RepL K Hz H (Γ++Δ) N->∃ L M,N=L++M/\RepL K Hz H Γ L/\RepL K Hz H Δ M
 | [],_,N,h=>⟨[],N,rfl,.nil,h⟩
 | (t,x)::r,_,N,.cons e h c=>by
  obtain⟨L,M,rfl,h1,h2⟩:=c.split
  exact⟨_,M,by rw[e,l_],.cons rfl h h1,h2⟩
theorem RepL.perm {Hz H:Hp}{Γ Δ:Fm}(p:Γ.Perm Δ):∀ {L:List Ml},RepL K Hz H Γ L->∃ M,L.Perm M/\RepL K Hz H Δ M:=by
 induction p with
 | nil=>intro L h;exact⟨L,.refl _,h⟩
 | cons x q ih=>
  intro L h
  cases h with
  | cons e h c=>
   obtain⟨M,p1,h1⟩:=ih c
   exact⟨_,by rw[e];exact p1.append_left _,.cons rfl h h1⟩
 | swap x y l=>
  intro L h
  cases h with
  | cons e h c=>
   cases c with
   | cons e' h' c'=>
    refine⟨_,?_,.cons rfl h' (.cons rfl h c')⟩
    rw[e,e',<-l_,<-l_]
    exact IB.append_right _
 | trans p q ih1 ih2=>
  intro L h
  obtain⟨M,p1,h1⟩:=ih1 h
  obtain⟨N,p2,h2⟩:=ih2 h1
  exact⟨N,p1.trans p2,h2⟩
theorem Rp.perm {H:Hp}{Γ Δ:Fm}(h:Rp K H Γ)(p:Γ.Perm Δ):Rp K H Δ:=by
 obtain⟨Hz,L,h,nd,g,d⟩:=h
 obtain⟨M,q,h'⟩:=h.perm p
 exact⟨Hz,M,h',q.nodup_iff.mp nd,g,fun b m=>d b (q.mem_iff.mpr m)⟩
theorem Rp.part {H:Hp}{Γ Δ:Fm}(h:Rp K H (Γ++Δ)):Rp K H Δ:=by
 obtain⟨Hz,L,h,nd,g,d⟩:=h
 obtain⟨L1,L2,rfl,_,h2⟩:=h.split
 exact⟨Hz,L2,h2,(IW.mp nd).2.1,g,fun b m=>d b (n_ _ m)⟩
theorem Rp.tail {H:Hp}{x:T × Option V}{Γ:Fm}(h:Rp K H (x::Γ)):Rp K H Γ:=Rp.part (Γ:=[x]) h
theorem eI{H H':Hp}(s:aS H H')(a:Ml)(u:HO)(e:H a=some u):H' a=some u/\((∀ xs,H a≠some (.tup xs))->∀ xs,H' a≠some (.tup xs)):=
 ⟨s _ _ e,fun n xs r=>n xs (by rw[s _ _ e]at r;exact e.trans r)⟩
theorem Rp.same {H H':Hp}{Γ:Fm}(h:Rp K H Γ)(s:aS H H'):Rp K H' Γ:=by
 obtain⟨Hz,L,h,nd,g,d⟩:=h
 exact⟨Hz,L,h.move (aS.tk s) .bD (fun a m u e=>eI s a u e),nd,g.trans (.of s),d⟩
end
section
variable{K:Mk}
theorem oS{H H':Hp}{p:Ml}{o:HO}(s:Put H p o H')(a:Ml)(n:a≠p)(u:HO)(e:H a=some u):H' a=some u/\((∀ xs,H a≠some (.tup xs))->∀ xs,H' a≠some (.tup xs)):=
 ⟨by rw[s.else_ a n];exact e,fun m xs r=>m xs (by rw[s.else_ a n]at r;exact r)⟩
theorem RepTs.len {Hz H:Hp}:∀ {ts:List T} {vs:List V} {L:List Ml},RepTs K Hz H ts vs L->ts.length=vs.length
 | _,_,_,.nil=>rfl
 | _,_,_,.cons _ _ c=>by rw[k_,k_,c.len]
abbrev zz(ts:List T)(vs:List V):Fm:=ts.zip (vs.map some)
theorem RepTs.toL {Hz H:Hp}:∀ {ts:List T} {vs:List V} {L:List Ml},RepTs K Hz H ts vs L->RepL K Hz H (zz ts vs) L
 | _,_,_,.nil=>.nil
 | _,_,_,.cons e h c=>.cons e (.inr ⟨_,rfl,h⟩) c.toL
theorem RepL.vC {Hz H:Hp}:∀ {ts:List T} {vs:List V} {L:List Ml},ts.length=vs.length->RepL K Hz H (zz ts vs) L->RepTs K Hz H ts vs L
 | [],[],_,_,.nil=>.nil
 | [],v::vs,_,l,_=>by simp at l
 | t::ts,[],_,l,_=>by simp at l
 | t::ts,v::vs,L,l,h=>by
  have h:RepL K Hz H ((t,some v)::zz ts vs) L:=h
  cases h with
  | cons e h c=>
   refine .cons e ?_ (c.vC (by simpa using l))
   rcases h with⟨rfl,rfl⟩ | ⟨w,e2,h⟩
   ·exact .any
   cases e2;exact h
theorem RepKs.toL {Hz H:Hp}:∀ {ts:List (Key × T)} {vs:List (Key × V)} {L:List Ml},RepKs K Hz H ts vs L->ts.map (·.1)=vs.map (·.1)/\RepTs K Hz H (ts.map (·.2)) (vs.map (·.2)) L
 | _,_,_,.nil=>⟨rfl,.nil⟩
 | _,_,_,.cons e h c=>by
  obtain⟨e1,c1⟩:=c.toL
  exact⟨by rw[j',j',e1],.cons e h c1⟩
theorem RepKs.ofL {Hz H:Hp}:∀ {ts:List (Key × T)} {vs:List (Key × V)} {L:List Ml},ts.map (·.1)=vs.map (·.1)->RepTs K Hz H (ts.map (·.2)) (vs.map (·.2)) L->RepKs K Hz H ts vs L
 | [],[],_,_,.nil=>.nil
 | [],_::_,_,e,_=>by simp at e
 | _::_,[],_,e,_=>by simp at e
 | (k,t)::ts,(k',v)::vs,L,e,.cons e2 h c=>by
  rw[j',j',Jd]at e
  have e0:k=k':=e.1
  subst e0
  exact .cons e2 h (RepKs.ofL e.2 c)
theorem RepXs.toL {Hz H:Hp}:∀ {ts:List (List Key × T)} {vs:List (List Key × V)} {L:List Ml},RepXs K Hz H ts vs L->ts.map (·.1)=vs.map (·.1)/\RepTs K Hz H (ts.map (·.2)) (vs.map (·.2)) L
 | _,_,_,.nil=>⟨rfl,.nil⟩
 | _,_,_,.cons e h c=>by
  obtain⟨e1,c1⟩:=c.toL
  exact⟨by rw[j',j',e1],.cons e h c1⟩
theorem RepXs.ofL {Hz H:Hp}:∀ {ts:List (List Key × T)} {vs:List (List Key × V)} {L:List Ml},ts.map (·.1)=vs.map (·.1)->RepTs K Hz H (ts.map (·.2)) (vs.map (·.2)) L->RepXs K Hz H ts vs L
 | [],[],_,_,.nil=>.nil
 | [],_::_,_,e,_=>by simp at e
 | _::_,[],_,e,_=>by simp at e
 | (k,t)::ts,(k',v)::vs,L,e,.cons e2 h c=>by
  rw[j',j',Jd]at e
  have e0:k=k':=e.1
  subst e0
  exact .cons e2 h (RepXs.ofL e.2 c)
theorem xS{H H':Hp}{p:Ml}{o:HO}{t:T}{Γ Δ:Fm}(h:Rp K H (Γ++Δ))(hp:H p=none)(s:aS H H')(hn:H' p=some o)
  (mk:∀ Hz L,RepL K Hz H' Γ L->RepT K Hz H' t (.ref p) (p::L)):Rp K H' ((t,some (.ref p))::Δ):=by
 obtain⟨Hz,N,h,nd,g,d⟩:=h
 obtain⟨L,M,rfl,h1,h2⟩:=h.split
 have mv:∀ a∈L++M,∀ u,H a=some u->H' a=some u/\((∀ xs,H a≠some (.tup xs))->∀ xs,H' a≠some (.tup xs)):=fun a _ u e=>eI s a u e
 have h1':=h1.move (aS.tk s) .bD fun a m=>mv a (w_ _ m)
 have h2':=h2.move (aS.tk s) .bD fun a m=>mv a (n_ _ m)
 refine⟨Hz,(p::L)++M,.cons rfl (.inr ⟨_,rfl,mk Hz L h1'⟩) h2',?_,g.trans (.of s),?_⟩
 ·rw[Il,G_]
  refine⟨fun m=>?_,nd⟩
  obtain⟨⟨u,e⟩,_⟩:=h.there p m
  rw[hp]at e;cases e
 intro b m
 rcases o_.mp m with rfl | m
 ·exact g.none hp
 exact d b m
theorem cY{H H':Hp}{p:Ml}{ts:List T}{vs:List V}{Δ:Fm}(h:Rp K H (zz ts vs++Δ))(l:ts.length=vs.length)(hp:H p=none)(s:aS H H')(hn:H' p=some (.lst vs)):Rp K H' ((.lst true ts,some (.ref p))::Δ):=
 xS h hp s hn fun _ _ q=>.lstO hn (q.vC l)
theorem de{H H':Hp}{p:Ml}{ts:List T}{vs:List V}{Δ:Fm}(h:Rp K H (zz ts vs++Δ))(l:ts.length=vs.length)(s:aS H H')(hn:H' p=some (.tup vs)):Rp K H' ((.tup ts,some (.ref p))::Δ):=by
 obtain⟨Hz,N,h,nd,g,d⟩:=h.same s
 obtain⟨L,M,rfl,h1,h2⟩:=h.split
 exact⟨Hz,L++M,.cons rfl (.inr ⟨_,rfl,.tup hn (h1.vC l)⟩) h2,nd,g,d⟩
theorem dj{H:Hp}{ts:List T}{x:Option V}{Γ:Fm}(h:Rp K H ((.lst true ts,x)::Γ)):∃ a vs,x=some (.ref a)/\H a=some (.lst vs)/\ts.length=vs.length/\Rp K H ((.bare,some (.ref a))::(zz ts vs++Γ)):=by
 obtain⟨Hz,N,h,nd,g,d⟩:=h
 cases h with
 | cons e h c=>
  rcases h with⟨h,_⟩ | ⟨v,rfl,h⟩
  ·cases h
  cases h with
  | lstO h1 c1=>
   refine⟨_,_,rfl,h1,c1.len,Hz,N,.cons (L:=[_]) (M:=_++_) (by rw[e];rfl) (.inr ⟨_,rfl,.bare h1 fun xs r=>?_⟩) (c1.toL.app c),nd,g,d⟩
   rw[h1]at r;cases r
theorem nQ{H H':Hp}{a:Ml}{o:HO}{t:T}{Γ Δ:Fm}(h:Rp K H ((.bare,some (.ref a))::(Γ++Δ)))(p:Put H a o H')
  (mk:∀ Hz L,RepL K Hz H' Γ L->RepT K Hz H' t (.ref a) (a::L)):Rp K H' ((t,some (.ref a))::Δ):=by
 obtain⟨Hz,N,h,nd,g,d⟩:=h
 cases h with
 | cons e h c=>
  rcases h with⟨h,_⟩ | ⟨v,ev,h⟩
  ·cases h
  cases ev
  cases h with
  | bare h1 nt=>
   obtain⟨L,M,e2,h2,h3⟩:=c.split
   subst e;subst e2
   rw[Lg,G_]at nd
   have tk:TK H H':=Put.tk p nt
   have ne:∀ b∈L++M,b≠a:=fun b m z=>nd.1 (z ▸ m)
   have g':Gr Hz H':=fun b u r=>by
    have hb:b≠a:=fun z=>by
     obtain⟨w,q⟩:=Rd.some r
     rw[z,d a (by rw[Lg];exact s_)]at q
     cases q
    rcases g b u r with r | ⟨o,r⟩
    ·exact .inl (by rw[p.else_ b hb];exact r)
    exact .inr ⟨o,by rw[p.else_ b hb];exact r⟩
   refine⟨Hz,(a::L)++M,.cons rfl (.inr ⟨_,rfl,mk Hz L ?_⟩) ?_,?_,g',?_⟩
   ·exact h2.move tk .bD fun b m=>oS p b (ne b (w_ _ m))
   ·exact h3.move tk .bD fun b m=>oS p b (ne b (n_ _ m))
   ·rw[Il,G_];exact nd
   exact d
theorem d3{H H':Hp}{a:Ml}{ts:List T}{vs:List V}{Γ:Fm}(h:Rp K H ((.bare,some (.ref a))::(zz ts vs++Γ)))(l:ts.length=vs.length)(p:Put H a (.lst vs) H'):Rp K H' ((.lst true ts,some (.ref a))::Γ):=
 nQ h p fun _ _ q=>.lstO p.at_ (q.vC l)
theorem qa{H:Hp}{ts:List (Key × T)}{x:Option V}{Γ:Fm}(h:Rp K H ((.dK true ts,x)::Γ)):∃ a vs,x=some (.ref a)/\H a=some (.dK vs)/\ts.map (·.1)=vs.map (·.1)/\Rp K H ((.bare,some (.ref a))::(zz (ts.map (·.2)) (vs.map (·.2))++Γ)):=by
 obtain⟨Hz,N,h,nd,g,d⟩:=h
 cases h with
 | cons e h c=>
  rcases h with⟨h,_⟩ | ⟨v,rfl,h⟩
  ·cases h
  cases h with
  | dKO h1 c1=>
   obtain⟨e1,c2⟩:=c1.toL
   refine⟨_,_,rfl,h1,e1,Hz,N,.cons (L:=[_]) (M:=_++_) (by rw[e];rfl) (.inr ⟨_,rfl,.bare h1 fun xs r=>?_⟩) (c2.toL.app c),nd,g,d⟩
   rw[h1]at r;cases r
theorem xU{H:Hp}{ts:List (List Key × T)}{x:Option V}{Γ:Fm}(h:Rp K H ((.dT true ts,x)::Γ)):∃ a vs,x=some (.ref a)/\H a=some (.dT vs)/\ts.map (·.1)=vs.map (·.1)/\Rp K H ((.bare,some (.ref a))::(zz (ts.map (·.2)) (vs.map (·.2))++Γ)):=by
 obtain⟨Hz,N,h,nd,g,d⟩:=h
 cases h with
 | cons e h c=>
  rcases h with⟨h,_⟩ | ⟨v,rfl,h⟩
  ·cases h
  cases h with
  | dTO h1 c1=>
   obtain⟨e1,c2⟩:=c1.toL
   refine⟨_,_,rfl,h1,e1,Hz,N,.cons (L:=[_]) (M:=_++_) (by rw[e];rfl) (.inr ⟨_,rfl,.bare h1 fun xs r=>?_⟩) (c2.toL.app c),nd,g,d⟩
   rw[h1]at r;cases r
theorem bF{κ α β:Type}{ts:List (κ × α)}{vs:List (κ × β)}(e:ts.map (·.1)=vs.map (·.1)):ts.length=vs.length:=by
 have:=congrArg J6 e
 rwa[a_,a_]at this
theorem lV{H H':Hp}{a:Ml}{ts:List (Key × T)}{vs:List (Key × V)}{Γ:Fm}(h:Rp K H ((.bare,some (.ref a))::(zz (ts.map (·.2)) (vs.map (·.2))++Γ)))(l:ts.map (·.1)=vs.map (·.1))(p:Put H a (.dK vs) H'):Rp K H' ((.dK true ts,some (.ref a))::Γ):=
 nQ h p fun _ _ q=>.dKO p.at_ (RepKs.ofL l (q.vC (by rw[a_,a_];exact bF l)))
theorem uT{H H':Hp}{a:Ml}{ts:List (List Key × T)}{vs:List (List Key × V)}{Γ:Fm}(h:Rp K H ((.bare,some (.ref a))::(zz (ts.map (·.2)) (vs.map (·.2))++Γ)))(l:ts.map (·.1)=vs.map (·.1))(p:Put H a (.dT vs) H'):Rp K H' ((.dT true ts,some (.ref a))::Γ):=
 nQ h p fun _ _ q=>.dTO p.at_ (RepXs.ofL l (q.vC (by rw[a_,a_];exact bF l)))
theorem AF{H H':Hp}{p:Ml}{Δ:Fm}(h:Rp K H Δ)(hp:H p=none)(s:aS H H')(hn:H' p=some (.dT [])):Rp K H' ((.dT true [],some (.ref p))::Δ):=
 xS (Γ:=[]) h hp s hn fun _ _ q=>by cases q;exact .dTO hn .nil
theorem ni{H:Hp}{t:T}{x:Option V}{Γ:Fm}(h:Rp K H ((t,x)::Γ)):Rp K H ((er t,x)::Γ):=by
 obtain⟨Hz,N,h,nd,g,d⟩:=h
 cases h with
 | @cons _ _ L M _ _ e h c=>
  rcases h with⟨rfl,rfl⟩ | ⟨v,rfl,h⟩
  ·exact⟨Hz,N,.cons e (.inl ⟨rfl,rfl⟩) c,nd,g,d⟩
  subst e
  have dz:∀ b∈L,Hz b=none:=fun b m=>d b (w_ _ m)
  let Z:Hp:=fun b=>if b∈L then H b else Hz b
  have hz:Gr Hz Z:=fun b u r=>by
   have nb:b ∉ L:=fun m=>by
    obtain⟨w,q⟩:=Rd.some r
    rw[dz b m]at q;cases q
   rcases r with r | ⟨o,r⟩
   ·exact .inl (by show(if b∈L then H b else Hz b)=_;rw[if_neg nb];exact r)
   exact .inr ⟨o,by show(if b∈L then H b else Hz b)=_;rw[if_neg nb];exact r⟩
  have zh:Gr Z H:=fun b u r=>by
   by_cases nb:b∈L
   ·rcases r with r | ⟨o,r⟩
    ·exact .inl (by have r:(if b∈L then H b else Hz b)=_:=r;rw[if_pos nb]at r;exact r)
    exact .inr ⟨o,by have r:(if b∈L then H b else Hz b)=_:=r;rw[if_pos nb]at r;exact r⟩
   refine g b u ?_
   rcases r with r | ⟨o,r⟩
   ·exact .inl (by have r:(if b∈L then H b else Hz b)=_:=r;rw[if_neg nb]at r;exact r)
   exact .inr ⟨o,by have r:(if b∈L then H b else Hz b)=_:=r;rw[if_neg nb]at r;exact r⟩
  have nd2:=IW.mp nd
  refine⟨Z,[]++M,.cons rfl (.inr ⟨v,rfl,h.frz hz fun b m=>?_⟩) (c.move (fun _ _ r=>r) hz fun b m u e=>⟨e,fun n=>n⟩),nd2.2.1,zh,fun b m=>?_⟩
  ·show(if b∈L then H b else Hz b)=_
   rw[if_pos m]
  show(if b∈L then H b else Hz b)=_
  rw[if_neg (fun z=>nd2.2.2 b z b m rfl)]
  exact d b (n_ _ m)
theorem fq{H:Hp}{t:T}{x:Option V}{Γ:Fm}(h:Rp K H ((t,x)::Γ))(n:b7 t=true):Rp K H ((t,x)::(t,x)::Γ):=by
 obtain⟨Hz,N,h,nd,g,d⟩:=h
 cases h with
 | @cons _ _ L M _ _ e h c=>
  have hL:L=[]:=by
   rcases h with⟨_,rfl⟩ | ⟨v,_,h⟩
   ·rfl
   exact h.nil_of n
  subst hL
  exact⟨Hz,N,.cons (L:=[]) (M:=N) rfl h (.cons e h c),nd,g,d⟩
theorem kq.view {Hz H:Hp}(g:Gr Hz H){t:T}{x:Option V}{L:List Ml}(h:kq K Hz H t x L):kq K H H (er t) x []:=by
 rcases h with⟨rfl,rfl⟩ | ⟨v,rfl,h⟩
 ·exact .inl ⟨rfl,rfl⟩
 exact .inr ⟨v,rfl,h.frz g fun _ _=>rfl⟩
theorem RepL.view {Hz H:Hp}(g:Gr Hz H):∀ {Γ:Fm} {L:List Ml},RepL K Hz H Γ L->RepL K H H (Γ.map fun p=>(er p.1,p.2)) []
 | _,_,.nil=>.nil
 | _,_,.cons e h c=>.cons rfl (h.view g) (c.view g)
theorem mf{H:Hp}{Γ:Fm}(h:Rp K H Γ):Rp K H ((Γ.map fun p=>(er p.1,p.2))++[(.kp H,some .non)]):=by
 obtain⟨Hz,N,h,nd,g,d⟩:=h
 refine⟨H,[]++[],(h.view g).app (.cons rfl (.inr ⟨_,rfl,.kp .bD⟩) .nil),IZ,.bD,fun b m=>by cases m⟩
def over(H H':Hp):Hp:=fun b=>match H b with
 | some u=>some u
 | none=>H' b
theorem d7{H H':Hp}{b:Ml}{u:HO}(e:H b=some u):over H H' b=some u:=by unfold over;rw[e]
theorem gH{H H':Hp}{b:Ml}(e:H b=none):over H H' b=H' b:=by unfold over;rw[e]
theorem vc(H H':Hp):aS H (over H H'):=fun b u e=>d7 e
theorem nD{H H':Hp}(g:Gr H H'){b:Ml}:over H H' b=H' b\/∃ o u,H' b=some (.frz o u)/\over H H' b=some u:=by
 cases q:H b with
 | none=>exact .inl (gH q)
 | some u=>
  rw[d7 q]
  rcases g b u (.inl q)with r | ⟨o,r⟩
  ·exact .inl r.symm
  exact .inr ⟨o,u,r,rfl⟩
theorem pE{H H':Hp}(g:Gr H H'){b:Ml}{xs:List V}(r:H' b=some (.tup xs)):over H H' b=some (.tup xs):=by
 rcases nD g (b:=b)with e | ⟨o,u,e,_⟩
 ·rw[e];exact r
 rw[r]at e;cases e
theorem mL{H H':Hp}{t:T}{x:Option V}{Γ Δ:Fm}(h:Rp K H Γ)(q:Rp K H' ((t,x)::(Δ++[(.kp H,some .non)])))(n:cG t=true):Gr H H'/\Rp K (over H H') ((t,x)::Γ):=by
 obtain⟨Hy,N',q,nd',g',d'⟩:=q
 cases q with
 | @cons _ _ L M _ _ e h1 c=>
  have hkp:Gr H Hy:=by
   obtain⟨_,_,_,_,c2⟩:=c.split
   cases c2 with
   | cons _ h2 _=>
    rcases h2 with⟨z,_⟩ | ⟨_,_,h2⟩
    ·cases z
    cases h2 with
    | kp z=>exact z
  have gr:=hkp.trans g'
  refine⟨gr,?_⟩
  subst e
  have nd2:=IW.mp nd'
  have hL:∀ b∈L,H b=none:=fun b m=>hkp.none (d' b (w_ _ m))
  obtain⟨Hz,N,h,nd,g,d⟩:=h
  have so:=vc H H'
  have tk:TK H' (over H H'):=fun b xs r=>pE gr r
  have h1':kq K Hz (over H H') t x L:=by
   rcases h1 with⟨rfl,rfl⟩ | ⟨v,rfl,h1⟩
   ·exact .inl ⟨rfl,rfl⟩
   refine .inr ⟨v,rfl,h1.Hc tk n fun b m u e=>?_⟩
   have eo:=gH (H':=H') (hL b m)
   exact⟨eo.trans e,fun nt xs r=>nt xs (by rw[<-eo];exact r)⟩
  refine⟨Hz,L++N,.cons rfl h1' (h.move (aS.tk so) .bD fun b m u e=>eI so b u e),?_,g.trans (.of so),?_⟩
  ·rw[IW]
   refine⟨nd2.1,nd,fun b m b' m' z=>?_⟩
   subst z
   obtain⟨⟨u,e⟩,_⟩:=h.there b m'
   rw[hL b m]at e;cases e
  intro b m
  rcases z_.mp m with m | m
  ·exact g.none (hL b m)
  exact d b m
theorem jM:∀ {ts:List T} {vs:List V} {i:Nat} {t:T},ts.length=vs.length->ts[i]?=some t->∃ w,vs[i]?=some w
 | ts,vs,i,t,l,e=>by
  have h:i < ts.length:=(gV.mp e).1
  exact⟨vs[i]'(by omega),d_ (by omega)⟩
theorem fT{α:Type}:∀ {l:List α} {i:Nat} {x y:α},l[i]?=some y->(l.set i x).set i y=l
 | [],i,x,y,e=>by simp at e
 | a::l,0,x,y,e=>by simp at e;subst e;rfl
 | a::l,i + 1,x,y,e=>by
  simp only[Jo]at e
  rw[KA,KA,fT e]
end
theorem j7{α β:Type}:∀ {l:List α} {m:List β} {i:Nat} {a:α} {b:β} (t:α) (y:β),l[i]?=some a->m[i]?=some b->((a,b)::(l.set i t).zip (m.set i y)).Perm ((t,y)::l.zip m)
 | [],m,i,a,b,t,y,h,_=>by simp at h
 | x::l,[],i,a,b,t,y,_,h=>by simp at h
 | x::l,z::m,0,a,b,t,y,h,g=>by
  simp only[J2,LC]at h g
  subst h;subst g
  exact .swap _ _ _
 | x::l,z::m,i + 1,a,b,t,y,h,g=>by
  simp only[Jo]at h g
  have p:=j7 t y h g
  show L3 ((a,b)::(x,z)::(l.set i t).zip (m.set i y)) ((t,y)::(x,z)::l.zip m)
  exact(I_ _ _ _).trans ((p.cons _).trans (.swap _ _ _))
theorem set_same{α:Type}{l:List α}{i:Nat}{x:α}(h:l[i]?=some x):l.set i x=l:=by
 have:=fT (x:=x) h
 rw[K4]at this
 exact this
section
variable{K:Mk}
def Rs(K:Mk)(H:Hp)(env:Ev)(σ:St)(Fr:Fm):Prop:=env.length=σ.length/\Rp K H (env.zip σ++Fr)
theorem dU{H:Hp}{x:Option V}{Γ:Fm}(h:Rp K H Γ):Rp K H ((.any,x)::Γ):=by
 obtain⟨Hz,N,h,nd,g,d⟩:=h
 exact⟨Hz,N,.cons (L:=[]) rfl (.inl ⟨rfl,rfl⟩) h,nd,g,d⟩
theorem Rs.perm {H:Hp}{env:Ev}{σ:St}{Fr Gr:Fm}(h:Rs K H env σ Fr)(p:Fr.Perm Gr):Rs K H env σ Gr:=⟨h.1,h.2.perm (p.append_left _)⟩
theorem Rs.drop {H:Hp}{env:Ev}{σ:St}{x:T × Option V}{Fr:Fm}(h:Rs K H env σ (x::Fr)):Rs K H env σ Fr:=⟨h.1,(h.2.perm j_).tail⟩
theorem Rs.head {H:Hp}{env:Ev}{σ:St}{x:T × Option V}{Fr:Fm}(h:Rs K H env σ (x::Fr)):Rp K H (x::(env.zip σ++Fr)):=h.2.perm j_
theorem Rs.of {H:Hp}{env:Ev}{σ:St}{x:T × Option V}{Fr:Fm}(l:env.length=σ.length)(h:Rp K H (x::(env.zip σ++Fr))):Rs K H env σ (x::Fr):=⟨l,h.perm j_.symm⟩
theorem Rs.chg {H H':Hp}{env:Ev}{σ:St}{Δ Δ' Fr:Fm}(h:Rs K H env σ (Δ++Fr))(f:∀ Γ,Rp K H (Δ++Γ)->Rp K H' (Δ'++Γ)):Rs K H' env σ (Δ'++Fr):=by
 refine⟨h.1,?_⟩
 have p:∀ A:Fm,(A++(env.zip σ++Fr)).Perm (env.zip σ++(A++Fr)):=fun A=>by
  rw[<-l_,<-l_]
  exact IB.append_right _
 exact(f _ (h.2.perm (p Δ).symm)).perm (p Δ')
theorem Rs.slot {H:Hp}{env:Ev}{σ:St}{Fr:Fm}{i:Nat}{t:T}(h:Rs K H env σ Fr)(e:env[i]?=some t):∃ x,σ[i]?=some x/\Rs K H (env.set i .any) σ ((t,x)::Fr):=by
 have hi:i < env.length:=(gV.mp e).1
 have hs:i < σ.length:=by rw[<-h.1];exact hi
 have ex:σ[i]?=some σ[i]:=d_ hs
 refine⟨σ[i],ex,by rw[HV];exact h.1,?_⟩
 have p:=j7 (T.any) σ[i] e ex
 rw[set_same ex]at p
 refine(dU (x:=σ[i]) h.2).perm ?_
 refine C' ?_ j_.symm
 exact(p.symm.append_right Fr)
theorem Rs.i8 {H:Hp}{env:Ev}{σ:St}{Fr:Fm}{i:Nat}{t:T}{x:Option V}(h:Rs K H env σ ((t,x)::Fr))(hi:i < env.length)(ex:σ[i]?=some x):Rs K H (env.set i t) σ Fr:=by
 have e:env[i]?=some env[i]:=d_ hi
 refine⟨by rw[HV];exact h.1,?_⟩
 have p:=j7 t x e ex
 rw[set_same ex]at p
 refine Rp.tail (x:=(env[i],x)) (h.2.perm ?_)
 refine j_.trans ?_
 exact(p.symm.append_right Fr)
theorem Rs.store {H:Hp}{env:Ev}{σ:St}{Fr:Fm}{i:Nat}{t:T}{v:V}(h:Rs K H env σ ((t,some v)::Fr))(hi:i < env.length):Rs K H (env.set i t) (σ.set i (some v)) Fr:=by
 have e:env[i]?=some env[i]:=d_ hi
 have hs:i < σ.length:=by rw[<-h.1];exact hi
 have ex:σ[i]?=some σ[i]:=d_ hs
 refine⟨by rw[HV,HV];exact h.1,?_⟩
 have p:=j7 t (some v) e ex
 refine Rp.tail (x:=(env[i],σ[i])) (h.2.perm ?_)
 refine j_.trans ?_
 exact(p.symm.append_right Fr)
end
theorem jr{X:Cx}{pins:List (Ml × Obj)}{σ σ':St}{H H':Hp}{s s':Mm}(I:Inv X pins σ H s)(J:Inv X pins σ' H' s')(g:Gr H H'):Inv X pins σ' (over H H') s':=by
 have nn:∀ b,H' b=none->over H H' b=none:=fun b e=>by rw[gH (g.none e)];exact e
 refine⟨J.ok,J.os,J.bare,⟨J.base.keep,J.base.slot,?_,J.base.there,?_,?_,?_⟩,J.loc,J.cell,nn _ J.free,fun x c e=>nn _ (J.freeC x c e),fun p hp=>?_,?_,J.len⟩
 ·exact fun b o e1 e2 e3=>nn _ (J.base.free b o e1 e2 e3)
 ·exact fun b xs e=>d7 (I.base.tups b xs e)
 ·exact fun b o u e=>d7 (I.base.frzs b o u e)
 ·exact fun b ps e=>by
   obtain⟨m,em⟩:=I.base.tbls b ps e
   exact⟨m,d7 em⟩
 ·obtain⟨h1,h2,h3⟩:=J.pin p hp
  exact⟨h1,nn _ h2,h3⟩
 intro b u e
 have ho:∀ c y,H' c=some (.own y)->over H H' c=some (.own y):=fun c y q=>by
  rcases nD g (b:=c)with z | ⟨o,w,z,_⟩
  ·rw[z];exact q
  rw[q]at z;cases z
 have ht:∀ c xs,H' c=some (.tup xs)->over H H' c=some (.tup xs):=fun c xs q=>pE g q
 have key:b9 X.prog X.w H' s'.heap b u:=by
  rcases nD g (b:=b)with z | ⟨o,w,z,zw⟩
  ·rw[z]at e;exact J.hok b u e
  rw[zw]at e
  cases e
  exact(J.hok b _ z).2
 exact key.iO (fun c v _ q=>q) (fun c=>ho c b) ht
theorem zJ{X:Cx}{e:MB}{t:TE}(h:PE X e t):PE X e (fun σ H Q=>t σ H fun v H'=>Gr H H'/\Q v (over H H')):=fun pins s σ H Q I q=>
 thn (h pins s σ H _ I q) fun u s' ⟨v,H',I',r,g,q'⟩=>⟨v,over H H',jr I I' g,r,q'⟩
theorem zZ{X:Cx}{e:MB}{t:TT}(h:PT X e t):PT X e (fun σ H Q=>t σ H fun b H'=>Gr H H'/\Q b (over H H')):=fun pins s σ H Q I q=>
 thn (h pins s σ H _ I q) fun b s' ⟨H',I',g,q'⟩=>⟨over H H',jr I I' g,q'⟩
abbrev PF:=Ev->(T->Ev->Prop)->Prop
abbrev PB:=Ev->(Bool->Ev->Prop)->Prop
abbrev PFs:=Ev->(List T->Ev->Prop)->Prop
noncomputable def wE(K:Mk)(f:PF):TE:=fun σ H Q=>∃ env Fr k,Rs K H env σ Fr/\f env k/\∀ t env' v H',k t env'->Rs K H' env' σ ((t,some v)::Fr)->Q v H'
noncomputable def wB(K:Mk)(f:PB):TT:=fun σ H Q=>∃ env Fr k,Rs K H env σ Fr/\f env k/\∀ b env' H',k b env'->Rs K H' env' σ Fr->Q b H'
noncomputable def wA(K:Mk)(f:PFs):TA:=fun σ H Q=>∃ env Fr k,Rs K H env σ Fr/\f env k/\∀ ts env' vs H',k ts env'->ts.length=vs.length->Rs K H' env' σ (zz ts vs++Fr)->Q vs H'
def GE(X:Cx)(e:MB)(f:PF):Prop:=PE X e (wE X.K f)
def GT(X:Cx)(e:MB)(f:PB):Prop:=PT X e (wB X.K f)
def GW(X:Cx)(e:MB)(f:PB):Prop:=PW X e (wB X.K f)
def GA(X:Cx)(es:List MB)(f:PFs):Prop:=PA X es (wA X.K f)
theorem PE.imp {X:Cx}{e:MB}{t t':TE}(h:PE X e t)(k:∀ σ H Q,t' σ H Q->t σ H Q):PE X e t':=fun pins s σ H Q I q=>h pins s σ H Q I (k _ _ _ q)
theorem PT.imp {X:Cx}{e:MB}{t t':TT}(h:PT X e t)(k:∀ σ H Q,t' σ H Q->t σ H Q):PT X e t':=fun pins s σ H Q I q=>h pins s σ H Q I (k _ _ _ q)
theorem PW.imp {X:Cx}{e:MB}{t t':TT}(h:PW X e t)(k:∀ σ H Q,t' σ H Q->t σ H Q):PW X e t':=fun wh pins s σ H Q I q=>h wh pins s σ H Q I (k _ _ _ q)
theorem PA.imp {X:Cx}{es:List MB}{t t':TA}(h:PA X es t)(k:∀ σ H Q,t' σ H Q->t σ H Q):PA X es t':=fun pos pins s σ H Q I q=>h pos pins s σ H Q I (k _ _ _ q)
def fQ(f:PF):PF:=fun env k=>f (erL env) fun t _=>cG t=true/\k t env
def fQT(f:PB):PB:=fun env k=>f (erL env) fun b _=>k b env
theorem iZ:∀(env:Ev) (σ:St),(env.zip σ).map (fun p=>(er p.1,p.2))=(erL env).zip σ
 | [],σ=>by simp[erL]
 | t::env,[]=>by simp
 | t::env,x::σ=>by
  rw[erL,Lx,j',Lx,iZ env σ]
theorem aL{X:Cx}{e:MB}{f:PF}(h:GE X e f):GE X e (fQ f):=by
 refine PE.imp (zJ h) ?_
 rintro σ H Q ⟨env,Fr,k,rs,q,c⟩
 have rv:Rs X.K H (erL env) σ ((Fr.map fun p=>(er p.1,p.2))++[(.kp H,some .non)]):=by
  refine⟨by rw[nz];exact rs.1,?_⟩
  have:=mf rs.2
  rw[t_,iZ,l_]at this
  exact this
 refine⟨erL env,_,_,rv,q,?_⟩
 rintro t env' v H' ⟨n,kt⟩ rs'
 obtain⟨g,r2⟩:=mL rs.2 (Δ:=env'.zip σ++(Fr.map fun p=>(er p.1,p.2))) (by rw[l_];exact rs'.head) n
 exact⟨g,c t env v _ kt (.of rs.1 r2)⟩
theorem x6{K:Mk}{H H':Hp}{Γ Δ:Fm}(h:Rp K H Γ)(q:Rp K H' (Δ++[(.kp H,some .non)])):Gr H H'/\Rp K (over H H') Γ:=by
 obtain⟨g,r⟩:=mL (t:=.any) (x:=none) h (dU q) rfl
 exact⟨g,r.tail⟩
theorem pW{X:Cx}{e:MB}{f:PB}(h:GT X e f):GT X e (fQT f):=by
 refine PT.imp (zZ h) ?_
 rintro σ H Q ⟨env,Fr,k,rs,q,c⟩
 have rv:Rs X.K H (erL env) σ ((Fr.map fun p=>(er p.1,p.2))++[(.kp H,some .non)]):=by
  refine⟨by rw[nz];exact rs.1,?_⟩
  have:=mf rs.2
  rw[t_,iZ,l_]at this
  exact this
 refine⟨erL env,_,_,rv,q,?_⟩
 rintro b env' H' kt rs'
 obtain⟨g,r2⟩:=x6 rs.2 (Δ:=env'.zip σ++(Fr.map fun p=>(er p.1,p.2))) (by rw[l_];exact rs'.2)
 exact⟨g,c b env _ kt ⟨rs.1,r2⟩⟩
def fK(t:T):PF:=fun env k=>k t env
section
variable{X:Cx}{pos:Pos}
theorem jq{K:Mk}{H:Hp}{env:Ev}{σ:St}{Fr:Fm}{t:T}{v:V}(h:Rs K H env σ Fr)(r:∀ Hz,RepT K Hz H t v []):Rs K H env σ ((t,some v)::Fr):=by
 refine .of h.1 ?_
 obtain⟨Hz,N,q,nd,g,d⟩:=h.2
 exact⟨Hz,N,.cons (L:=[]) rfl (.inr ⟨v,rfl,r Hz⟩) q,nd,g,d⟩
theorem ge_int{i:Int}{j:Nat}:GE X (.Constant (.int i) j pos) (fK (.int i)):=PE.imp bG fun σ H Q ⟨env,Fr,k,rs,q,c⟩=>c _ _ _ _ q (jq rs fun _=>.int)
theorem yr{b:Bool}{j:Nat}:GE X (.Constant (.bool b) j pos) (fK (.bl b)):=PE.imp wL fun σ H Q ⟨env,Fr,k,rs,q,c⟩=>c _ _ _ _ q (jq rs fun _=>.bl)
def isAny:T->Bool
 | .any=>true
 | _=>false
noncomputable def Ab(i:Nat):PF:=fun env k=>match env[i]? with
 | some t=>isAny t=false/\b7 t=true/\k t env
 | none=>False
noncomputable def fFz(i:Nat):PF:=fun env k=>match env[i]? with
 | some t=>isAny t=false/\k (er t) (env.set i (er t))
 | none=>False
noncomputable def fMv(i:Nat):PF:=fun env k=>match env[i]? with
 | some t=>isAny t=false/\k t (env.set i .any)
 | none=>False
theorem cK{K:Mk}{H:Hp}{env:Ev}{σ:St}{Fr:Fm}{t:T}{x:Option V}(h:Rs K H env σ ((t,x)::Fr))(n:isAny t=false):∃ v,x=some v:=by
 obtain⟨Hz,N,q,_⟩:=h.head
 cases q with
 | cons e h c=>
  rcases h with⟨rfl,_⟩ | ⟨v,e,_⟩
  ·cases n
  exact⟨v,e⟩
theorem ab(i:Nat){x:Str}(hN:X.N[i]?=some x:=by rfl)(hv:Vis X.env.scope x:=by first | exact c_ rfl | exact b_ (c_ rfl) | exact b_ (b_ rfl))(hd:(x ==("__debug__":Str))=false:=by decide)(hcd:(x ==("__classdict__":Str))=false:=by decide):GE X (.Name x pos) (Ab i):=by
 refine PE.imp (dH hN hv hd hcd) ?_
 rintro σ H Q ⟨env,Fr,k,rs,q,c⟩
 unfold Ab at q
 split at q
 ·rename_i t e
  obtain⟨na,no,q⟩:=q
  obtain⟨y,ey,rs2⟩:=rs.slot e
  obtain⟨v,rfl⟩:=cK rs2 na
  refine⟨v,ey,c _ _ _ _ q ?_⟩
  have hi:i < env.length:=(gV.mp e).1
  have r3:Rs X.K H (env.set i .any) σ ((t,some v)::(t,some v)::Fr):=.of rs2.1 ((fq rs2.head no).perm (by
   refine Kv _ ?_
   exact j_.symm))
  have r4:=Rs.i8 (i:=i) r3 (by rw[HV];exact hi) ey
  rw[fT e]at r4
  exact r4
 exact q.elim
theorem bL(i:Nat){x:Str}(hN:X.N[i]?=some x:=by rfl)(hv:Vis X.env.scope x:=by first | exact c_ rfl | exact b_ (c_ rfl) | exact b_ (b_ rfl))(hd:(x ==("__debug__":Str))=false:=by decide)(hcd:(x ==("__classdict__":Str))=false:=by decide):GE X (.Name x pos) (fFz i):=by
 refine PE.imp (dH hN hv hd hcd) ?_
 rintro σ H Q ⟨env,Fr,k,rs,q,c⟩
 unfold fFz at q
 split at q
 ·rename_i t e
  obtain⟨na,q⟩:=q
  obtain⟨y,ey,rs2⟩:=rs.slot e
  obtain⟨v,rfl⟩:=cK rs2 na
  refine⟨v,ey,c _ _ _ _ q ?_⟩
  have hi:i < env.length:=(gV.mp e).1
  have no:b7 (er t)=true:=bT t
  have r3:Rs X.K H (env.set i .any) σ ((er t,some v)::(er t,some v)::Fr):=.of rs2.1 ((fq (ni rs2.head) no).perm (by
   refine Kv _ ?_
   exact j_.symm))
  have r4:=Rs.i8 (i:=i) r3 (by rw[HV];exact hi) ey
  rw[K4]at r4
  exact r4
 exact q.elim
theorem oU(i:Nat){x:Str}(hN:X.N[i]?=some x:=by rfl)(hv:Vis X.env.scope x:=by first | exact c_ rfl | exact b_ (c_ rfl) | exact b_ (b_ rfl))(hd:(x ==("__debug__":Str))=false:=by decide)(hcd:(x ==("__classdict__":Str))=false:=by decide):GE X (.Name x pos) (fMv i):=by
 refine PE.imp (dH hN hv hd hcd) ?_
 rintro σ H Q ⟨env,Fr,k,rs,q,c⟩
 unfold fMv at q
 split at q
 ·rename_i t e
  obtain⟨na,q⟩:=q
  obtain⟨y,ey,rs2⟩:=rs.slot e
  obtain⟨v,rfl⟩:=cK rs2 na
  exact⟨v,ey,c _ _ _ _ q rs2⟩
 exact q.elim
end
section
variable{K:Mk}{H:Hp}{Γ:Fm}
theorem fg{t:T}{y:V}(h:Rp K H ((t,some y)::Γ))(n:isAny t=false):∃ Hz L,RepT K Hz H t y L/\Gr Hz H:=by
 obtain⟨Hz,N,h,nd,g,d⟩:=h
 cases h with
 | cons e h c=>
  rcases h with⟨rfl,_⟩ | ⟨v,e2,h⟩
  ·cases n
  cases e2
  exact⟨Hz,_,h,g⟩
theorem aK{i:Int}{y:V}(h:Rp K H ((.int i,some y)::Γ)):y=.int i:=by
 obtain⟨_,_,r,_⟩:=fg h rfl
 cases r;rfl
theorem l6{i:Bool}{y:V}(h:Rp K H ((.bl i,some y)::Γ)):y=.bl i:=by
 obtain⟨_,_,r,_⟩:=fg h rfl
 cases r;rfl
theorem gG{i:Str}{y:V}(h:Rp K H ((.str i,some y)::Γ)):y=.str i:=by
 obtain⟨_,_,r,_⟩:=fg h rfl
 cases r;rfl
theorem DH{y:V}(h:Rp K H ((.non,some y)::Γ)):y=.non:=by
 obtain⟨_,_,r,_⟩:=fg h rfl
 cases r;rfl
theorem bO{t:T}{v:V}(h:Rp K H Γ)(r:∀ Hz,RepT K Hz H t v []):Rp K H ((t,some v)::Γ):=by
 obtain⟨Hz,N,q,nd,g,d⟩:=h
 exact⟨Hz,N,.cons (L:=[]) rfl (.inr ⟨v,rfl,r Hz⟩) q,nd,g,d⟩
def items:T->Option (List T)
 | .tup ts=>some ts
 | .cst ts=>some ts
 | .lst _ ts=>some ts
 | _=>none
def jo:T->Bool
 | .tup _=>true
 | .cst _=>true
 | _=>false
theorem si{a:Ml}{vs:List V}(h:SqT K (fun _=>none) a vs)(H:Hp):SqT K H a vs:=by
 rcases h with (h | ⟨_,h⟩) | h
 ·cases h
 ·cases h
 exact .inr h
theorem aB{t:T}{ts:List T}{y:V}(e:items t=some ts)(h:Rp K H ((t,some y)::Γ)):∃ a vs,y=.ref a/\SqG (jo t) K H a vs/\ts.length=vs.length/\Rp K H (zz ts vs++Γ):=by
 obtain⟨Hz,N,h,nd,g,d⟩:=h
 cases h with
 | cons e1 h c=>
  rcases h with⟨rfl,_⟩ | ⟨v,e2,h⟩
  ·cases e
  cases e2
  cases h <;> cases e
  ·rename_i a vs h c1
   exact⟨a,vs,rfl,SqT.of h,c1.len,Hz,_,c1.toL.app c,by rw[<-e1];exact nd,g,fun b m=>d b (by rw[e1];exact m)⟩
  ·rename_i a vs h c1
   exact⟨a,vs,rfl,si h H,c1.len,Hz,_,c1.toL.app c,by rw[<-e1];exact nd,g,fun b m=>d b (by rw[e1];exact m)⟩
  ·rename_i a vs L h c1
   rw[e1,Il,G_]at nd
   exact⟨a,vs,rfl,SqL.of h,c1.len,Hz,_,c1.toL.app c,nd.2,g,fun b m=>d b (by rw[e1,Il];exact r_ _ m)⟩
  rename_i a vs h c1
  exact⟨a,vs,rfl,.inl (g _ _ h),c1.len,Hz,_,c1.toL.app c,by rw[<-e1];exact nd,g,fun b m=>d b (by rw[e1];exact m)⟩
theorem sC:∀ {ts:List T} {vs:List V} {i:Nat} {t:T} {w:V},ts[i]?=some t->vs[i]?=some w->∃ r,(zz ts vs).Perm ((t,some w)::r)
 | [],vs,i,t,w,e,f=>by simp at e
 | t::ts,[],i,_,w,e,f=>by simp at f
 | t::ts,v::vs,0,u,w,e,f=>by
  simp only[J2,LC]at e f
  subst e;subst f
  exact⟨_,.refl _⟩
 | t::ts,v::vs,i + 1,u,w,e,f=>by
  simp only[Jo]at e f
  obtain⟨r,h⟩:=sC (ts:=ts) (vs:=vs) e f
  exact⟨(t,some v)::r,(h.cons _).trans (.swap _ _ _)⟩
theorem e9{ts:List T}{vs:List V}{i:Nat}{t:T}{w:V}(h:Rp K H (zz ts vs++Γ))(e:ts[i]?=some t)(f:vs[i]?=some w):Rp K H ((t,some w)::Γ):=by
 obtain⟨r,p⟩:=sC e f
 refine Rp.part (Γ:=r) (h.perm ?_)
 refine(p.append_right Γ).trans ?_
 exact j_.symm
theorem yN{ts:List T}{vs:List V}{i:Int}{t:T}(l:ts.length=vs.length)(e:atI ts i=some t)(h:Rp K H (zz ts vs++Γ)):∃ w,atI vs i=some w/\Rp K H ((t,some w)::Γ):=by
 unfold atI at e ⊢
 rw[l]at e
 cases q:ixN vs.length i with
 | none=>rw[q]at e;cases e
 | some j=>
  rw[q]at e
  have e:ts[j]?=some t:=e
  obtain⟨w,f⟩:=jM l e
  exact⟨w,f,e9 h e f⟩
end
def got{α:Type}(o:Option α)(k:α->Prop):Prop:=match o with
 | some u=>k u
 | none=>False
theorem yD{α:Type}{o:Option α}{u:α}{k:α->Prop}(e:o=some u)(h:k u):got o k:=by rw[e];exact h
theorem aI{α:Type}{o:Option α}{k:α->Prop}(h:got o k):∃ u,o=some u/\k u:=by
 cases o with
 | none=>exact h.elim
 | some u=>exact⟨u,rfl,h⟩
def cnd(b:Bool)(A B:Prop):Prop:=(b=true->A)/\(b=false->B)
theorem Fn{A B:Prop}(h:A):cnd true A B:=⟨fun _=>h,fun e=>by cases e⟩
theorem G3{A B:Prop}(h:B):cnd false A B:=⟨fun e=>(by cases e),fun _=>h⟩
theorem dc{b:Bool}{A B:Prop}(h:cnd b A B):if b=true then A else B:=by
 cases b with
 | true=>rw[if_pos rfl];exact h.1 rfl
 | false=>rw[if_neg (by decide)];exact h.2 rfl
abbrev P2:=T->T->(T->Prop)->Prop
noncomputable def w2(K:Mk)(g:P2):R2:=fun x y H Q=>∃ tx ty Γ k,Rp K H ((ty,some y)::(tx,some x)::Γ)/\g tx ty k/\∀ t v H',k t->Rp K H' ((t,some v)::Γ)->Q v H'
def OpP(X:Cx)(f:Mj->Mj->Sem Mj)(g:P2):Prop:=OpR X f (w2 X.K g)
theorem OpP.of {X:Cx}{f:Mj->Mj->Sem Mj}{g:P2}{r:R2}(h:OpR X f r)(k:∀ tx ty x y H Γ (k:T->Prop) (Q:VK),Rp X.K H ((ty,some y)::(tx,some x)::Γ)->g tx ty k->(∀ t v H',k t->Rp X.K H' ((t,some v)::Γ)->Q v H')->r x y H Q):OpP X f g:=
 fun pins s σ H x y v u Q I rx ry ⟨tx,ty,Γ,kk,rp,g,c⟩=>h pins s σ H x y v u Q I rx ry (k tx ty x y H Γ kk Q rp g c)
def xW(g:P2)(a b:PF):PF:=fun env k=>a env fun x env1=>b env1 fun y env2=>g x y fun t=>k t env2
theorem xO{X:Cx}{g:P2}{fa fb:PF}:∀ σ H Q,wE X.K (xW g fa fb) σ H Q->tOp (w2 X.K g) (wE X.K fa) (wE X.K fb) σ H Q:=by
 rintro σ H Q ⟨env,Fr,k,rs,q,c⟩
 refine⟨env,Fr,_,rs,q,fun tx env1 x H1 q1 rs1=>⟨env1,_,_,rs1,q1,fun ty env2 y H2 q2 rs2=>?_⟩⟩
 refine⟨tx,ty,env2.zip σ++Fr,_,?_,q2,fun t v H' kt rp=>c _ _ _ _ kt (.of rs2.1 rp)⟩
 exact rs2.head.perm (.cons _ j_)
section
variable{X:Cx}{a b c d:MB}{fa fb fc fd:PF}{pos:Pos}
theorem af{op:P9}{g:P2}(ho:OpP X (Nn op) g)(ha:GE X a fa)(hb:GE X b fb):GE X (.BinOp a op b pos) (xW g fa fb):=PE.imp (bU ho ha hb) xO
def AZ(f:PF):PB:=fun env k=>f env fun t env'=>match t with
 | .bl b=>k b env'
 | _=>False
theorem vS{K:Mk}{f:PF}:∀ σ H Q,wB K (AZ f) σ H Q->wD (wE K f) σ H Q:=by
 rintro σ H Q ⟨env,Fr,k,rs,q,c⟩
 refine⟨env,Fr,_,rs,q,fun t env' v H' q1 rs1=>?_⟩
 cases t <;> first | exact q1.elim | skip
 rename_i b
 exact⟨b,l6 rs1.head,c _ _ _ q1 rs1.drop⟩
theorem dP{op:O5}{g:P2}(ho:OpP X (M4 op) g)(ha:GE X a fa)(hb:GE X b fb)(hm:NK op b=false):GT X (.Compare a [op] [b] pos) (AZ (xW g fa fb)):=by
 refine PT.imp (eE ho ha hb hm) fun σ H Q h=>?_
 obtain⟨env,Fr,k,rs,q,c⟩:=vS σ H Q h
 exact xO σ H _ ⟨env,Fr,k,rs,q,c⟩
noncomputable def nv(g g':P2)(fa fb fc:PF):PF:=fun env k=>fa env fun x env1=>fb env1 fun y env2=>b7 y=true/\g x y fun z=>match z with
 | .bl b=>cnd b (fc env2 fun u env3=>g' y u fun t=>k t env3) (k (.bl false) env2)
 | _=>False
theorem qe{X:Cx}{g g':P2}{fa fb fc:PF}:∀ σ H Q,wE X.K (nv g g' fa fb fc) σ H Q->qR (w2 X.K g) (w2 X.K g') (wE X.K fa) (wE X.K fb) (wE X.K fc) σ H Q:=by
 rintro σ H Q ⟨env,Fr,k,rs,q,c⟩
 refine⟨env,Fr,_,rs,q,fun tx env1 x H1 q1 rs1=>⟨env1,_,_,rs1,q1,fun ty env2 y H2 ⟨no,q2⟩ rs2=>?_⟩⟩
 have rd:=fq rs2.head no
 refine⟨tx,ty,(ty,some y)::(env2.zip σ++Fr),_,?_,q2,fun t v H' kt rp=>?_⟩
 ·refine rd.perm (.cons _ ?_)
  refine C' (.cons _ j_) (.swap _ _ _)
 cases t <;> first | exact kt.elim | skip
 rename_i bb
 refine⟨bb,l6 rp,dc ⟨fun hb=>?_,fun hb=>?_⟩⟩
 ·refine⟨env2,(ty,some y)::Fr,_,.of rs2.1 rp.tail,kt.1 hb,fun tu env3 u H3 q3 rs3=>?_⟩
  refine⟨ty,tu,env3.zip σ++Fr,_,?_,q3,fun t v H' kt rp=>c _ _ _ _ kt (.of rs3.1 rp)⟩
  exact rs3.head.perm (.cons _ j_)
 exact c _ _ _ _ (kt.2 hb) (jq ⟨rs2.1,rp.tail.tail⟩ fun _=>.bl)
theorem xE{op op':O5}{g g':P2}(ho:OpP X (M4 op) g)(ho':OpP X (M4 op') g')(ha:GE X a fa)(hb:GE X b fb)(hc:GE X c fc)(hm:Rb [op,op'] [b,c]=false:=by with_unfolding_all rfl) :
  GE X (.Compare a [op,op'] [b,c] pos) (nv g g' fa fb fc):=PE.imp (yk ho ho' ha hb hc hm) qe
theorem vY{op op':O5}{g g':P2}(ho:OpP X (M4 op) g)(ho':OpP X (M4 op') g')(ha:GE X a fa)(hb:GE X b fb)(hc:GE X c fc)(hm:Rb [op,op'] [b,c]=false:=by with_unfolding_all rfl) :
  GT X (.Compare a [op,op'] [b,c] pos) (AZ (nv g g' fa fb fc)):=by
 refine PT.imp (y0 ho ho' ha hb hc hm) fun σ H Q h=>?_
 obtain⟨env,Fr,k,rs,q,c⟩:=vS σ H Q h
 exact qe σ H _ ⟨env,Fr,k,rs,q,c⟩
noncomputable def zl:T->(Bool->Prop)->Prop
 | .non,k=>k false
 | .bl b,k=>k b
 | .int i,k=>k (i != 0)
 | .str x,k=>x.length<=sizeLine/\k ((x.length:Int) != 0)
 | .tup ts,k=>k (!ts.isEmpty)
 | .cst ts,k=>k (!ts.isEmpty)
 | .lst _ ts,k=>k (!ts.isEmpty)
 | _,_=>False
def Gx(f:PF):PB:=fun env k=>f env fun t env'=>zl t fun b=>k b env'
theorem oX{α β:Type}{l:List α}{m:List β}(h:l.length=m.length):l.isEmpty=m.isEmpty:=by
 cases l <;> cases m <;> first | rfl | simp at h
theorem gx(ha:GE X a fa)(he:∀ whole,QC a X.env whole=(do let v <-whole;Rq a.pos;OK [v] (Tf v)):=by intro _;rfl):GT X a (Gx fa):=by
 refine PT.imp (y9 ha he) ?_
 rintro σ H Q ⟨env,Fr,k,rs,q,c⟩
 refine⟨env,Fr,_,rs,q,fun t env' v H' q1 rs1=>?_⟩
 have fin:∀ b,k b env'->Q b H':=fun b kb=>c _ _ _ kb rs1.drop
 have sq:∀ ts b,items t=some ts->b=(!ts.isEmpty)->k b env'->∃ b,Dm X.K v H' b/\Q b H':=fun ts b e eb kb=>by
  obtain⟨a,vs,rfl,hq,l,_⟩:=aB e rs1.head
  refine⟨b,?_,fin b kb⟩
  rw[oX l]at eb
  revert hq
  cases jo t with
  | true=>exact fun hq=>.inr (.inl ⟨vs,hq,eb⟩)
  | false=>exact fun hq=>.inl ⟨vs,hq,eb⟩
 cases t with
 | non=>rw[DH rs1.head];exact⟨_,rfl,fin _ q1⟩
 | bl b=>rw[l6 rs1.head];exact⟨_,rfl,fin _ q1⟩
 | int i=>rw[aK rs1.head];exact⟨_,rfl,fin _ q1⟩
 | str x=>rw[gG rs1.head];exact⟨_,⟨q1.1,rfl⟩,fin _ q1.2⟩
 | tup ts=>exact sq _ _ rfl rfl q1
 | cst ts=>exact sq _ _ rfl rfl q1
 | lst o ts=>exact sq _ _ rfl rfl q1
 | _=>exact q1.elim
def BG(ta tb:PB):PB:=fun env k=>ta env fun b env1=>cnd b (tb env1 k) (k false env1)
def C1(ta:PB):PB:=fun env k=>ta env fun b env1=>k (!b) env1
variable{ta tb:PB}{rest:List MB}
theorem uA(ha:GT X a ta):GW X (.BoolOp .And [a] pos) ta:=Am ha
theorem yn(ha:GT X a ta)(hb:GW X (.BoolOp .And (b::rest) pos) tb):GW X (.BoolOp .And (a::b::rest) pos) (BG ta tb):=by
 refine PW.imp (Et ha hb) ?_
 rintro σ H Q ⟨env,Fr,k,rs,q,c⟩
 refine⟨env,Fr,_,rs,q,fun b env' H' q1 rs1=>dc ⟨fun e=>?_,fun e=>?_⟩⟩
 ·exact⟨env',Fr,k,rs1,q1.1 e,c⟩
 exact c _ _ _ (q1.2 e) rs1
theorem Gk{f:PB}(h:GW X a f):GT X a f:=PW.pt h
theorem qW(ha:GT X a ta):GT X (.UnaryOp .Not a pos) (C1 ta):=by
 refine PT.imp (Cj ha) ?_
 rintro σ H Q ⟨env,Fr,k,rs,q,c⟩
 exact⟨env,Fr,_,rs,q,fun b env' H' q1 rs1=>c _ _ _ q1 rs1⟩
noncomputable def Gz(fa fb:PF):PF:=fun env k=>fa env fun t env1=>match t with
 | .bl b=>cnd b (fb env1 k) (k (.bl false) env1)
 | _=>False
def fIf(tc:PB)(fa fb:PF):PF:=fun env k=>tc env fun b env1=>cnd b (fa env1 k) (fb env1 k)
theorem CO{op}(h:GE X a fa):GE X (.BoolOp op [a] pos) fa:=rn h
theorem Dd(ha:GE X a fa)(hb:GE X (.BoolOp .And (b::rest) pos) fb):GE X (.BoolOp .And (a::b::rest) pos) (Gz fa fb):=by
 refine PE.imp (mz ha hb) ?_
 rintro σ H Q ⟨env,Fr,k,rs,q,c⟩
 refine⟨env,Fr,_,rs,q,fun t env' v H' q1 rs1=>?_⟩
 cases t <;> first | exact q1.elim | skip
 rename_i bb
 refine⟨bb,l6 rs1.head,dc ⟨fun e=>?_,fun e=>?_⟩⟩
 ·exact⟨env',Fr,k,rs1.drop,q1.1 e,c⟩
 exact c _ _ _ _ (q1.2 e) (jq rs1.drop fun _=>.bl)
theorem ge_if(hc:GT X c ta)(ha:GE X a fa)(hb:GE X b fb):GE X (.IfExp c a b pos) (fIf ta fa fb):=by
 refine PE.imp (wm hc ha hb) ?_
 rintro σ H Q ⟨env,Fr,k,rs,q,c⟩
 refine⟨env,Fr,_,rs,q,fun b env' H' q1 rs1=>dc ⟨fun e=>?_,fun e=>?_⟩⟩
 ·exact⟨env',Fr,k,rs1,q1.1 e,c⟩
 exact⟨env',Fr,k,rs1,q1.2 e,c⟩
def CT:PFs:=fun env k=>k [] env
def C6(f:PF)(r:PFs):PFs:=fun env k=>f env fun t env1=>r env1 fun ts env2=>k (t::ts) env2
variable{es:List MB}{fr:PFs}
theorem ai:GA X [] CT:=PA.imp bc fun σ H Q ⟨env,Fr,k,rs,q,c⟩=>c [] env [] H q rfl rs
theorem ae(ha:GE X a fa)(hr:GA X es fr)(hs:ME (a::es) X.env=(false,MQ a X.env)::ME es X.env:=by rfl):GA X (a::es) (C6 fa fr):=by
 refine PA.imp (ax ha hr hs) ?_
 rintro σ H Q ⟨env,Fr,k,rs,q,c⟩
 refine⟨env,Fr,_,rs,q,fun t env1 v H1 q1 rs1=>⟨env1,_,_,rs1,q1,fun ts env2 vs H2 q2 l rs2=>c _ _ _ _ q2 (by rw[k_,k_,l]) ?_⟩⟩
 exact rs2.perm j_
def FZ(fr:PFs):PF:=fun env k=>fr env fun ts env1=>ts.length<=sizeLine/\k (.tup ts) env1
def Gn(fr:PFs):PF:=fun env k=>fr env fun ts env1=>ts.length<=sizeLine/\k (.lst true ts) env1
theorem cp{x1}(h:GA X es fr):GE X (.Tuple es x1 pos) (FZ fr):=by
 refine PE.imp (zW h) ?_
 rintro σ H Q ⟨env,Fr,k,rs,q,c⟩
 refine⟨env,Fr,_,rs,q,fun ts env1 vs H1 ⟨z,q1⟩ l rs1=>⟨by rw[<-l];exact z,fun p H2 hp g e=>c _ _ _ _ q1 ?_⟩⟩
 exact Rs.chg (Δ:=zz ts vs) (Δ':=[(.tup ts,some (.ref p))]) rs1 fun Γ r=>de r l g e
theorem ba(h:GA X es fr):GE X (.List es pos) (Gn fr):=by
 refine PE.imp (zV h) ?_
 rintro σ H Q ⟨env,Fr,k,rs,q,c⟩
 refine⟨env,Fr,_,rs,q,fun ts env1 vs H1 ⟨z,q1⟩ l rs1=>⟨by rw[<-l];exact z,fun p H2 hp g e=>c _ _ _ _ q1 ?_⟩⟩
 exact Rs.chg (Δ:=zz ts vs) (Δ':=[(.lst true ts,some (.ref p))]) rs1 fun Γ r=>cY r l hp g e
end
open PySem PySem.Spec PyProof.Rows L2
mutual
def dt:T->Dt
 | .int i=>.int i
 | .bl b=>.bl b
 | .str x=>.str x
 | .tup ts=>.tup (dtL ts)
 | .cst ts=>.tup (dtL ts)
 | .lst _ ts=>.lst (dtL ts)
 | _=>.non
def dtL:List T->List Dt
 | []=>[]
 | t::r=>dt t::dtL r
end
mutual
def isD:T->Bool
 | .tup ts=>i5 ts
 | .cst ts=>i5 ts
 | .lst _ ts=>i5 ts
 | .int _=>true
 | .bl _=>true
 | .str _=>true
 | .non=>true
 | _=>false
def i5:List T->Bool
 | []=>true
 | t::r=>isD t && i5 r
end
theorem tF{α:Type}(g:α->T):∀ l:List α,dtL (l.map g)=l.map fun x=>dt (g x)
 | []=>rfl
 | x::r=>by rw[j',dtL,tF g r,j']
theorem CV(l:List T):dtL l=l.map dt:=by
 have:=tF (fun x=>x) l
 rw[Ly]at this
 exact this
section
variable{K:Mk}
theorem Be{Hz H:Hp}(g:Gr Hz H):(∀ {t v L},RepT K Hz H t v L->isD t=true->Has K H (dt t) v)/\(∀ {t v L},RepTs K Hz H t v L->i5 t=true->aH K H (dtL t) v)/\(∀ {t v L},RepKs K Hz H t v L->True)/\(∀ {t v L},RepXs K Hz H t v L->True):=
 eK (P:=fun t v L=>isD t=true->Has K H (dt t) v) (Ps:=fun t v L=>i5 t=true->aH K H (dtL t) v) (Pk:=fun t v L=>True) (Px:=fun t v L=>True)
  (fun n=>nomatch n) (fun n=>nomatch n) (fun _ _ n=>nomatch n) (fun _ n=>nomatch n) (fun _=>by show Has K H .non .non;rw[Has]) (fun _=>by rw[dt,Has]) (fun _=>by rw[dt,Has]) (fun _=>by rw[dt,Has]) (fun n=>nomatch n)
  (fun h c n=>by rw[dt,Has];exact⟨_,_,rfl,SqT.of h,c (by rw[isD]at n;exact n)⟩) (fun h c n=>by rw[dt,Has];exact⟨_,_,rfl,si h H,c (by rw[isD]at n;exact n)⟩)
  (fun h c n=>by rw[dt,Has];exact⟨_,_,rfl,SqL.of h,c (by rw[isD]at n;exact n)⟩) (fun h c n=>by rw[dt,Has];exact⟨_,_,rfl,.inl (g _ _ h),c (by rw[isD]at n;exact n)⟩)
  (fun _ _ n=>nomatch n) (fun _ _ n=>nomatch n) (fun _ _ n=>nomatch n) (fun _ _ n=>nomatch n)
  (fun _=>by rw[dtL];exact gm) (fun i j n=>by
   rw[i5,HP]at n
   rw[dtL]
   exact gJ (i n.1) (j n.2)) trivial (fun _ _=>trivial) trivial (fun _ _=>trivial)
theorem RepT.has {Hz H:Hp}(g:Gr Hz H){t:T}{v:V}{L:List Ml}(n:isD t=true)(h:RepT K Hz H t v L):Has K H (dt t) v:=(Be g).1 h n
theorem Ai{t:T}(h:isD t=true):isAny t=false:=by cases t <;> first | rfl | cases h
theorem mX{H:Hp}{Γ:Fm}{t:T}{y:V}(h:Rp K H ((t,some y)::Γ))(n:isD t=true):Has K H (dt t) y:=by
 obtain⟨Hz,L,r,g⟩:=fg h (Ai n)
 exact r.has g n
end
noncomputable def DP:P2
 | .int i,.int j,k=>k (.int (i + j))
 | .str x,.str y,k=>x.length + y.length<=sizeLine/\k (.str (x++y))
 | .lst _ ts,.lst _ us,k=>ts.length + us.length<=sizeLine/\k (.lst true (ts++us))
 | .tup ts,.tup us,k=>ts.length + us.length<=sizeLine/\k (.tup (ts++us))
 | _,_,_=>False
def FA:P2
 | .int i,.int j,k=>k (.int (i - j))
 | _,_,_=>False
def Ft:P2
 | .int i,.int j,k=>mC i j/\k (.int (i * j))
 | _,_,_=>False
def GC:P2
 | .int i,.int j,k=>Bm i j/\k (.int (i / j))
 | _,_,_=>False
def EY:P2
 | .int i,.int j,k=>B4 i j/\k (.int (i ^ j.toNat))
 | _,_,_=>False
def AQ(p:Int->Int->Bool):P2
 | .int i,.int j,k=>k (.bl (p i j))
 | _,_,_=>False
def ltT:P2:=AQ fun i j=>decide (i < j)
def leT:P2:=AQ fun i j=>decide (i<=j)
def gtT:P2:=AQ fun i j=>decide (j < i)
def geT:P2:=AQ fun i j=>decide (j<=i)
def eqT:P2:=fun t u k=>isD t=true/\isD u=true/\dpt (dt t) < 190/\k (.bl (eqD (dt t) (dt u)))
section
variable{X:Cx}
theorem mJ{f:Mj->Mj->Sem Mj}{C:Int->Int->Prop}{r:Int->Int->T}{r':Int->Int->V}(h:OpR X f (rI C r'))(hr:∀ i j K Hz H,RepT K Hz H (r i j) (r' i j) []):OpP X f (fun t u k=>match t,u with | .int i,.int j=>C i j/\k (r i j) | _,_=>False):=by
 refine .of h ?_
 intro tx ty x y H Γ k Q rp g c
 cases tx <;> cases ty <;> first | exact g.elim | skip
 rename_i i j
 rw[aK rp,aK rp.tail]
 exact⟨i,j,rfl,rfl,g.1,c _ _ _ g.2 (bO rp.tail.tail fun Hz=>hr i j _ _ _)⟩
theorem dW{f:Mj->Mj->Sem Mj}{r:Int->Int->T}{r':Int->Int->V}(h:OpR X f (rI0 r'))(hr:∀ i j K Hz H,RepT K Hz H (r i j) (r' i j) []):OpP X f (fun t u k=>match t,u with | .int i,.int j=>k (r i j) | _,_=>False):=by
 refine .of h ?_
 intro tx ty x y H Γ k Q rp g c
 cases tx <;> cases ty <;> first | exact g.elim | skip
 rename_i i j
 rw[aK rp,aK rp.tail]
 exact⟨i,j,rfl,rfl,c _ _ _ g (bO rp.tail.tail fun Hz=>hr i j _ _ _)⟩
theorem OpP.imp {f:Mj->Mj->Sem Mj}{g g':P2}(h:OpP X f g)(k:∀ tx ty k,g' tx ty k->g tx ty k):OpP X f g':=OpR.imp h fun x y H Q ⟨tx,ty,Γ,kk,rp,gg,c⟩=>⟨tx,ty,Γ,kk,rp,k _ _ _ gg,c⟩
theorem Inv.F8 {pins:List (Ml × Obj)}{σ:L2.St}{H:Hp}{s:Mm}{l:Ml}{xs:List V}(I:Inv X pins σ H s)(hH:Rd H l (.lst xs)):xs.length<=sizeLine/\∃(its:List Mj) (n:Nat),Vals xs its/\xs.length=its.length/\s.heap.get? l=some { cls:=.type "list",data:=.seq its.toArray n }:=by
 obtain⟨z,its,n,r,e⟩:=hH.ok I.hok
 exact⟨z,its,n,r,r.length,e⟩
theorem Bv:OpR X (Nn .Add) (fun x y H Q=>∃ l b xs zs,x=.ref l/\y=.ref b/\Rd H l (.lst xs)/\Rd H b (.lst zs)/\xs.length + zs.length<=sizeLine/\New (.lst (xs++zs)) H Q):=by
 intro pins s σ H x y v u Q I rx ry h
 obtain⟨l,b,xs,zs,rfl,rfl,hH,hB,hz,q⟩:=h
 cases rx
 cases ry
 obtain⟨z,its,n,r,hl,e⟩:=Inv.F8 I hH
 obtain⟨z2,its2,n2,r2,hl2,e2⟩:=Inv.F8 I hB
 refine PySem.P.add_list e e2 ?_ (by rw[q_,q_];lia)
 have ea:its.toArray++its2.toArray=(its++its2).toArray:=by simp
 rw[ea]
 exact⟨.ref _,_,I.HJ (t':=s.toks) (r.append r2) (by rw[f'];omega),rfl,q.at I.fresh⟩
theorem fD{K:Mk}{H:Hp}{Γ:Fm}{o:Bool}{ts:List T}{y:V}(h:Rp K H ((.lst o ts,some y)::Γ)):∃ a vs,y=.ref a/\Rd H a (.lst vs)/\ts.length=vs.length/\Rp K H (zz ts vs++Γ):=by
 obtain⟨Hz,N,h,nd,g,d⟩:=h
 cases h with
 | cons e1 h c=>
  rcases h with⟨z,_⟩ | ⟨v,e2,h⟩
  ·cases z
  cases e2
  cases h
  ·rename_i a vs L h c1
   rw[e1,Il,G_]at nd
   exact⟨a,vs,rfl,.inl h,c1.len,Hz,_,c1.toL.app c,nd.2,g,fun b m=>d b (by rw[e1,Il];exact r_ _ m)⟩
  rename_i a vs h c1
  exact⟨a,vs,rfl,g _ _ h,c1.len,Hz,_,c1.toL.app c,by rw[<-e1];exact nd,g,fun b m=>d b (by rw[e1];exact m)⟩
theorem nG{K:Mk}{H:Hp}{Γ:Fm}{ts:List T}{y:V}(h:Rp K H ((.tup ts,some y)::Γ)):∃ a vs,y=.ref a/\H a=some (.tup vs)/\ts.length=vs.length/\Rp K H (zz ts vs++Γ):=by
 obtain⟨Hz,N,h,nd,g,d⟩:=h
 cases h with
 | cons e1 h c=>
  rcases h with⟨z,_⟩ | ⟨v,e2,h⟩
  ·cases z
  cases e2
  cases h with
  | tup h c1=>exact⟨_,_,rfl,h,c1.len,Hz,_,c1.toL.app c,by rw[<-e1];exact nd,g,fun b m=>d b (by rw[e1];exact m)⟩
theorem f6{ts us:List T}{vs ws:List V}(l:ts.length=vs.length):zz (ts++us) (vs++ws)=zz ts vs++zz us ws:=by
 show(ts++us).zip ((vs++ws).map some)=_
 rw[t_,LW (by rw[a_];exact l)]
theorem Bw:OpR X (Nn .Add) (fun x y H Q=>∃ a b ys,x=.ref a/\y=.ref b/\SqT X.K H a []/\SqT X.K H b ys/\Q (.ref b) H):=by
 intro pins s σ H x y v u Q I rx ry h
 obtain⟨a,b,ys,rfl,rfl,ha,hb,q⟩:=h
 cases rx
 cases ry
 obtain⟨its,r1,p1,_⟩:=I.tuple ha
 obtain⟨its2,r2,p2,_⟩:=I.tuple hb
 cases r1
 obtain⟨⟨cls,dd,data,sl⟩,ho,hc,n,hd⟩:=id p1
 obtain⟨⟨cls2,dd2,data2,sl2⟩,ho2,hc2,n2,hd2⟩:=id p2
 simp only at hc hd hc2 hd2
 subst hc hd hc2 hd2
 exact Rf ⟨_,ho,rfl⟩ ⟨_,ho2,rfl⟩ P_ Q3 OW OM (OH _ _)
  (tuple_addW0 a b _ its2.toArray n n2 dd dd2 sl sl2 (by simp)) ⟨ho,ho2,⟨.ref b,H,I,rfl,q⟩⟩
theorem aC:OpP X (Nn .Add) DP:=by
 rintro pins s σ H x y v u Q I rx ry ⟨tx,ty,Γ,k,rp,g,c⟩
 cases tx <;> cases ty <;> first | exact MI g | skip
 ·rename_i i j
  rw[aK rp]at ry;rw[aK rp.tail]at rx
  exact k7 pins s σ H _ _ v u Q I rx ry ⟨i,j,rfl,rfl,c _ _ _ g (bO rp.tail.tail fun _=>.int)⟩
 ·rename_i i j
  rw[gG rp]at ry;rw[gG rp.tail]at rx
  exact qF pins s σ H _ _ v u Q I rx ry ⟨i,j,rfl,rfl,g.1,c _ _ _ g.2 (bO rp.tail.tail fun _=>.str)⟩
 ·rename_i ts us
  obtain⟨b,ws,rfl,hb,lb,rp2⟩:=nG rp
  obtain⟨a,vs,rfl,ha,la,rp3⟩:=nG (rp2.perm j_)
  have lz:vs.length + ws.length<=sizeLine:=by rw[<-la,<-lb];exact g.1
  have rp4:Rp X.K H (zz (ts++us) (vs++ws)++Γ):=by
   rw[f6 la,l_];exact rp3
  by_cases hx:vs=[]
  ·subst hx
   refine Bw pins s σ H _ _ v u Q I rx ry ⟨a,b,ws,rfl,rfl,SqT.of ha,SqT.of hb,?_⟩
   refine c _ _ _ g.2 (de rp4 (by rw[f',f',la,lb]) .bD ?_)
   rw[Kk];exact hb
  refine Bx pins s σ H _ _ v u Q I rx ry ⟨a,b,vs,ws,rfl,rfl,SqT.of ha,SqT.of hb,hx,lz,fun e=>?_,fun _ p hp=>c _ _ _ g.2 (de rp4 (by rw[f',f',la,lb]) (bg hp _) aE)⟩
  refine c _ _ _ g.2 (de rp4 (by rw[f',f',la,lb]) .bD ?_)
  rw[e,Iz];exact ha
 rename_i o ts o' us
 obtain⟨b,ws,rfl,hb,lb,rp2⟩:=fD rp
 obtain⟨a,vs,rfl,ha,la,rp3⟩:=fD (rp2.perm j_)
 have lz:vs.length + ws.length<=sizeLine:=by rw[<-la,<-lb];exact g.1
 have rp4:Rp X.K H (zz (ts++us) (vs++ws)++Γ):=by
  rw[f6 la,l_];exact rp3
 exact Bv pins s σ H _ _ v u Q I rx ry ⟨a,b,vs,ws,rfl,rfl,ha,hb,lz,fun p H' hp g' e=>c _ _ _ g.2 (cY rp4 (by rw[f',f',la,lb]) hp g' e)⟩
theorem aJ:OpP X (Nn .Sub) FA:=(dW (r:=fun i j=>.int (i - j)) Ek fun _ _ _ _ _=>.int).imp fun tx ty k g=>by cases tx <;> cases ty <;> exact g
theorem aA:OpP X (Nn .Mult) Ft:=(mJ (r:=fun i j=>.int (i * j)) f9 fun _ _ _ _ _=>.int).imp fun tx ty k g=>by cases tx <;> cases ty <;> exact g
theorem Av:OpP X (Nn .FloorDiv) GC:=(mJ (r:=fun i j=>.int (i / j)) t7 fun _ _ _ _ _=>.int).imp fun tx ty k g=>by cases tx <;> cases ty <;> exact g
theorem bX:OpP X (Nn .Pow) EY:=(mJ (r:=fun i j=>.int (i ^ j.toNat)) yi fun _ _ _ _ _=>.int).imp fun tx ty k g=>by cases tx <;> cases ty <;> exact g
theorem wo:OpP X (M4 .Lt) ltT:=(dW (r:=fun i j=>.bl (decide (i < j))) Fy fun _ _ _ _ _=>.bl).imp fun tx ty k g=>by cases tx <;> cases ty <;> exact g
theorem ip:OpP X (M4 .LtE) leT:=(dW (r:=fun i j=>.bl (decide (i<=j))) Fj fun _ _ _ _ _=>.bl).imp fun tx ty k g=>by cases tx <;> cases ty <;> exact g
theorem Ez:OpP X (M4 .Gt) gtT:=(dW (r:=fun i j=>.bl (decide (j < i))) EL fun _ _ _ _ _=>.bl).imp fun tx ty k g=>by cases tx <;> cases ty <;> exact g
theorem Dh:OpP X (M4 .GtE) geT:=(dW (r:=fun i j=>.bl (decide (j<=i))) Cb fun _ _ _ _ _=>.bl).imp fun tx ty k g=>by cases tx <;> cases ty <;> exact g
theorem GQ{k:Nat}{A:MJ}(r:Room k A){n:Nat}(h:n < 190):A.units + n < cLine:=by have:=r.un;lia
theorem yH{k:Nat}(hr:Room k X.A):OpP X (M4 .Eq) eqT:=.of xc fun tx ty x y H Γ k Q rp ⟨d1,d2,z,g⟩ c=>
 ⟨dt tx,dt ty,mX rp.tail d1,mX rp d2,GQ hr z,c _ _ _ g (bO rp.tail.tail fun _=>.bl)⟩
end
open PySem PySem.Spec PyProof.Rows L2
def qh:T->Option Key
 | .int i=>some (.inl i)
 | .str x=>some (.inr x)
 | _=>none
noncomputable def iP:List T->Option (List Key)
 | []=>some []
 | t::r=>match qh t,iP r with
  | some k,some ks=>some (k::ks)
  | _,_=>none
section
variable{κ:Type}[DecidableEq κ]
def yJ(kvs:List (κ × T))(k:κ):Option T:=(kvs.find? fun kv=>decide (kv.1=k)).map (·.2)
noncomputable def hJ(kvs:List (κ × T))(k:κ)(v:T):List (κ × T):=
 if(kvs.any fun kv=>decide (kv.1=k))=true then kvs.map (fun kv=>if kv.1=k then(kv.1,v)else kv)else kvs++[(k,v)]
theorem gC:∀ {ts:List (κ × T)} {vs:List (κ × V)} {q:κ} {u:T},ts.map (·.1)=vs.map (·.1)->yJ ts q=some u->∃(w:V) (i:Nat),cH vs q=some w/\(ts.map (·.2))[i]?=some u/\(vs.map (·.2))[i]?=some w
 | [],vs,q,u,e,h=>by cases h
 | (k,t)::ts,[],q,u,e,h=>by cases e
 | (k,t)::ts,(k',v)::vs,q,u,e,h=>by
  rw[j',j',Jd]at e
  have e0:k=k':=e.1
  subst e0
  unfold yJ at h
  rw[IA]at h
  unfold cH
  rw[IA]
  by_cases hk:k=q
  ·have hk':decide (k=q)=true:=decide_eq_true hk
   rw[show decide ((k,t).1=q)=true from hk']at h
   rw[show decide ((k,v).1=q)=true from hk']
   cases h
   exact⟨v,0,rfl,rfl,rfl⟩
  have hk':decide (k=q)=false:=decide_eq_false hk
  rw[show decide ((k,t).1=q)=false from hk']at h
  rw[show decide ((k,v).1=q)=false from hk']
  obtain⟨w,i,h1,h2,h3⟩:=gC (ts:=ts) (vs:=vs) e.2 h
  exact⟨w,i + 1,h1,by simpa using h2,by simpa using h3⟩
end
section
variable{K:Mk}{H:Hp}{Γ:Fm}
theorem xP{o:Bool}{ts:List (Key × T)}{y:V}(h:Rp K H ((.dK o ts,some y)::Γ)):∃ a vs,y=.ref a/\Rd H a (.dK vs)/\ts.map (·.1)=vs.map (·.1)/\Rp K H (zz (ts.map (·.2)) (vs.map (·.2))++Γ):=by
 obtain⟨Hz,N,h,nd,g,d⟩:=h
 cases h with
 | cons e1 h c=>
  rcases h with⟨z,_⟩ | ⟨v,e2,h⟩
  ·cases z
  cases e2
  cases h
  ·rename_i a vs L h c1
   obtain⟨ek,c2⟩:=c1.toL
   rw[e1,Il,G_]at nd
   exact⟨a,vs,rfl,.inl h,ek,Hz,_,c2.toL.app c,nd.2,g,fun b m=>d b (by rw[e1,Il];exact r_ _ m)⟩
  rename_i a vs h c1
  obtain⟨ek,c2⟩:=c1.toL
  exact⟨a,vs,rfl,g _ _ h,ek,Hz,_,c2.toL.app c,by rw[<-e1];exact nd,g,fun b m=>d b (by rw[e1];exact m)⟩
theorem qB{o:Bool}{ts:List (List Key × T)}{y:V}(h:Rp K H ((.dT o ts,some y)::Γ)):∃ a vs,y=.ref a/\Rd H a (.dT vs)/\ts.map (·.1)=vs.map (·.1)/\Rp K H (zz (ts.map (·.2)) (vs.map (·.2))++Γ):=by
 obtain⟨Hz,N,h,nd,g,d⟩:=h
 cases h with
 | cons e1 h c=>
  rcases h with⟨z,_⟩ | ⟨v,e2,h⟩
  ·cases z
  cases e2
  cases h
  ·rename_i a vs L h c1
   obtain⟨ek,c2⟩:=c1.toL
   rw[e1,Il,G_]at nd
   exact⟨a,vs,rfl,.inl h,ek,Hz,_,c2.toL.app c,nd.2,g,fun b m=>d b (by rw[e1,Il];exact r_ _ m)⟩
  rename_i a vs h c1
  obtain⟨ek,c2⟩:=c1.toL
  exact⟨a,vs,rfl,g _ _ h,ek,Hz,_,c2.toL.app c,by rw[<-e1];exact nd,g,fun b m=>d b (by rw[e1];exact m)⟩
theorem rY{t:T}{k:Key}{y:V}(e:qh t=some k)(h:Rp K H ((t,some y)::Γ)):y=kV k:=by
 cases t <;> cases e
 ·rw[aK h];rfl
 rw[gG h];rfl
theorem yM{Hz:Hp}{t:T}{k:Key}{v:V}{L:List Ml}(e:qh t=some k)(h:RepT K Hz H t v L):v=kV k:=by
 cases t <;> cases e
 ·cases h;rfl
 cases h;rfl
theorem kP{Hz:Hp}:∀ {ts:List T} {ks:List Key} {vs:List V} {L:List Ml},iP ts=some ks->RepTs K Hz H ts vs L->vs=ks.map kV
 | [],ks,_,_,e,r=>by cases r;cases e;rfl
 | t::ts,ks,_,_,e,r=>by
  cases r with
  | cons _ h c=>
   rw[iP]at e
   split at e
   ·rename_i k r e1 e2
    cases e
    rw[yM e1 h,kP e2 c]
    rfl
   cases e
theorem uu{ts:List T}{ks:List Key}{y:V}(e:iP ts=some ks)(h:Rp K H ((.tup ts,some y)::Γ)):∃ b,y=.ref b/\H b=some (.tup (ks.map kV)):=by
 obtain⟨Hz,L,r,g⟩:=fg h rfl
 cases r with
 | tup h1 c1=>exact⟨_,rfl,by rw[h1,kP e c1]⟩
end
noncomputable def ixT:P2
 | .tup ts,.int i,k=>got (atI ts i) k
 | .cst ts,.int i,k=>got (atI ts i) k
 | .lst _ ts,.int i,k=>got (atI ts i) k
 | .str x,.int i,k=>x.length<=sizeLine/\got (atI x.cps.toList i) fun c=>k (.str ⟨#[c]⟩)
 | .dK _ kvs,y,k=>got (qh y) fun q=>got (yJ kvs q) k
 | .dT _ kvs,.tup ts,k=>got (iP ts) fun q=>got (yJ kvs q) k
 | _,_,_=>False
section
variable{X:Cx}
theorem tZ(hu:X.A.units + 1 < cLine):IxR X (fun x y H Q=>∃ a v,x=.ref a/\iR H a y (some v)/\Q v H):=by
 intro value slice pins s σ H x y v u Q I rx ry h hs
 obtain⟨a,z,rfl,g,q⟩:=h
 cases rx
 have hT:=iF I g
 unfold OZ
 refine Mi ?_
 rw[QF hT.not_modules]
 refine Mi (Qo hT P0.lookup ?_)
 have fin:Mr (Mw X.prog X.w) X.A (Pp slice false (.ref a) u) (fun r s₃=>Mr (Mw X.prog X.w) X.A (Ss value (.ref a) r >>= fun _=>pure r) (EP X pins σ Q) X.xe s₃) X.xe s:=by
  rw[hs]
  refine R1 (kY hu I g ry fun w' s' I' r'=>Mi (QV (Mn ⟨z,H,I',r',q⟩)))
 first
  | exact Mn (Mi fin)
  | exact Mi (Mn (Mi fin))
  | exact Mi fin
theorem GZ{kr:Nat}(hr:Room kr X.A):IxR X (w2 X.K ixT):=by
 rintro value slice pins s σ H x y v u Q I rx ry ⟨tx,ty,Γ,k,rp,g,c⟩ hs
 have sq:∀ ts i,items tx=some ts->ty=.int i->got (atI ts i) k->Mr (Mw X.prog X.w) X.A (OZ value slice v u) (EP X pins σ Q) X.xe s:=fun ts i e1 e2 g=>by
  obtain⟨t,et,kt⟩:=aI g
  subst e2
  rw[aK rp]at ry
  obtain⟨a,vs,rfl,hq,l,rp2⟩:=aB e1 rp.tail
  obtain⟨w,ew,rp3⟩:=yN l et rp2
  exact GY value slice pins s σ H _ _ v u Q I rx ry ⟨_,a,vs,i,w,rfl,rfl,hq,ew,c _ _ _ kt rp3⟩ hs
 cases tx with
 | tup ts=>cases ty <;> first | exact MI g | exact sq _ _ rfl rfl g
 | cst ts=>cases ty <;> first | exact MI g | exact sq _ _ rfl rfl g
 | lst o ts=>cases ty <;> first | exact MI g | exact sq _ _ rfl rfl g
 | str z=>
  cases ty <;> first | exact MI g | skip
  rename_i i
  obtain⟨hz,g⟩:=g
  obtain⟨t,et,kt⟩:=aI g
  rw[aK rp]at ry
  rw[gG rp.tail]at rx
  exact ye value slice pins s σ H _ _ v u Q I rx ry ⟨z,i,t,rfl,rfl,hz,et,c _ _ _ kt (bO rp.tail.tail fun _=>.str)⟩ hs
 | dK o kvs=>
  have g:got (qh ty) fun q=>got (yJ kvs q) k:=by cases ty <;> exact g
  obtain⟨q,eq,g⟩:=aI g
  obtain⟨t,et,kt⟩:=aI g
  rw[rY eq rp]at ry
  obtain⟨a,vs,rfl,hq,ek,rp2⟩:=xP rp.tail
  obtain⟨w,i,ew,e1,e2⟩:=gC ek et
  exact tZ (l5 hr) value slice pins s σ H _ _ v u Q I rx ry ⟨a,w,rfl,.inl ⟨vs,q,hq,rfl,ew.symm⟩,c _ _ _ kt (e9 rp2 e1 e2)⟩ hs
 | dT o kvs=>
  cases ty <;> first | exact MI g | skip
  rename_i ts
  obtain⟨q,eq,g⟩:=aI g
  obtain⟨t,et,kt⟩:=aI g
  obtain⟨b,rfl,hb⟩:=uu eq rp
  obtain⟨a,vs,rfl,hq,ek,rp2⟩:=qB rp.tail
  obtain⟨w,i,ew,e1,e2⟩:=gC ek et
  exact tZ (l5 hr) value slice pins s σ H _ _ v u Q I rx ry ⟨a,w,rfl,.inr ⟨vs,q,b,hq,rfl,hb,ew.symm⟩,c _ _ _ kt (e9 rp2 e1 e2)⟩ hs
 | _=>cases ty <;> exact MI g
theorem bh{kr:Nat}{a b:MB}{fa fb:PF}{pos:Pos}(hr:Room kr X.A)(ha:GE X a fa)(hb:GE X b fb)(hs:tP b:=by intro _ _;rfl):GE X (.Subscript a b pos) (xW ixT fa fb):=PE.imp (BQ (GZ hr) ha hb hs) xO
def fUn(g:T->(T->Prop)->Prop)(fa:PF):PF:=fun env k=>fa env fun t env1=>g t fun u=>k u env1
def FU:T->(T->Prop)->Prop
 | .int i,k=>k (.int (-i))
 | _,_=>False
theorem z9{a:MB}{fa:PF}{pos:Pos}(ha:GE X a fa):GE X (.UnaryOp .USub a pos) (fUn FU fa):=by
 refine PE.imp (Gh Em ha) ?_
 rintro σ H Q ⟨env,Fr,k,rs,q,c⟩
 refine⟨env,Fr,_,rs,q,fun t env1 v H1 q1 rs1=>?_⟩
 cases t <;> first | exact MI q1 | skip
 rename_i i
 exact⟨i,aK rs1.head,c _ _ _ _ q1 (jq rs1.drop fun _=>.int)⟩
end
open PySem PySem.Spec PyProof.Rows L2
abbrev P1s:=List T->(T->Prop)->Prop
noncomputable def w1s(K:Mk)(g:P1s):List V->Hp->VK->Prop:=fun xs H Q=>∃ ts Γ k,ts.length=xs.length/\Rp K H (zz ts xs++Γ)/\g ts k/\∀ t v H',k t->Rp K H' ((t,some v)::Γ)->Q v H'
def fB(X:Cx)(f:Mj)(g:P1s):Prop:=bA X f (w1s X.K g)
def fCl(g:P1s)(fr:PFs):PF:=fun env k=>fr env fun ts env1=>g ts fun t=>k t env1
section
variable{X:Cx}{e:MB}{es:List MB}{fr:PFs}{pos p:Pos}{x:Str}{g:P1s}
theorem BL:∀ σ H Q,wE X.K (fCl g fr) σ H Q->tCB (w1s X.K g) (wA X.K fr) σ H Q:=by
 rintro σ H Q ⟨env,Fr,k,rs,q,c⟩
 refine⟨env,Fr,_,rs,q,fun ts env1 vs H1 q1 l rs1=>?_⟩
 refine⟨ts,env1.zip σ++Fr,_,l,?_,q1,fun t v H' kt rp=>c _ _ _ _ kt (.of rs1.1 rp)⟩
 refine rs1.2.perm ?_
 rw[<-l_,<-l_]
 exact IB.append_right _
theorem aO{id:String}(hc:fB X (.builtin id) g)(hg:Gl X x)(hm:X.mg x=none)(hv:N6 x=some (.builtin id))(ha:GA X (e::es) fr)(hn:x≠"__name__":=by decide)(hdb:(x ==("__debug__":Str))=false:=by decide)
  (he:ME (e::es) X.env=(false,MQ e X.env)::ME es X.env:=by rfl) (hpl:(Ot pos (ME es X.env)).any (·.1)=false:=by rfl):GE X (.Call (.Name x p) (e::es) [] pos) (fCl g fr):=PE.imp (aX hc hg hm hv ha hn hdb he hpl) BL
theorem i7{id:String}(hc:fB X (.type id) g)(hg:Gl X x)(hm:X.mg x=none)(hv:N6 x=some (.type id))(ha:GA X (e::es) fr)(hn:x≠"__name__":=by decide)(hdb:(x ==("__debug__":Str))=false:=by decide)
  (he:ME (e::es) X.env=(false,MQ e X.env)::ME es X.env:=by rfl) (hpl:(Ot pos (ME es X.env)).any (·.1)=false:=by rfl):GE X (.Call (.Name x p) (e::es) [] pos) (fCl g fr):=PE.imp (lG hc hg hm hv ha hn hdb he hpl) BL
end
section
variable{X:Cx}
theorem zz1{ts:List T}{xs:List V}{t:T}(l:ts.length=xs.length)(e:ts=[t]):∃ x,xs=[x]:=by
 subst e
 rcases xs with _ | ⟨x,_ | ⟨y,xs⟩⟩
 ·cases l
 ·exact⟨x,rfl⟩
 cases l
theorem zz2{ts:List T}{xs:List V}{t u:T}(l:ts.length=xs.length)(e:ts=[t,u]):∃ x y,xs=[x,y]:=by
 subst e
 rcases xs with _ | ⟨x,xs⟩
 ·cases l
 obtain⟨y,rfl⟩:=zz1 (ts:=[u]) (JC l) rfl
 exact⟨x,y,rfl⟩
theorem zz3{ts:List T}{xs:List V}{t u w:T}(l:ts.length=xs.length)(e:ts=[t,u,w]):∃ x y z,xs=[x,y,z]:=by
 subst e
 rcases xs with _ | ⟨x,xs⟩
 ·cases l
 obtain⟨y,z,rfl⟩:=zz2 (ts:=[u,w]) (JC l) rfl
 exact⟨x,y,z,rfl⟩
theorem qi{prog:MA}{w:MC}(d:Ml)(nd:(d == Nj)=false) :
  MeetsIn prog w (Nu.«dict.__len__» ⟨[.ref d],[]⟩) (fun _ R s=>∃ o es ep,s.heap.get? d=some o/\o.data=.dict es ep/\R (.ok (.ret (.int es.size s.toks))) { s with toks:=s.toks + 1 }):=
 .of_wp fun A R s ⟨o,es,ep,ho,hdat,q⟩=>by
  show Mr _ _ (dictSize d >>= _) _ _ s
  unfold dictSize
  refine Mi (Mi (OO ho hdat (Mn ?_)))
  show Mr _ _ (Td d >>= _) _ _ s
  exact Mi (wpAny_pendingCount_other nd (wpAny_ret_mkInt (by rw[Ki];exact q)))
theorem zo{prog:MA}{w:MC}{A:MJ}{E:Mj->Mm->Prop}{s:Mm}{d:Ml}{o:Obj}{es:Array Oj}{ep:Nat}{Q:Mj->Mm->Prop}(nd:(d == Nj)=false)(ho:s.heap.get? d=some o)(hc:o.ExactDict)(hdat:o.data=.dict es ep)
  (fit:(es.size:Int) < 2 ^ 63) (q:∀ t tk,Q (.int es.size t) { s with toks:=tk }):Mr (Mw prog w) A (call (.builtin "len") [.ref d]) Q E s:=by
 have ty:s.TypeIs (.ref d) "dict":=⟨_,ho,hc.1⟩
 refine N3 kind_len plain_len entry_len (args_len1 _) ?_
 unfold Nu.«len»
 refine Mi (m:=oneArg "len" _) (Mn ?_)
 refine Mi (m:=callSpecial? (.ref d) (Nf "__len__")) (MZ (name:=Nf "__len__") ty QK
  (call_meetsIn QK ty PySem.F.entry_dict_len (PySem.F.args_dict_len_1 _) (qi d nd) ⟨o,es,ep,ho,hdat,?_⟩))
 show Mr _ _ _ _ _ { s with toks:=s.toks + 1 }
 refine Mi (MM (Mn (Mi (Qy ?_))))
 show Mr _ _ (if((es.size:Nat):Int) < 0 then _ else _) _ _ _
 rw[if_neg (by lia)]
 show Mr _ _ (if((es.size:Nat):Int)>=2 ^ 63 then _ else _) _ _ _
 rw[if_neg (by lia)]
 exact Mi (wpAny_mkInt (Mn ⟨_,rfl,q _ _⟩))
theorem DF{pins:List (Ml × Obj)}{σ:L2.St}{H:Hp}{s:Mm}{a:Ml}{kvs:List (List Key × V)}{Q:Mj->Mm->Prop}{E:Mj->Mm->Prop}(I:Inv X pins σ H s)(e:Rd H a (.dT kvs))(q:∀ t s',Inv X pins σ H s'->Q (.int kvs.length t) s'):Mr (Mw X.prog X.w) X.A (call (.builtin "len") [.ref a]) Q E s:=by
 obtain⟨z,hd,xs,rel,o,es,ep,h1,h2,h3,h4,_⟩:=sA I.hok e
 have hs:es.size=kvs.length:=by
  have:=congrArg J6 h4
  rw[a_]at this
  rw[<-g_,this]
  exact(Ow rel).symm
 refine zo hd h1 h2 h3 (by rw[sizeLine_eq]at z;lia) fun t tk=>?_
 rw[hs]
 exact q _ _ (I.tok _)
noncomputable def DG:P1s
 | [t],k=>match t with
  | .str x=>x.length<=sizeLine/\k (.int x.length)
  | .dK _ kvs=>k (.int kvs.length)
  | .dT _ kvs=>k (.int kvs.length)
  | t=>got (items t) fun ts=>k (.int ts.length)
 | _,_=>False
theorem bI:fB X (.builtin "len") DG:=by
 rintro pins s σ H xs us Q I r ⟨ts,Γ,k,l,rp,g,c⟩
 match ts,l,g with
 | [t],l,g=>
  obtain⟨x,rfl⟩:=zz1 l rfl
  have rp:Rp X.K H ((t,some x)::Γ):=rp
  have sq:(got (items t) fun ts=>k (.int ts.length))->Mr (Mw X.prog X.w) X.A (call (.builtin "len") us) (EP X pins σ Q) X.xe s:=fun g=>by
   obtain⟨us',e,kt⟩:=aI g
   obtain⟨a,vs,rfl,hq,l2,rp2⟩:=aB e rp
   rw[l2]at kt
   exact vF pins s σ H _ us Q I r ⟨_,a,vs,rfl,hq,c _ _ _ kt (bO rp.tail fun _=>.int)⟩
  cases t with
  | str z=>
   rw[gG rp]at r
   exact mG pins s σ H _ us Q I r ⟨z,rfl,g.1,c _ _ _ g.2 (bO rp.tail fun _=>.int)⟩
  | dK o kvs=>
   obtain⟨a,vs,rfl,hq,ek,rp2⟩:=xP rp
   obtain⟨u,rfl,ru⟩:=vals1 r
   cases ru
   have g:k (.int kvs.length):=g
   rw[bF ek]at g
   exact EM I hq fun t s' I'=>⟨.int vs.length,H,I',⟨t,rfl⟩,c _ _ _ g (bO rp.tail fun _=>.int)⟩
  | dT o kvs=>
   obtain⟨a,vs,rfl,hq,ek,rp2⟩:=qB rp
   obtain⟨u,rfl,ru⟩:=vals1 r
   cases ru
   have g:k (.int kvs.length):=g
   rw[bF ek]at g
   exact DF I hq fun t s' I'=>⟨.int vs.length,H,I',⟨t,rfl⟩,c _ _ _ g (bO rp.tail fun _=>.int)⟩
  | _=>exact sq g
 | [],_,g=>exact MI g
 | _::_::_,_,g=>exact MI g
noncomputable def intsOf:List T->Option (List Int)
 | []=>some []
 | .int i::r=>match intsOf r with
  | some ns=>some (i::ns)
  | none=>none
 | _::_=>none
theorem qk(ns:List Int):intsOf (ns.map T.int)=some ns:=by
 induction ns with
 | nil=>rfl
 | cons n r ih=>rw[j',intsOf,ih]
theorem cf:∀ {ts:List T} {ns:List Int},intsOf ts=some ns->ts=ns.map T.int
 | [],ns,e=>by cases e;rfl
 | t::ts,ns,e=>by
  cases t <;> first | cases e | skip
  rename_i i
  rw[intsOf]at e
  split at e
  ·rename_i ms em
   cases e
   rw[j',cf em]
  cases e
theorem cA{K:Mk}{H:Hp}{Γ:Fm}:∀ {ns:List Int} {vs:List V},(ns.map T.int).length=vs.length->Rp K H (zz (ns.map T.int) vs++Γ)->vs=ns.map V.int
 | [],[],_,_=>rfl
 | [],_::_,l,_=>by simp at l
 | _::_,[],l,_=>by simp at l
 | n::ns,v::vs,l,h=>by
  have h:Rp K H ((.int n,some v)::(zz (ns.map T.int) vs++Γ)):=h
  rw[aK h,cA (by simpa using l) h.tail]
  rfl
noncomputable def yG:P1s
 | [.int i,.int j],k=>k (.int (max i j))
 | [.int i,.int j,.int l],k=>k (.int (max (max i j) l))
 | [t],k=>got (items t) fun ts=>got (intsOf ts) fun ns=>ns≠[]/\∀ r,d5 ns r->k (.int r)
 | _,_=>False
noncomputable def Ac:P1s
 | [.int i,.int j],k=>k (.int (min i j))
 | [.int i,.int j,.int l],k=>k (.int (min (min i j) l))
 | [t],k=>got (items t) fun ts=>got (intsOf ts) fun ns=>ns≠[]/\∀ r,d0 ns r->k (.int r)
 | _,_=>False
theorem dZ(hc:X.calm=true):fB X (.builtin "max") yG:=by
 rintro pins s σ H xs us Q I r ⟨ts,Γ,k,l,rp,g,c⟩
 unfold yG at g
 split at g
 ·rename_i k i j
  obtain⟨x,y,rfl⟩:=zz2 l rfl
  have rp:Rp X.K H ((.int i,some x)::(.int j,some y)::Γ):=rp
  rw[aK rp,aK rp.tail]at r
  refine vm hc pins s σ H _ us Q I r ⟨i,j,rfl,?_⟩
  have e:(if j > i then j else i)=max i j:=by split <;> lia
  rw[e]
  exact c _ _ _ g (bO rp.tail.tail fun _=>.int)
 ·rename_i k i j m
  obtain⟨x,y,z,rfl⟩:=zz3 l rfl
  have rp:Rp X.K H ((.int i,some x)::(.int j,some y)::(.int m,some z)::Γ):=rp
  rw[aK rp,aK rp.tail,aK rp.tail.tail]at r
  refine vw hc pins s σ H _ us Q I r ⟨i,j,m,rfl,fun w h1 h2 h3 h4=>?_⟩
  have e:w=max (max i j) m:=by lia
  rw[e]
  exact c _ _ _ g (bO rp.tail.tail.tail fun _=>.int)
 ·rename_i k t
  obtain⟨x,rfl⟩:=zz1 l rfl
  have rp:Rp X.K H ((t,some x)::Γ):=rp
  obtain⟨us',e,g⟩:=aI g
  obtain⟨ns,en,ne,kt⟩:=aI g
  have:=cf en
  subst this
  obtain⟨a,vs,rfl,hq,l2,rp2⟩:=aB e rp
  have:=cA l2 rp2
  subst this
  revert hq
  cases jo t with
  | true=>exact fun hq=>uW hc pins s σ H _ us Q I r ⟨a,ns,rfl,hq,ne,fun w hw=>c _ _ _ (kt w hw) (bO rp.tail fun _=>.int)⟩
  | false=>exact fun hq=>vL hc pins s σ H _ us Q I r ⟨a,ns,rfl,hq,ne,fun w hw=>c _ _ _ (kt w hw) (bO rp.tail fun _=>.int)⟩
 exact MI g
theorem gS(hc:X.calm=true):fB X (.builtin "min") Ac:=by
 rintro pins s σ H xs us Q I r ⟨ts,Γ,k,l,rp,g,c⟩
 unfold Ac at g
 split at g
 ·rename_i k i j
  obtain⟨x,y,rfl⟩:=zz2 l rfl
  have rp:Rp X.K H ((.int i,some x)::(.int j,some y)::Γ):=rp
  rw[aK rp,aK rp.tail]at r
  refine vb hc pins s σ H _ us Q I r ⟨i,j,rfl,?_⟩
  have e:(if j < i then j else i)=min i j:=by split <;> lia
  rw[e]
  exact c _ _ _ g (bO rp.tail.tail fun _=>.int)
 ·rename_i k i j m
  obtain⟨x,y,z,rfl⟩:=zz3 l rfl
  have rp:Rp X.K H ((.int i,some x)::(.int j,some y)::(.int m,some z)::Γ):=rp
  rw[aK rp,aK rp.tail,aK rp.tail.tail]at r
  refine uR hc pins s σ H _ us Q I r ⟨i,j,m,rfl,fun w h1 h2 h3 h4=>?_⟩
  have e:w=min (min i j) m:=by lia
  rw[e]
  exact c _ _ _ g (bO rp.tail.tail.tail fun _=>.int)
 ·rename_i k t
  obtain⟨x,rfl⟩:=zz1 l rfl
  have rp:Rp X.K H ((t,some x)::Γ):=rp
  obtain⟨us',e,g⟩:=aI g
  obtain⟨ns,en,ne,kt⟩:=aI g
  have:=cf en
  subst this
  obtain⟨a,vs,rfl,hq,l2,rp2⟩:=aB e rp
  have:=cA l2 rp2
  subst this
  revert hq
  cases jo t with
  | true=>exact fun hq=>vH hc pins s σ H _ us Q I r ⟨a,ns,rfl,hq,ne,fun w hw=>c _ _ _ (kt w hw) (bO rp.tail fun _=>.int)⟩
  | false=>exact fun hq=>vG hc pins s σ H _ us Q I r ⟨a,ns,rfl,hq,ne,fun w hw=>c _ _ _ (kt w hw) (bO rp.tail fun _=>.int)⟩
 exact MI g
noncomputable def nA:P1s
 | [.tup ts],k=>k (.tup ts)
 | [.cst ts],k=>k (.cst ts)
 | [.lst _ ts],k=>k (.tup ts)
 | _,_=>False
theorem dv:fB X (.type "tuple") nA:=by
 rintro pins s σ H xs us Q I r ⟨ts,Γ,k,l,rp,g,c⟩
 unfold nA at g
 split at g
 ·rename_i k ts
  obtain⟨x,rfl⟩:=zz1 l rfl
  have rp:Rp X.K H ((.tup ts,some x)::Γ):=rp
  obtain⟨a,vs,rfl,hq,l2,rp2⟩:=aB rfl rp
  exact iH pins s σ H _ us Q I r ⟨a,vs,rfl,hq,c _ _ _ g rp⟩
 ·rename_i k ts
  obtain⟨x,rfl⟩:=zz1 l rfl
  have rp:Rp X.K H ((.cst ts,some x)::Γ):=rp
  obtain⟨a,vs,rfl,hq,l2,rp2⟩:=aB rfl rp
  exact iH pins s σ H _ us Q I r ⟨a,vs,rfl,hq,c _ _ _ g rp⟩
 ·rename_i k o ts
  obtain⟨x,rfl⟩:=zz1 l rfl
  have rp:Rp X.K H ((.lst o ts,some x)::Γ):=rp
  obtain⟨a,vs,rfl,hq,l2,rp2⟩:=aB rfl rp
  exact oC pins s σ H _ us Q I r ⟨a,vs,rfl,hq,fun p H' hp g' e'=>c _ _ _ g (de rp2 l2 g' e')⟩
 exact MI g
noncomputable def boolsOf:List T->Option (List Bool)
 | []=>some []
 | .bl i::r=>match boolsOf r with
  | some ns=>some (i::ns)
  | none=>none
 | _::_=>none
theorem ju:∀ {ts:List T} {ns:List Bool},boolsOf ts=some ns->ts=ns.map T.bl
 | [],ns,e=>by cases e;rfl
 | t::ts,ns,e=>by
  cases t <;> first | cases e | skip
  rename_i i
  rw[boolsOf]at e
  split at e
  ·rename_i ms em
   cases e
   rw[j',ju em]
  cases e
theorem pK{K:Mk}{H:Hp}{Γ:Fm}:∀ {ns:List Bool} {vs:List V},(ns.map T.bl).length=vs.length->Rp K H (zz (ns.map T.bl) vs++Γ)->vs=bools ns
 | [],[],_,_=>rfl
 | [],_::_,l,_=>by simp at l
 | _::_,[],l,_=>by simp at l
 | n::ns,v::vs,l,h=>by
  have h:Rp K H ((.bl n,some v)::(zz (ns.map T.bl) vs++Γ)):=h
  rw[l6 h,pK (by simpa using l) h.tail]
  rfl
def Ee:P1s
 | [.lst _ ts],k=>got (boolsOf ts) fun bs=>k (.bl (bs.all id))
 | _,_=>False
theorem uS(hc:X.calm=true):fB X (.builtin "all") Ee:=by
 rintro pins s σ H xs us Q I r ⟨ts,Γ,k,l,rp,g,c⟩
 unfold Ee at g
 split at g
 ·rename_i k o ts
  obtain⟨x,rfl⟩:=zz1 l rfl
  have rp:Rp X.K H ((.lst o ts,some x)::Γ):=rp
  obtain⟨bs,e,kt⟩:=aI g
  have:=ju e
  subst this
  obtain⟨a,vs,rfl,hq,l2,rp2⟩:=aB rfl rp
  have:=pK l2 rp2
  subst this
  exact oR hc pins s σ H _ us Q I r ⟨a,bs,rfl,hq,c _ _ _ kt (bO rp.tail fun _=>.bl)⟩
 exact MI g
abbrev PO':=Ev->(Option Int->Ev->Prop)->Prop
noncomputable def wO(K:Mk)(f:PO'):TO:=fun σ H Q=>∃ env Fr k,Rs K H env σ Fr/\f env k/\∀ o env' H',k o env'->Rs K H' env' σ Fr->Q o H'
def GO(X:Cx)(e:Option MB)(f:PO'):Prop:=PO X e (wO X.K f)
def F9:PO':=fun env k=>k none env
def Fs(f:PF):PO':=fun env k=>f env fun t env1=>match t with
 | .int i=>k (some i) env1
 | _=>False
theorem rO:GO X none F9:=fun pins s σ H Q I ⟨env,Fr,k,rs,q,c⟩=>sE pins s σ H Q I (c _ _ _ q rs)
theorem uF{e:MB}{f:PF}(h:GE X e f):GO X (some e) (Fs f):=by
 rintro pins s σ H Q I ⟨env,Fr,k,rs,q,c⟩
 refine ui h pins s σ H Q I ⟨env,Fr,_,rs,q,fun t env1 v H1 q1 rs1=>?_⟩
 cases t <;> first | exact MI q1 | skip
 exact⟨_,aK rs1.head,c _ _ _ q1 rs1.drop⟩
noncomputable def ig(ts:List T)(lo hi:Option Int):List T:=(ts.drop (HT.sIx ts.length 0 lo)).take (HT.sIx ts.length ts.length hi - HT.sIx ts.length 0 lo)
noncomputable def slT:T->Option Int->Option Int->(T->Prop)->Prop
 | .lst _ ts,lo,hi,k=>k (.lst true (ig ts lo hi))
 | .tup ts,lo,hi,k=>¬(HT.sIx ts.length 0 lo=0/\HT.sIx ts.length ts.length hi=ts.length)/\k (.tup (ig ts lo hi))
 | .cst ts,lo,hi,k=>¬(HT.sIx ts.length 0 lo=0/\HT.sIx ts.length ts.length hi=ts.length)/\k (.tup (ig ts lo hi))
 | _,_,_,_=>False
theorem tM:∀(ts:List T) (vs:List V) (n:Nat),zz (ts.drop n) (vs.drop n)=(zz ts vs).drop n
 | ts,vs,0=>rfl
 | [],vs,n + 1=>by simp[zz]
 | t::ts,[],n + 1=>by simp[zz]
 | t::ts,v::vs,n + 1=>by
  show zz (ts.drop n) (vs.drop n)=(zz ts vs).drop n
  exact tM ts vs n
theorem uw:∀(ts:List T) (vs:List V) (n:Nat),zz (ts.take n) (vs.take n)=(zz ts vs).take n
 | ts,vs,0=>by simp[zz]
 | [],vs,n + 1=>by simp[zz]
 | t::ts,[],n + 1=>by simp[zz]
 | t::ts,v::vs,n + 1=>by
  show(t,some v)::zz (ts.take n) (vs.take n)=(t,some v)::(zz ts vs).take n
  rw[uw ts vs n]
theorem qD{K:Mk}{H:Hp}{Γ:Fm}{ts:List T}{vs:List V}(l:ts.length=vs.length)(lo hi:Option Int)(h:Rp K H (zz ts vs++Γ)):Rp K H (zz (ig ts lo hi) (dG vs lo hi)++Γ)/\(ig ts lo hi).length=(dG vs lo hi).length:=by
 unfold ig dG
 rw[<-l]
 refine⟨?_,?_⟩
 ·rw[uw,tM]
  have e1:=G' (HT.sIx ts.length 0 lo) (zz ts vs)
  have e2:=G' (HT.sIx ts.length ts.length hi - HT.sIx ts.length 0 lo) ((zz ts vs).drop (HT.sIx ts.length 0 lo))
  have h2:Rp K H ((zz ts vs).drop (HT.sIx ts.length 0 lo)++Γ):=by
   rw[<-e1,l_]at h
   exact h.part
  rw[<-e2,l_]at h2
  have h3:=h2.perm (A_ _ _ _)
  exact h3.part
 rw[D_,D_,HL,HL,l]
noncomputable def fSl(fa:PF)(fl fh:PO'):PF:=fun env k=>fa env fun t env1=>fl env1 fun lo env2=>fh env2 fun hi env3=>slT t lo hi fun u=>k u env3
theorem oD{e:MB}{lo hi:Option MB}{fa:PF}{fl fh:PO'}{p2 pos:Pos}(he:GE X e fa)(hl:GO X lo fl)(hh:GO X hi fh):GE X (.Subscript e (.Slice lo hi none p2) pos) (fSl fa fl fh):=by
 have sl:SlR X (fun x lo hi H Q=>∃ t Γ k,Rp X.K H ((t,some x)::Γ)/\slT t lo hi k/\∀ u v H',k u->Rp X.K H' ((u,some v)::Γ)->Q v H'):=by
  rintro pins s σ H x v vl vu lo hi sl Q I rx hs pl pu ⟨t,Γ,k,rp,g,c⟩
  cases t with
  | lst o ts=>
   obtain⟨a,vs,rfl,hq,l,rp2⟩:=aB rfl rp
   obtain⟨rp3,l3⟩:=qD l lo hi rp2
   exact yd pins s σ H _ v vl vu lo hi sl Q I rx hs pl pu ⟨a,vs,rfl,hq,fun p H' hp g' e=>c _ _ _ g (cY rp3 l3 hp g' e)⟩
  | tup ts=>
   obtain⟨a,vs,rfl,hq,l,rp2⟩:=aB rfl rp
   obtain⟨rp3,l3⟩:=qD l lo hi rp2
   exact ur pins s σ H _ v vl vu lo hi sl Q I rx hs pl pu ⟨a,vs,rfl,hq,by rw[<-l];exact g.1,fun p H' hp g' e=>c _ _ _ g.2 (de rp3 l3 g' e)⟩
  | cst ts=>
   obtain⟨a,vs,rfl,hq,l,rp2⟩:=aB rfl rp
   obtain⟨rp3,l3⟩:=qD l lo hi rp2
   exact ur pins s σ H _ v vl vu lo hi sl Q I rx hs pl pu ⟨a,vs,rfl,hq,by rw[<-l];exact g.1,fun p H' hp g' e=>c _ _ _ g.2 (de rp3 l3 g' e)⟩
  | _=>exact MI g
 refine PE.imp (pR sl he hl hh) ?_
 rintro σ H Q ⟨env,Fr,k,rs,q,c⟩
 refine⟨env,Fr,_,rs,q,fun t env1 v H1 q1 rs1=>⟨env1,_,_,rs1,q1,fun lo env2 H2 q2 rs2=>⟨env2,_,_,rs2,q2,fun hi env3 H3 q3 rs3=>?_⟩⟩⟩
 exact⟨t,_,_,rs3.head,q3,fun u w H' ku rp=>c _ _ _ _ ku (.of rs3.1 rp)⟩
end
open PySem PySem.Spec PyProof.Rows L2
inductive Arg where
 | val (t:T) | bor (i:Nat)
def jY:Arg->T
 | .val t=>t
 | .bor _=>.any
noncomputable def lend:List Arg->Ev->List T × Ev
 | [],env=>([],env)
 | .val t::r,env=>(t::(lend r env).1,(lend r env).2)
 | .bor i::r,env=>match env[i]? with
  | some t=>(t::(lend r (env.set i .any)).1,(lend r (env.set i .any)).2)
  | none=>(.any::(lend r env).1,(lend r env).2)
noncomputable def back:List Arg->List T->Ev->Ev
 | .bor i::r,t::ts,env=>back r ts (env.set i t)
 | .val _::r,_::ts,env=>back r ts env
 | _,_,env=>env
noncomputable def gq:List Arg->List (Option V)->L2.St->Prop
 | [],[],_=>True
 | .val _::r,_::xs,σ=>gq r xs σ
 | .bor i::r,x::xs,σ=>(σ[i]?=some x\/σ.length<=i)/\gq r xs σ
 | _,_,_=>False
section
variable{K:Mk}{H:Hp}{σ:L2.St}
theorem g9:∀ {as:List Arg} {xs:List (Option V)} {env:Ev} {Fr:Fm},gq as xs σ->Rs K H env σ ((as.map jY).zip xs++Fr)->Rs K H (lend as env).2 σ ((lend as env).1.zip xs++Fr)
 | [],[],env,Fr,_,h=>h
 | [],_::_,env,Fr,o,_=>o.elim
 | .val t::r,[],env,Fr,o,_=>o.elim
 | .bor i::r,[],env,Fr,o,_=>o.elim
 | .val t::r,x::xs,env,Fr,o,h=>by
  have h:Rs K H env σ ((t,x)::((r.map jY).zip xs++Fr)):=h
  have h2:Rs K H env σ ((r.map jY).zip xs++((t,x)::Fr)):=h.perm j_.symm
  exact(g9 (as:=r) o h2).perm j_
 | .bor i::r,x::xs,env,Fr,o,h=>by
  have h:Rs K H env σ ((.any,x)::((r.map jY).zip xs++Fr)):=h
  have h:=h.drop
  rw[lend]
  split
  ·rename_i t e
   obtain⟨y,ey,h2⟩:=h.slot e
   have o1:σ[i]?=some x:=by
    rcases o.1 with z | z
    ·exact z
    have:=(gV.mp ey).1
    lia
   rw[o1]at ey
   cases ey
   have h3:Rs K H (env.set i .any) σ ((r.map jY).zip xs++((t,x)::Fr)):=h2.perm j_.symm
   exact(g9 (as:=r) o.2 h3).perm j_
  have h3:Rs K H env σ ((r.map jY).zip xs++((.any,x)::Fr)):=(Rs.of h.1 (dU (x:=x) h.2)).perm j_.symm
  exact(g9 (as:=r) o.2 h3).perm j_
theorem fY:∀ {as:List Arg} {xs:List (Option V)} {ts:List T} {env:Ev} {Fr:Fm},gq as xs σ->Rs K H env σ (ts.zip xs++Fr)->Rs K H (back as ts env) σ Fr
 | [],xs,ts,env,Fr,_,h=>by
  have:back [] ts env=env:=by cases ts <;> rfl
  rw[this]
  exact⟨h.1,(h.2.perm (A_ _ _ _)).part⟩
 | a::r,xs,[],env,Fr,_,h=>by
  have:back (a::r) [] env=env:=by cases a <;> rfl
  rw[this]
  exact h
 | .val t::r,[],u::ts,env,Fr,o,_=>o.elim
 | .bor i::r,[],u::ts,env,Fr,o,_=>o.elim
 | .val t::r,x::xs,u::ts,env,Fr,o,h=>by
  have h:Rs K H env σ ((u,x)::(ts.zip xs++Fr)):=h
  exact fY (as:=r) o h.drop
 | .bor i::r,x::xs,u::ts,env,Fr,o,h=>by
  have h:Rs K H env σ ((u,x)::(ts.zip xs++Fr)):=h
  rw[back]
  by_cases hi:i < env.length
  ·have o1:σ[i]?=some x:=by
    rcases o.1 with z | z
    ·exact z
    have:=h.1
    lia
   exact fY (as:=r) o.2 (h.i8 hi o1)
  have e:env.set i u=env:=JU (by lia)
  rw[e]
  exact fY (as:=r) o.2 h.drop
theorem Rs.put {env:Ev}{Fr:Fm}{i:Nat}{t:T}{v:V}(h:Rs K H env σ ((t,some v)::Fr)):Rs K H (env.set i t) (σ.set i (some v)) Fr:=by
 by_cases hi:i < env.length
 ·exact h.store hi
 rw[JU (by lia),JU (by rw[<-h.1];lia)]
 exact h.drop
end
abbrev PAs:=Ev->(List Arg->Ev->Prop)->Prop
noncomputable def wR(K:Mk)(f:PAs):TA:=fun σ H Q=>∃ env Fr k,Rs K H env σ Fr/\f env k/\∀ as env' vs H',k as env'->as.length=vs.length->gq as (vs.map some) σ->Rs K H' env' σ ((as.map jY).zip (vs.map some)++Fr)->Q vs H'
def GR(X:Cx)(es:List MB)(f:PAs):Prop:=PA X es (wR X.K f)
def Fz:PAs:=fun env k=>k [] env
def G8(f:PF)(r:PAs):PAs:=fun env k=>f env fun t env1=>r env1 fun as env2=>k (.val t::as) env2
noncomputable def DN(i:Nat)(r:PAs):PAs:=fun env k=>(match env[i]? with
 | some t=>isAny t=false
 | none=>False)/\r env fun as env2=>k (.bor i::as) env2
section
variable{X:Cx}{e:MB}{es:List MB}{f:PF}{fr:PAs}
theorem aq:GR X [] Fz:=PA.imp bc fun σ H Q ⟨env,Fr,k,rs,q,c⟩=>c [] env [] H q rfl trivial rs
theorem aj(he:GE X e f)(hr:GR X es fr)(hs:ME (e::es) X.env=(false,MQ e X.env)::ME es X.env:=by rfl):GR X (e::es) (G8 f fr):=by
 refine PA.imp (ax he hr hs) ?_
 rintro σ H Q ⟨env,Fr,k,rs,q,c⟩
 refine⟨env,Fr,_,rs,q,fun t env1 v H1 q1 rs1=>⟨env1,_,_,rs1,q1,fun as env2 vs H2 q2 l ao rs2=>c _ _ _ _ q2 (by rw[k_,k_,l]) ao ?_⟩⟩
 exact rs2.perm j_
theorem aT(i:Nat){x:Str}{pos:Pos}(hr:GR X es fr)(hN:X.N[i]?=some x:=by rfl)(hv:Vis X.env.scope x:=by first | exact c_ rfl | exact b_ (c_ rfl) | exact b_ (b_ rfl))(hd:(x ==("__debug__":Str))=false:=by decide)(hcd:(x ==("__classdict__":Str))=false:=by decide)
  (hs:ME (.Name x pos::es) X.env=(false,MQ (.Name x pos) X.env)::ME es X.env:=by rfl):GR X (.Name x pos::es) (DN i fr):=by
 refine PA.imp (ax (dH hN hv hd hcd) hr hs) ?_
 rintro σ H Q ⟨env,Fr,k,rs,⟨na,q⟩,c⟩
 split at na
 ·rename_i t e
  obtain⟨y,ey,rs2⟩:=rs.slot e
  obtain⟨v,rfl⟩:=cK rs2 na
  refine⟨v,ey,env,Fr,_,rs,q,fun as env2 vs H2 q2 l ao rs2=>c _ _ _ _ q2 (by rw[k_,k_,l]) ⟨.inl ey,ao⟩ ?_⟩
  exact .of rs2.1 (dU rs2.2)
 exact na.elim
end
abbrev FP:=List T->(T->List T->Prop)->Prop
noncomputable def b8(K:Mk)(n:Nat)(P:FP):Sp:=fun vs H Q _=>∃ ts Fr k,ts.length=vs.length/\vs.length=n/\Rp K H (zz ts vs++Fr)/\P ts k/\∀ t ts' v H',k t ts'->Rp K H' ((t,some v)::(zz ts' vs++Fr))->Q v H'
def FQ(P:FP)(ts:List T)(k:T->List T->Prop):Prop:=P ts k
noncomputable def CA(n:Nat)(P:FP)(fr:PAs):PF:=fun env k=>fr env fun as env1=>as.length=n/\FQ P (lend as env1).1 fun t ts'=>k t (back as ts' (lend as env1).2)
section
variable{X:Cx}
theorem dO:∀(as:List Arg) (env:Ev),(lend as env).1.length=as.length
 | [],env=>rfl
 | .val t::r,env=>by rw[lend,k_,k_,dO r]
 | .bor i::r,env=>by
  rw[lend]
  split
  ·rw[k_,k_,dO r]
  rw[k_,k_,dO r]
theorem AE{n:Nat}{P:FP}{fr:PAs}:∀ σ H Q,wE X.K (CA n P fr) σ H Q->xj (b8 X.K n P) [] E0 (wR X.K fr) σ H Q:=by
 rintro σ H Q ⟨env,Fr,k,rs,q,c⟩
 refine⟨env,Fr,_,rs,q,fun as env1 vs H1 ⟨hn,q1⟩ l ao rs1=>?_⟩
 show b8 X.K n P (vs++[]) H1 Q E0
 rw[Iz]
 have rs2:=g9 ao rs1
 refine⟨(lend as env1).1,(lend as env1).2.zip σ++Fr,_,by rw[dO,l],by rw[<-l];exact hn,?_,q1,fun t ts' v H' kt rp=>c _ _ _ _ kt ?_⟩
 ·exact rs2.2.perm (A_ _ _ _)
 have h3:Rs X.K H' (lend as env1).2 σ (zz ts' vs++((t,some v)::Fr)):=⟨rs2.1,rp.perm (by
  refine C' ?_ (A_ _ _ _)
  refine C' j_.symm ?_
  exact Ih _ j_.symm)⟩
 exact fY ao h3
theorem au{j k n:Nat}{x:Str}{ps:List Str}{P:FP}{e:MB}{es:List MB}{fr:PAs}{p pos:Pos}(D:Cal X.prog X.w X.K X.mg X.base j x ps (b8 X.K n P))(hr:Room k X.A)(hg:Gl X x)(ha:GR X (e::es) fr)(hjk:j<=k:=by omega)(hdb:(x ==("__debug__":Str))=false:=by decide)
  (he:ME (e::es) X.env=(false,MQ e X.env)::ME es X.env:=by rfl) (hpl:(Ot pos (ME es X.env)).any (·.1)=false:=by rfl):GE X (.Call (.Name x p) (e::es) [] pos) (CA n P fr):=PE.imp (wH D hr hg ha hjk hdb he hpl) AE
end
structure PEn where
 nx:Ev->Prop
 rt:T->Ev->Prop
 bk:Ev->Prop:=fun _=>False
 ct:Ev->Prop:=fun _=>False
abbrev PSt:=PEn->Ev->Prop
def Kept(κ:Nat->Bool)(σ σ':L2.St):Prop:=σ'.length=σ.length/\∀ j,κ j=true->σ'[j]?=σ[j]?
theorem Kept.refl {κ:Nat->Bool}{σ:L2.St}:Kept κ σ σ:=⟨rfl,fun _ _=>rfl⟩
theorem Kept.trans {κ:Nat->Bool}{σ σ' σ'':L2.St}(a:Kept κ σ σ')(b:Kept κ σ' σ''):Kept κ σ σ'':=⟨b.1.trans a.1,fun j h=>(b.2 j h).trans (a.2 j h)⟩
theorem Kept.set {κ:Nat->Bool}{σ:L2.St}{i:Nat}{x:Option V}(h:κ i=false):Kept κ σ (σ.set i x):=⟨HV,fun j hj=>by
 by_cases e:i=j
 ·subst e;rw[h]at hj;cases hj
 rw[Kc e]⟩
structure EndOk (K:Mk) (κ:Nat->Bool) (σ:L2.St) (Fr:Fm) (pe:PEn) (D:Ends):Prop where
 nx:∀ env' σ' H',pe.nx env'->Rs K H' env' σ' Fr->Kept κ σ σ'->D.nx σ' H'
 rt:∀ t env' v σ' H',pe.rt t env'->Rs K H' env' σ' ((t,some v)::Fr)->Kept κ σ σ'->D.rt v H'
 bk:∀ env' σ' H',pe.bk env'->Rs K H' env' σ' Fr->Kept κ σ σ'->D.bk σ' H'
 ct:∀ env' σ' H',pe.ct env'->Rs K H' env' σ' Fr->Kept κ σ σ'->D.ct σ' H'
theorem EndOk.later {K:Mk}{κ:Nat->Bool}{σ σ':L2.St}{Fr:Fm}{pe:PEn}{D:Ends}(h:EndOk K κ σ Fr pe D)(k:Kept κ σ σ'):EndOk K κ σ' Fr pe D:=
 ⟨fun a b c p q r=>h.nx a b c p q (k.trans r),fun a b c d e p q r=>h.rt a b c d e p q (k.trans r),fun a b c p q r=>h.bk a b c p q (k.trans r),fun a b c p q r=>h.ct a b c p q (k.trans r)⟩
noncomputable def wS(K:Mk)(κ:Nat->Bool)(f:PSt):TS:=fun D σ H=>∃ env Fr pe,Rs K H env σ Fr/\f pe env/\EndOk K κ σ Fr pe D
def GS(κ:Nat->Bool)(X:Cx)(st:M3)(f:PSt):Prop:=PS X st (wS X.K κ f)
def GSs(κ:Nat->Bool)(X:Cx)(sts:List M3)(f:PSt):Prop:=PSs X sts (wS X.K κ f)
theorem PS.imp {X:Cx}{st:M3}{t t':TS}(h:PS X st t)(k:∀ D σ H,t' D σ H->t D σ H):PS X st t':=fun pins s σ H D I q=>h pins s σ H D I (k _ _ _ q)
theorem PSs.imp {X:Cx}{st:List M3}{t t':TS}(h:PSs X st t)(k:∀ D σ H,t' D σ H->t D σ H):PSs X st t':=fun pins s σ H D I q=>h pins s σ H D I (k _ _ _ q)
def BZ:PSt:=fun pe env=>pe.nx env
def GN(f g:PSt):PSt:=fun pe env=>f { pe with nx:=g pe } env
section
variable{X:Cx}{κ:Nat->Bool}{pos:Pos}{st:M3}{rest:List M3}{f g:PSt}{e:MB}{fe:PF}
theorem dr:GSs κ X [] BZ:=PSs.imp cy fun D σ H ⟨env,Fr,pe,rs,q,c⟩=>c.nx _ _ _ q rs .refl
theorem ah(h1:GS κ X st f)(h2:GSs κ X rest g):GSs κ X (st::rest) (GN f g):=by
 refine PSs.imp (aR h1 h2) ?_
 rintro D σ H ⟨env,Fr,pe,rs,q,c⟩
 refine⟨env,Fr,_,rs,q,⟨fun env' σ' H' q1 rs1 k1=>⟨env',Fr,pe,rs1,q1,c.later k1⟩,c.rt,c.bk,c.ct⟩⟩
theorem ay(h1:GS κ X st f):GSs κ X [st] f:=bY h1
def BB(fe:PF):PSt:=fun pe env=>fe env fun _ env1=>pe.nx env1
theorem cP(he:GE X e fe)(hs:OG e none pos.line X.env=pure false:=by rfl):GS κ X (.Expr e pos) (BB fe):=by
 refine PS.imp (Bq he hs) ?_
 rintro D σ H ⟨env,Fr,pe,rs,q,c⟩
 exact⟨env,Fr,_,rs,q,fun t env' v H' q1 rs1=>c.nx _ _ _ q1 rs1.drop .refl⟩
def Gg(fe:PF):PSt:=fun pe env=>fe env fun t env1=>pe.rt t env1
theorem bC(he:GE X e fe):GS κ X (.Return (some e) pos) (Gg fe):=by
 refine PS.imp (cW he) ?_
 rintro D σ H ⟨env,Fr,pe,rs,q,c⟩
 exact⟨env,Fr,_,rs,q,fun t env' v H' q1 rs1=>c.rt _ _ _ _ _ q1 rs1 .refl⟩
def sIf(tc:PB)(f g:PSt):PSt:=fun pe env=>tc env fun b env1=>cnd b (f pe env1) (g pe env1)
theorem jV{c:MB}{a b:List M3}{tc:PB}(hc:GT X c tc)(ha:GSs κ X a f)(hb:GSs κ X b g):GS κ X (.If c a b pos) (sIf tc f g):=by
 refine PS.imp (fE hc ha hb) ?_
 rintro D σ H ⟨env,Fr,pe,rs,q,c⟩
 refine⟨env,Fr,_,rs,q,fun b env' H' q1 rs1=>dc ⟨fun h=>⟨env',Fr,pe,rs1,q1.1 h,c⟩,fun h=>⟨env',Fr,pe,rs1,q1.2 h,c⟩⟩⟩
def By(i:Nat)(fe:PF):PSt:=fun pe env=>fe env fun t env1=>pe.nx (env1.set i t)
theorem aF{i:Nat}{x:Str}{pos':Pos}(hN:X.N.Nodup)(hi:X.N[i]?=some x)(hx:Loc X.env.scope x)(hκ:κ i=false)(he:GE X e fe)(hs:OG e (some (.Name x pos')) pos.line X.env=pure false:=by rfl)(hf:X.fn x=true\/X.env.scope.names.lookup x=some .local:=by first | exact .inl rfl | exact .inr rfl | assumption) :
  GS κ X (.Assign [.Name x pos'] e pos) (By i fe):=by
 refine PS.imp (dY hN hi hx he hs hf) ?_
 rintro D σ H ⟨env,Fr,pe,rs,q,c⟩
 exact⟨env,Fr,_,rs,q,fun t env' v H' q1 rs1=>c.nx _ _ _ q1 rs1.put (.set hκ)⟩
abbrev PG':=T->Ev->(Ev->Prop)->Prop
abbrev kx:=List T->Ev->(Ev->Prop)->Prop
noncomputable def wG(K:Mk)(κ:Nat->Bool)(f:PG'):TG:=fun v σ H Q=>∃ t env Fr k,Rs K H env σ ((t,some v)::Fr)/\f t env k/\∀ env' σ' H',k env'->Rs K H' env' σ' Fr->Kept κ σ σ'->Q σ' H'
noncomputable def wGs(K:Mk)(κ:Nat->Bool)(f:kx):TGs:=fun vs σ H Q=>∃ ts env Fr k,ts.length=vs.length/\Rs K H env σ (zz ts vs++Fr)/\f ts env k/\∀ env' σ' H',k env'->Rs K H' env' σ' Fr->Kept κ σ σ'->Q σ' H'
def GG(κ:Nat->Bool)(X:Cx)(tg:MB)(f:PG'):Prop:=PG X tg (wG X.K κ f)
def GGs(κ:Nat->Bool)(X:Cx)(tgs:List MB)(f:kx):Prop:=PGs X tgs (wGs X.K κ f)
def gN(i:Nat):PG':=fun t env k=>k (env.set i t)
theorem ak{i:Nat}{x:Str}(hN:X.N.Nodup)(hi:X.N[i]?=some x)(hx:Loc X.env.scope x)(hκ:κ i=false)(hf:X.fn x=true\/X.env.scope.names.lookup x=some .local:=by first | exact .inl rfl | exact .inr rfl | assumption):GG κ X (.Name x pos) (gN i):=
 fun pins s σ H v u Q I r ⟨t,env,Fr,k,rs,q,c⟩=>j4 hN hi hx hf pins s σ H v u Q I r (c _ _ _ q rs.put (.set hκ))
def BE:kx:=fun ts env k=>ts=[]/\k env
noncomputable def wN(f:PG')(r:kx):kx:=fun ts env k=>match ts with
 | t::ts=>f t env fun env1=>r ts env1 k
 | []=>False
noncomputable def gTp(n:Nat)(f:kx):PG':=fun t env k=>match t with
 | .tup ts=>ts.length=n/\f ts env k
 | .cst ts=>ts.length=n/\f ts env k
 | _=>False
end
open PySem PySem.Spec PyProof.Rows L2
section
variable{X:Cx}{κ:Nat->Bool}{pos:Pos}{e tg:MB}{es:List MB}{fe:PF}{g:PG'}{gs:kx}
theorem cm:GGs κ X [] BE:=by
 rintro pins s σ H vs us Q I r ⟨ts,env,Fr,k,l,rs,⟨e,q⟩,c⟩
 subst e
 have:vs=[]:=by cases vs with | nil=>rfl | cons _ _=>cases l
 subst this
 exact mH pins s σ H [] us Q I r ⟨rfl,c _ _ _ q rs .refl⟩
theorem az(h1:GG κ X e g)(h2:GGs κ X es gs)(hs:(NP (e::es) X.env).map (·.2)=OV e X.env::(NP es X.env).map (·.2):=by rfl):GGs κ X (e::es) (wN g gs):=by
 rintro pins s σ H vs us Q I r ⟨ts,env,Fr,k,l,rs,q,c⟩
 cases ts with
 | nil=>exact MI q
 | cons t ts=>
  cases vs with
  | nil=>cases l
  | cons v vs=>
   have q:g t env fun env1=>gs ts env1 k:=q
   refine dA h1 h2 hs pins s σ H (v::vs) us Q I r ⟨v,vs,rfl,t,env,zz ts vs++Fr,_,rs,q,fun env1 σ1 H1 q1 rs1 k1=>?_⟩
   exact⟨ts,env1,Fr,k,by simpa using l,rs1,q1,fun env2 σ2 H2 q2 rs2 k2=>c _ _ _ q2 rs2 (k1.trans k2)⟩
theorem cT{x1 n:Nat}(hc:X.calm=true)(h:GGs κ X es gs)(hn:(NP es X.env).length=n:=by rfl)(hst:(NP es X.env).findIdx? (·.1)=none:=by rfl):GG κ X (.Tuple es x1 pos) (gTp n gs):=by
 rintro pins s σ H v u Q I r ⟨t,env,Fr,k,rs,q,c⟩
 have go:∀ ts,items t=some ts->jo t=true->ts.length=n->gs ts env k->Mr (Mw X.prog X.w) X.A (OV (.Tuple es x1 pos) X.env u) (fun _ s'=>∃ σ' H',Inv X pins σ' H' s'/\Q σ' H') X.xe s:=fun ts e1 e2 e3 q=>by
  obtain⟨a,vs,rfl,hq,l,rp⟩:=aB e1 rs.head
  rw[e2]at hq
  refine rj hc h hn hst pins s σ H _ u Q I r ⟨a,vs,rfl,hq,by rw[<-l];exact e3,ts,env,Fr,k,l,⟨rs.1,?_⟩,q,c⟩
  exact rp.perm (A_ _ _ _)
 cases t with
 | tup ts=>exact go ts rfl rfl q.1 q.2
 | cst ts=>exact go ts rfl rfl q.1 q.2
 | _=>exact MI q
def Gf(fe:PF)(g:PG'):PSt:=fun pe env=>fe env fun t env1=>g t env1 pe.nx
theorem lZ(he:GE X e fe)(hg:GG κ X tg g)(hs:PH [tg] e pos.line X.env=pure false:=by rfl)(hw:PJ [tg] e X.env=pure none:=by rfl)(h1:(NP [tg] X.env).map (·.2)=[OV tg X.env]:=by rfl) :
  GS κ X (.Assign [tg] e pos) (Gf fe g):=by
 refine PS.imp (wb he hg hs hw h1) ?_
 rintro D σ H ⟨env,Fr,pe,rs,q,c⟩
 exact⟨env,Fr,_,rs,q,fun t env' v H' q1 rs1=>⟨t,env',Fr,_,rs1,q1,fun env2 σ2 H2 q2 rs2 k2=>c.nx _ _ _ q2 rs2 k2⟩⟩
noncomputable def F6(i j:Nat)(fr:PFs):PSt:=fun pe env=>fr env fun ts env1=>match ts with
 | [t,u]=>pe.nx ((env1.set i t).set j u)
 | _=>False
theorem Dc{i j:Nat}{x y:Str}{a b:MB}{fr:PFs}{px py pt:Pos}{kt k2 pt2}(hc:X.calm=true)(hN:X.N.Nodup)(hi:X.N[i]?=some x)(hj:X.N[j]?=some y)(hij:i≠j)
  (hx:X.env.scope.names.lookup x=some .local) (hy:X.env.scope.names.lookup y=some .local) (hκi:κ i=false) (hκj:κ j=false) (ha:GA X [a,b] fr)
  (hw:PJ [.Tuple [.Name x px,.Name y py] kt pt] (.Tuple [a,b] k2 pt2) X.env=pure (some [x,y])) (hs:PH [.Tuple [.Name x px,.Name y py] kt pt] (.Tuple [a,b] k2 pt2) pos.line X.env=pure false:=by rfl) :
  GS κ X (.Assign [.Tuple [.Name x px,.Name y py] kt pt] (.Tuple [a,b] k2 pt2) pos) (F6 i j fr):=by
 refine PS.imp (CJ hc hN hi hj hij hx hy ha hw hs) ?_
 rintro D σ H ⟨env,Fr,pe,rs,q,c⟩
 refine⟨env,Fr,_,rs,q,fun ts env1 vs H1 q1 l rs1=>?_⟩
 rcases ts with _ | ⟨t,_ | ⟨u,_ | ⟨t3,ts⟩⟩⟩
 ·exact q1.elim
 ·exact q1.elim
 ·obtain⟨v,w,rfl⟩:=zz2 l rfl
  refine⟨v,w,rfl,c.nx _ _ _ q1 ?_ ((Kept.set hκi).trans (Kept.set hκj))⟩
  have r1:Rs X.K H1 env1 σ ((t,some v)::(u,some w)::Fr):=rs1
  exact Rs.put (Rs.put r1)
 exact q1.elim
noncomputable def Ef(i:Nat)(fe:PF)(g:P2):PSt:=fun pe env=>(match env[i]? with
 | some t=>isAny t=false/\b7 t=true
 | none=>False)/\fe env fun u env1=>match env[i]? with
 | some t=>g t u fun w=>pe.nx (env1.set i w)
 | none=>False
def IpP(X:Cx)(op:P9)(g:P2):Prop:=PIp X op (w2 X.K g)
theorem wq{i:Nat}{x:Str}{op:P9}{g:P2}{pos':Pos}(hN:X.N.Nodup)(hi:X.N[i]?=some x)(hx:Loc X.env.scope x)(hκ:κ i=false)(he:GE X e fe)(ho:IpP X op g)(hf:X.fn x=true\/X.env.scope.names.lookup x=some .local:=by first | exact .inl rfl | exact .inr rfl | assumption) :
  GS κ X (.AugAssign (.Name x pos') op e pos) (Ef i fe g):=by
 refine PS.imp (El hN hi hx he ho hf) ?_
 rintro D σ H ⟨env,Fr,pe,rs,⟨q0,q⟩,c⟩
 cases e0:env[i]? with
 | none=>rw[e0]at q0;exact q0.elim
 | some t=>
  simp only[e0]at q0 q
  obtain⟨y,ey,rs2⟩:=rs.slot e0
  obtain⟨v,rfl⟩:=cK rs2 q0.1
  have hi':i < env.length:=(gV.mp e0).1
  have r3:Rs X.K H (env.set i .any) σ ((t,some v)::(t,some v)::Fr):=.of rs2.1 ((fq rs2.head q0.2).perm (Kv _ j_.symm))
  have r4:=Rs.i8 (i:=i) r3 (by rw[HV];exact hi') ey
  rw[fT e0]at r4
  refine⟨v,ey,env,(t,some v)::Fr,_,r4,q,fun u env1 w H1 q1 rs1=>?_⟩
  refine⟨t,u,env1.zip σ++Fr,_,rs1.head.perm (.cons _ j_),q1,fun z b H2 kz rp=>?_⟩
  exact c.nx _ _ _ kz (Rs.put (.of rs1.1 rp)) (.set hκ)
def Cc:P2
 | .int i,.int j,k=>k (.int (i + j))
 | _,_,_=>False
theorem tS:IpP X .Add Cc:=by
 rintro pins s σ H x y v u Q I rx ry ⟨tx,ty,Γ,k,rp,g,c⟩
 cases tx <;> cases ty <;> first | exact MI g | skip
 rename_i i j
 rw[aK rp]at ry
 rw[aK rp.tail]at rx
 exact Cm pins s σ H _ _ v u Q I rx ry ⟨i,j,rfl,rfl,c _ _ _ g (bO rp.tail.tail fun _=>.int)⟩
noncomputable def qH(tc:PB)(fb:PSt)(pe:PEn)(env:Ev):Prop:=∃ W:Nat->Ev->Prop,(∃ m,W m env)/\∀ m env,W m env->tc env fun b env1=>cnd b (fb { pe with nx:=fun e=>∃ m',m' < m/\W m' e,ct:=fun e=>∃ m',m' < m/\W m' e,bk:=pe.nx } env1) (pe.nx env1)
def yX(tc:PB)(fb:PSt):PSt:=fun pe env=>qH tc fb pe env
theorem nW{c:MB}{body:List M3}{tc:PB}{fb:PSt}(hp:Q_ (Mw X.prog X.w) X.A X.env X.xe)(hc:GT X c tc)(hb:GSs κ X body fb):GS κ X (.While c body [] pos) (yX tc fb):=by
 refine PS.imp (zd hp hc hb) ?_
 rintro D σ H ⟨env,Fr,pe,rs,⟨W,⟨m0,w0⟩,wt⟩,c⟩
 refine⟨fun m σ' H'=>∃ env',W m env'/\Rs X.K H' env' σ' Fr/\Kept κ σ σ',⟨m0,env,w0,rs,.refl⟩,?_⟩
 rintro m σ1 H1 ⟨env1,w1,rs1,k1⟩
 refine⟨env1,Fr,_,rs1,wt m env1 w1,fun b env2 H2 q2 rs2=>dc ⟨fun h=>?_,fun h=>c.nx _ _ _ (q2.2 h) rs2 k1⟩⟩
 refine⟨fun σ' H'=>∃ m' env',m' < m/\W m' env'/\Rs X.K H' env' σ' Fr/\Kept κ σ σ',fun σ' H' ⟨m',env',hm,w',r',k'⟩=>⟨m',hm,env',w',r',k'⟩,env2,Fr,_,rs2,q2.1 h,⟨?_,?_,?_,?_⟩⟩
 ·exact fun env' σ' H' ⟨m',hm,w'⟩ r' k'=>⟨m',env',hm,w',r',k1.trans k'⟩
 ·exact fun t env' v σ' H' p r' k'=>c.rt _ _ _ _ _ p r' (k1.trans k')
 ·exact fun env' σ' H' p r' k'=>c.nx _ _ _ p r' (k1.trans k')
 exact fun env' σ' H' ⟨m',hm,w'⟩ r' k'=>⟨m',env',hm,w',r',k1.trans k'⟩
structure ItOk (K:Mk) (J:It) (its:List T) (Fg:Fm):Prop where
 turn:∀ i t H Γ,its[i]?=some t->Rp K H (Fg++Γ)->J.go i H/\∀ x H',J.yld i H x H'->Rp K H' ((t,some x)::(Fg++Γ))
 stop:∀ H Γ,Rp K H (Fg++Γ)->J.stop its.length H
abbrev PIt:=Ev->(List T->Ev->Prop)->Prop
noncomputable def wI(K:Mk)(f:PIt):TI:=fun σ H R=>∃ env Fr k,Rs K H env σ Fr/\f env k/\∀ its env' J Fg H',k its env'->Rs K H' env' σ (Fg++Fr)->ItOk K J its Fg->R J H'
def GI(X:Cx)(tg iter:MB)(f:PIt):Prop:=PI X tg iter (wI X.K f)
noncomputable def forL(its:List T)(g:PG')(fb:PSt)(pe:PEn)(env1:Ev):Prop:=∃ W:Nat->Ev->Prop,W 0 env1/\(∀ i t env,W i env->its[i]?=some t->g t env fun env2=>fb { pe with nx:=W (i + 1),ct:=W (i + 1),bk:=pe.nx } env2)/\∀ env,W its.length env->pe.nx env
def Fd(fi:PIt)(g:PG')(fb:PSt):PSt:=fun pe env=>fi env fun its env1=>forL its g fb pe env1
theorem jP{K:Mk}{H:Hp}{env:Ev}{σ:L2.St}{Fg Fr:Fm}(h:Rs K H env σ (Fg++Fr)):Rs K H env σ Fr:=⟨h.1,(h.2.perm (A_ _ _ _)).part⟩
theorem cE{iter:MB}{body:List M3}{fi:PIt}{g:PG'}{fb:PSt}(hp:Q_ (Mw X.prog X.w) X.A X.env X.xe)(hc:X.calm=true)(hi:GI X tg iter fi)(hg:GG κ X tg g)(hb:GSs κ X body fb)(hs:∀ x,Nd iter X.env x=pure x:=by intro _;rfl):GS κ X (.For tg iter body [] pos) (Fd fi g fb):=by
 refine PS.imp (Eb hp hc hi hg hb hs) ?_
 rintro D σ H ⟨env,Fr,pe,rs,q,c⟩
 refine⟨env,Fr,_,rs,q,?_⟩
 rintro its env1 J Fg H1 ⟨W,w0,wt,we⟩ rs1 ok
 refine⟨fun i m σ' H'=>∃ env',W i env'/\Rs X.K H' env' σ' (Fg++Fr)/\Kept κ σ σ'/\m + i=its.length,⟨its.length,env1,w0,rs1,.refl,rfl⟩,?_⟩
 rintro i m σ1 H2 ⟨env2,w2,rs2,k2,hm⟩
 have rp2:Rp X.K H2 (Fg++(env2.zip σ1++Fr)):=rs2.2.perm (A_ _ _ _)
 by_cases hlt:i < its.length
 ·have ei:its[i]?=some its[i]:=d_ hlt
  obtain⟨hgo,hy⟩:=ok.turn i its[i] H2 _ ei rp2
  refine .inr ⟨hgo,fun σ' H'=>∃ env',W (i + 1) env'/\Rs X.K H' env' σ' (Fg++Fr)/\Kept κ σ σ',fun σ' H' ⟨env',w',r',k'⟩=>⟨m - 1,by lia,env',w',r',k',by lia⟩,fun x H' hx=>?_⟩
  have rp3:=hy x H' hx
  have rs3:Rs X.K H' env2 σ1 ((its[i],some x)::(Fg++Fr)):=.of rs2.1 (rp3.perm (.cons _ (A_ _ _ _)))
  refine⟨its[i],env2,Fg++Fr,_,rs3,wt i its[i] env2 w2 ei,fun env3 σ3 H3 q3 rs4 k4=>?_⟩
  refine⟨env3,Fg++Fr,_,rs4,q3,⟨?_,?_,?_,?_⟩⟩
  ·exact fun env' σ' H' w' r' k'=>⟨env',w',r',k2.trans (k4.trans k')⟩
  ·exact fun t env' v σ' H' p r' k'=>c.rt _ _ _ _ _ p (jP (Fg:=Fg) (r'.perm j_.symm)) (k2.trans (k4.trans k'))
  ·exact fun env' σ' H' p r' k'=>c.nx _ _ _ p (jP r') (k2.trans (k4.trans k'))
  exact fun env' σ' H' w' r' k'=>⟨env',w',r',k2.trans (k4.trans k')⟩
 have:i=its.length:=by lia
 subst this
 exact .inl ⟨ok.stop H2 _ rp2,c.nx _ _ _ (we env2 w2) (jP rs2) k2⟩
end
section
variable{X:Cx}{pos:Pos}{e tg:MB}{fe:PF}
def F0(fe:PF):PIt:=fun env k=>fe env fun t env1=>got (items t) fun ts=>k (erL ts) env1
theorem D5{K:Mk}{t:T}{ts:List T}{a:Ml}(e:items t=some ts)(n:b7 t=true):ItOk K (Its K (jo t) a) ts [(t,some (.ref a))] where
 turn:=fun i u H Γ ei rp=>by
  obtain⟨a',vs,ea,hq,l,rp2⟩:=aB e (fq rp n)
  cases ea
  obtain⟨w,ew⟩:=jM l ei
  refine⟨Eh hq rfl i H .bD (by have:=(gV.mp ew).1;exact this),fun x H' hy=>?_⟩
  obtain⟨rfl,hx⟩:=zP hq .bD hy
  rw[ew]at hx
  cases hx
  exact e9 rp2 ei ew
 stop:=fun H Γ rp=>by
  obtain⟨a',vs,ea,hq,l,rp2⟩:=aB e rp
  cases ea
  exact yI hq l.symm H .bD
theorem jH{t:T}{ts:List T}(e:items t=some ts):items (er t)=some (erL ts)/\jo (er t)=jo t:=by
 cases t <;> cases e <;> exact⟨rfl,rfl⟩
theorem aZ(h:GE X e fe):GI X tg e (F0 fe):=by
 rintro pins s σ H R I ⟨env,Fr,k,rs,q,c⟩
 refine CH h pins s σ H R I ⟨env,Fr,_,rs,q,fun t env1 v H1 q1 rs1=>?_⟩
 obtain⟨ts,e1,kt⟩:=aI q1
 have rf:Rp X.K H1 ((er t,some v)::(env1.zip σ++Fr)):=ni rs1.head
 obtain⟨e2,e3⟩:=jH e1
 obtain⟨a,vs,rfl,hq,l,rp2⟩:=aB e2 rf
 exact⟨jo (er t),a,vs,rfl,hq,c _ _ _ _ _ kt (Rs.of (Fr:=Fr) rs1.1 rf) (D5 e2 (bT t))⟩
def eN(lo:Int)(n:Nat):List T:=(y_ n).map fun(i:Nat)=>.int (lo + (i:Int))
theorem yP{K:Mk}(lo:Int)(n:Nat):ItOk K (Itr lo n) (eN lo n) [] where
 turn:=fun i t H Γ ei rp=>by
  unfold eN at ei
  rw[HM]at ei
  have hi:i < n:=by
   cases h:(y_ n)[i]? with
   | none=>rw[h]at ei;cases ei
   | some j=>
    have:=(gV.mp h).1
    simpa using this
  rw[Lp hi]at ei
  cases ei
  refine⟨hi,fun x H' ⟨e1,e2⟩=>?_⟩
  subst e1;subst e2
  exact bO rp fun _=>.int
 stop:=fun H Γ rp=>by
  show n<=_
  unfold eN
  rw[a_,Iy]
  exact f_ _
noncomputable def iR1(fr:PFs):PIt:=fun env k=>fr env fun ts env1=>match ts with
 | [.int j]=>(-(2 ^ 62)<=j/\j < 2 ^ 62)/\k (eN 0 j.toNat) env1
 | _=>False
noncomputable def iR2(fr:PFs):PIt:=fun env k=>fr env fun ts env1=>match ts with
 | [.int i,.int j]=>(-(2 ^ 62)<=i/\i < 2 ^ 62/\-(2 ^ 62)<=j/\j < 2 ^ 62)/\k (eN i (j - i).toNat) env1
 | _=>False
variable{a b c:MB}{fr:PFs}{p:Pos}
theorem cC(hg:Gl X "range")(hm:X.mg "range"=none)(ha:GA X [a] fr)(hs:ME [a] X.env=[(false,MQ a X.env)]:=by rfl):GI X tg (.Call (.Name "range" p) [a] [] pos) (iR1 fr):=by
 rintro pins s σ H R I ⟨env,Fr,k,rs,q,c⟩
 refine vJ hg hm ha hs pins s σ H R I ⟨env,Fr,_,rs,q,fun ts env1 vs H1 q1 l rs1=>?_⟩
 rcases ts with _ | ⟨t,_ | ⟨t2,ts⟩⟩
 ·exact q1.elim
 ·cases t <;> first | exact q1.elim | skip
  rename_i j
  rcases vs with _ | ⟨v,_ | ⟨v2,vs⟩⟩
  ·cases l
  ·have rs1:Rs X.K H1 env1 σ ((.int j,some v)::Fr):=rs1
   rw[aK rs1.head]
   exact⟨j,rfl,q1.1.1,q1.1.2,c _ _ _ [] _ q1.2 rs1.drop (yP 0 _)⟩
  cases l
 cases t <;> exact q1.elim
theorem lI(hg:Gl X "range")(hm:X.mg "range"=none)(ha:GA X [a,b] fr)(hs:ME [a,b] X.env=[(false,MQ a X.env),(false,MQ b X.env)]:=by rfl)(hs2:ME [b] X.env=[(false,MQ b X.env)]:=by rfl):GI X tg (.Call (.Name "range" p) [a,b] [] pos) (iR2 fr):=by
 rintro pins s σ H R I ⟨env,Fr,k,rs,q,c⟩
 refine uP hg hm ha hs hs2 pins s σ H R I ⟨env,Fr,_,rs,q,fun ts env1 vs H1 q1 l rs1=>?_⟩
 match ts,vs,l,q1 with
 | [.int i,.int j],[v,w],l,q1=>
  have rs1:Rs X.K H1 env1 σ ((.int i,some v)::(.int j,some w)::Fr):=rs1
  rw[aK rs1.head,aK rs1.drop.head]
  exact⟨i,j,rfl,q1.1,c _ _ _ [] _ q1.2 rs1.drop.drop (yP i _)⟩
noncomputable def iZp(fr:PFs):PIt:=fun env k=>fr env fun ts env1=>match ts with
 | [t,u]=>got (items t) fun as=>got (items u) fun bs=>k (((erL as).zip (erL bs)).map fun p=>.tup [p.1,p.2]) env1
 | _=>False
theorem En{K:Mk}{H H':Hp}{Γ:Fm}{t u:T}{x y:V}{p:Ml}(h:Rp K H ((t,some x)::(u,some y)::Γ))(s:aS H H')(e:H' p=some (.tup [x,y])):Rp K H' ((.tup [t,u],some (.ref p))::Γ):=
 de (ts:=[t,u]) (vs:=[x,y]) h rfl s e
theorem EA{K:Mk}{t u:T}{as bs:List T}{a b:Ml}(e1:items t=some as)(e2:items u=some bs)(n1:b7 t=true)(n2:b7 u=true) :
  ItOk K (Itz K (jo t) a (jo u) b) ((as.zip bs).map fun p=>.tup [p.1,p.2]) [(t,some (.ref a)),(u,some (.ref b))] where
 turn:=fun i w H Γ ei rp=>by
  rw[HM]at ei
  cases hz:(as.zip bs)[i]? with
  | none=>rw[hz]at ei;cases ei
  | some q=>
   rw[hz]at ei
   cases ei
   obtain⟨q1,q2⟩:=q
   rw[KP]at hz
   have rp0:Rp K H ((t,some (.ref a))::(u,some (.ref b))::Γ):=rp
   have rpd:=fq rp0 n1
   have rpe:Rp K H ((u,some (.ref b))::(t,some (.ref a))::(t,some (.ref a))::Γ):=rpd.perm (by
    refine C' ?_ (I_ _ _ _)
    exact .cons _ (.swap _ _ _))
   have rpf:=fq rpe n2
   obtain⟨b',ws,eb,hb,lb,rpg⟩:=aB e2 rpf
   cases eb
   obtain⟨y,ey⟩:=jM lb hz.2
   have rph:=e9 rpg hz.2 ey
   have rpi:Rp K H ((t,some (.ref a))::(q2,some y)::(t,some (.ref a))::(u,some (.ref b))::Γ):=rph.perm (by
    refine C' ?_ (I_ _ _ _)
    refine .cons _ ?_
    refine C' (I_ _ _ _) ?_
    exact .cons _ (I_ _ _ _))
   obtain⟨a',vs,ea,ha,la,rpj⟩:=aB e1 rpi
   cases ea
   obtain⟨x,ex⟩:=jM la hz.1
   have rpk:=e9 rpj hz.1 ex
   refine⟨⟨vs,ws,x,y,ha,hb,ex,ey⟩,fun v H' hy=>?_⟩
   obtain⟨p,x',y',hp,ev,eH,h1,h2⟩:=hy
   have ex':=h1 vs ha
   have ey':=h2 ws hb
   rw[ex]at ex';rw[ey]at ey'
   cases ex';cases ey'
   subst ev;subst eH
   exact En rpk (bg hp _) aE
 stop:=fun H Γ rp=>by
  have rp0:Rp K H ((t,some (.ref a))::(u,some (.ref b))::Γ):=rp
  obtain⟨a',vs,ea,ha,la,_⟩:=aB e1 rp0
  obtain⟨b',ws,eb,hb,lb,_⟩:=aB e2 rp0.tail
  cases ea;cases eb
  refine⟨vs,ws,ha,hb,?_⟩
  rw[a_,LX,la,lb]
  lia
theorem xu{es:List MB}{x1:Nat}{tp:Pos}(hg:Gl X "zip")(hm:X.mg "zip"=none)(ha:GA X [a,b] fr)(hs:ME [a,b] X.env=[(false,MQ a X.env),(false,MQ b X.env)]:=by rfl)(hs2:ME [b] X.env=[(false,MQ b X.env)]:=by rfl) :
  GI X (.Tuple es x1 tp) (.Call (.Name "zip" p) [a,b] [] pos) (iZp fr):=by
 rintro pins s σ H R I ⟨env,Fr,k,rs,q,c⟩
 refine xY hg hm ha hs hs2 pins s σ H R I ⟨env,Fr,_,rs,q,fun ts env1 vs H1 q1 l rs1=>?_⟩
 match ts,vs,l,q1 with
 | [t,u],[v,w],l,q1=>
  obtain⟨as,ea,q2⟩:=aI q1
  obtain⟨bs,eb,kt⟩:=aI q2
  have rs1:Rs X.K H1 env1 σ ((t,some v)::(u,some w)::Fr):=rs1
  have r2:Rs X.K H1 env1 σ ((er t,some v)::(u,some w)::Fr):=.of rs1.1 (ni rs1.head)
  have r3:Rs X.K H1 env1 σ ((er u,some w)::(er t,some v)::Fr):=.of rs1.1 (ni (r2.perm (.swap _ _ _)).head)
  have r4:=r3.perm (.swap _ _ _)
  obtain⟨e1,_⟩:=jH ea
  obtain⟨e2,_⟩:=jH eb
  obtain⟨a',xs,rfl,hq,l1,_⟩:=aB e1 r4.head
  obtain⟨b',ys,rfl,hq2,l2,_⟩:=aB e2 r3.head
  exact⟨_,a',_,b',rfl,⟨xs,hq⟩,⟨ys,hq2⟩,c _ _ _ [(er t,_),(er u,_)] _ kt r4 (EA e1 e2 (bT t) (bT u))⟩
end
open PySem PySem.Spec PyProof.Rows L2
noncomputable def frA(fr:List (Option Nat)):List Arg:=fr.map fun o=>match o with
 | some j=>.bor j
 | none=>.val .any
def κc(fr:List (Option Nat))(j:Nat):Bool:=match fr[j]? with
 | some (some _)=>true
 | _=>false
theorem dg:∀(fr:List (Option Nat)) (σ:L2.St),gq (frA fr) (bJ fr σ) σ
 | [],σ=>trivial
 | none::r,σ=>dg r σ
 | some j::r,σ=>by
  refine⟨?_,dg r σ⟩
  by_cases h:j < σ.length
  ·refine .inl ?_
   show σ[j]?=some ((σ[j]?).join)
   rw[d_ h]
   rfl
  exact .inr (by lia)
theorem fj:∀(fr:List (Option Nat)) (τ τ':List (Option V)) (σ:L2.St),τ'.length=τ.length->(∀ j,κc fr j=true->τ'[j]?=τ[j]?)->gq (frA fr) τ σ->gq (frA fr) τ' σ
 | [],[],τ',σ,l,_,_=>by
  have:τ'=[]:=by cases τ' with | nil=>rfl | cons _ _=>cases l
  subst this
  trivial
 | [],_::_,_,_,_,_,o=>o.elim
 | none::r,[],_,_,_,_,o=>o.elim
 | some j::r,[],_,_,_,_,o=>o.elim
 | none::r,x::τ,[],σ,l,_,_=>by cases l
 | some j::r,x::τ,[],σ,l,_,_=>by cases l
 | none::r,x::τ,y::τ',σ,l,k,o=>fj r τ τ' σ (by simpa using l) (fun j hj=>by simpa using k (j + 1) hj) o
 | some i::r,x::τ,y::τ',σ,l,k,o=>by
  have e:y=x:=by
   have:=k 0 rfl
   simpa using this
  subst e
  exact⟨o.1,fj r τ τ' σ (by simpa using l) (fun j hj=>by simpa using k (j + 1) hj) o.2⟩
noncomputable def BK(fr:List (Option Nat))(its:List T)(g:PG')(ft:PB)(fe:PF)(env1:Ev)(k:T->Ev->Prop):Prop:=its.length < sizeLine/\∃ W:Nat->List T->Ev->Prop,W 0 [] (lend (frA fr) env1).1/\
 (∀ i t acc ie,W i acc ie->its[i]?=some t->g t ie fun ie2=>ft ie2 fun b ie3=>cnd b (fe ie3 fun u ie4=>W (i + 1) (acc++[u]) ie4) (W (i + 1) acc ie3))/\
 ∀ acc ie,W its.length acc ie->k (.lst true acc) (back (frA fr) ie (lend (frA fr) env1).2)
noncomputable def pB(fr:List (Option Nat))(fi:PIt)(g:PG')(ft:PB)(fe:PF):PF:=fun env k=>fi env fun its env1=>BK fr its g ft fe env1 k
theorem my:∀ fr:List (Option Nat),(frA fr).map jY=fr.map fun _=>T.any
 | []=>rfl
 | none::r=>by
  show T.any::(frA r).map jY=T.any::r.map fun _=>T.any
  rw[my r]
 | some j::r=>by
  show T.any::(frA r).map jY=T.any::r.map fun _=>T.any
  rw[my r]
theorem uC{K:Mk}{H:Hp}{Γ:Fm}:∀(fr:List (Option Nat)) (xs:List (Option V)),Rp K H Γ->Rp K H ((fr.map fun _=>T.any).zip xs++Γ)
 | [],xs,h=>h
 | _::r,[],h=>h
 | _::r,x::xs,h=>dU (uC r xs h)
theorem Aq(fr:List (Option Nat)):(frA fr).length=fr.length:=by unfold frA;rw[a_]
theorem rJ(fr:List (Option Nat))(σ:L2.St):(bJ fr σ).length=fr.length:=by unfold bJ;rw[a_]
theorem qy{K:Mk}{fr:List (Option Nat)}{fi:PIt}{g:PG'}{ft:PB}{fe:PF}:∀ σ H Q,wE K (pB fr fi g ft fe) σ H Q->tW (wI K fi) fr (fun _ _ _=>wG K (κc fr) g) (fun _ _ _=>wB K ft) (fun _ _ _=>wE K fe) σ H Q:=by
 rintro σ H Q ⟨env,Fr,k,rs,q,c⟩
 refine⟨env,Fr,_,rs,q,?_⟩
 rintro its env1 J Fg H1 ⟨hz,W,w0,wt,we⟩ rs1 ok
 intro p hp s3 H3' fp
 have l0:Rs K H1 env1 σ (((frA fr).map jY).zip (bJ fr σ)++(Fg++Fr)):=⟨rs1.1,by
  refine Rp.perm ?_ (A_ _ _ _)
  rw[my]
  exact uC fr _ rs1.2⟩
 have l1:=g9 (dg fr σ) l0
 obtain⟨ie0,ou,e0⟩:∃ ie0 ou,lend (frA fr) env1=(ie0,ou):=⟨_,_,rfl⟩
 have lie:ie0.length=(bJ fr σ).length:=by
  have:=dO (frA fr) env1
  rw[e0,Aq]at this
  rw[rJ];exact this
 rw[e0]at l1 w0
 have rp0:Rp K (upd H1 p (.lst [])) ((.lst true [],some (.ref p))::(ie0.zip (bJ fr σ)++(Fg++(ou.zip σ++Fr)))):=by
  refine cY (ts:=[]) (vs:=[]) (l1.2.perm ?_) rfl hp (bg hp _) aE
  show L3 (ou.zip σ++(ie0.zip (bJ fr σ)++(Fg++Fr))) (ie0.zip (bJ fr σ)++(Fg++(ou.zip σ++Fr)))
  exact(A_ _ _ _).trans ((A_ _ _ _).append_left _)
 refine⟨fun i m σ' H'=>∃ acc ie,W i acc ie/\Rs K H' ie σ' ((.lst true acc,some (.ref p))::(Fg++(ou.zip σ++Fr)))/\Kept (κc fr) (bJ fr σ) σ'/\m + i=its.length/\acc.length<=i,⟨its.length,[],ie0,w0,.of lie rp0,.refl,rfl,f_ _⟩,?_⟩
 rintro i m σ1 H2 ⟨acc,ie,w2,rs2,k2,hm,ha⟩
 have rp2:Rp K H2 (Fg++((.lst true acc,some (.ref p))::(ie.zip σ1++(ou.zip σ++Fr)))):=by
  refine rs2.head.perm ?_
  refine C' ?_ j_.symm
  exact .cons _ (A_ _ _ _)
 by_cases hlt:i < its.length
 ·have ei:its[i]?=some its[i]:=d_ hlt
  obtain⟨hgo,hy⟩:=ok.turn i its[i] H2 _ ei rp2
  refine .inr ⟨hgo,fun x H' hx=>?_⟩
  have rp3:=hy x H' hx
  have rs3:Rs K H' ie σ1 ((its[i],some x)::((.lst true acc,some (.ref p))::(Fg++(ou.zip σ++Fr)))):=.of rs2.1 (rp3.perm (.cons _ (by
   refine j_.trans ?_
   refine C' ?_ j_.symm
   exact .cons _ (A_ _ _ _))))
  refine⟨its[i],ie,_,_,rs3,wt i its[i] acc ie w2 ei,fun ie3 σ3 H3 q3 rs4 k4=>?_⟩
  refine⟨ie3,_,_,rs4,q3,fun b ie4 H4 q4 rs5=>dc ⟨fun hb=>?_,fun hb=>?_⟩⟩
  ·refine⟨ie4,_,_,rs5,q4.1 hb,fun u ie5 v H5 q5 rs6=>?_⟩
   have r7:=rs6.perm (.swap _ _ _)
   obtain⟨a',ys,ea,hys,ly,r8⟩:=dj r7.head
   cases ea
   refine⟨ys,hys,by rw[<-ly];exact Ij ha (Ke hlt hz),m - 1,by lia,acc++[u],ie5,q5,.of r7.1 ?_,k2.trans k4,by lia,by rw[f'];simp;omega⟩
   refine d3 (ts:=acc++[u]) (vs:=ys++[v]) (r8.perm (.cons _ ?_)) (by rw[f',f',ly];rfl) Put.up
   rw[f6 ly,l_]
   refine Ih _ ?_
   exact j_
  exact⟨m - 1,by lia,acc,ie4,q4.2 hb,rs5,k2.trans k4,by lia,by lia⟩
 have:i=its.length:=by lia
 subst this
 refine .inl ⟨ok.stop H2 _ rp2,c _ _ _ _ (we acc ie w2) ?_⟩
 rw[e0]
 have ao:gq (frA fr) σ1 σ:=fj fr (bJ fr σ) σ1 σ k2.1 k2.2 (dg fr σ)
 refine fY ao (env:=ou) ⟨l1.1,?_⟩
 refine rp2.part.perm ?_
 refine C' ?_ (A_ _ _ _)
 refine C' j_.symm ?_
 exact Ih _ j_.symm
def GTs(X:Cx)(ifs:List MB)(f:PB):Prop:=PTs X ifs (wB X.K f)
def EB:PB:=fun env k=>k true env
theorem aV{X:Cx}:GTs X [] EB:=fun pins s σ H Q I ⟨env,Fr,k,rs,q,c⟩=>rM pins s σ H Q I (c _ _ _ q rs)
theorem nL{X:Cx}{c:MB}{f:PB}(h:GT X c f):GTs X [c] f:=Ba h
theorem bu{X:Cx}{N ps:List Str}{esc:Nk}(S:FnScope N ps esc)(N':List Str)(fr:List (Option Nat))(nd:N'.Nodup){elt target iter:MB}{ifs:List MB}{sc:Nk}{pos:Pos}{fi:PIt}{g:PG'}{ft:PB}{fe:PF}(C:dD N esc sc N' fr=true)
  (hi:GI X target iter fi) (hg:∀ s3 H3 fp,GG (κc fr) (aM X N' sc s3 H3 fp) target g) (ht:∀ s3 H3 fp,GTs (aM X N' sc s3 H3 fp) ifs ft) (he:∀ s3 H3 fp,GE (aM X N' sc s3 H3 fp) elt fe)
  (hc:X.calm=true:=by rfl) (hN:X.N=N:=by rfl) (hS:X.env.scope=esc:=by rfl) (hs:∀ x,Nd iter X.env x=pure x:=by intro _;rfl):GE X (.ListComp elt [⟨target,iter,ifs,0⟩] sc pos) (pB fr fi g ft fe):=
 PE.imp (qc S N' fr nd C hi hg ht he hc hN hS hs) qy
theorem nK{X:Cx}{κ:Nat->Bool}{N ps:List Str}{esc:Nk}(S:FnScope N ps esc){i:Nat}{x:Str}{pos pos':Pos}(N':List Str)(fr:List (Option Nat))(nd:N'.Nodup){elt target iter:MB}{ifs:List MB}{sc:Nk}{pos2:Pos}{fi:PIt}{g:PG'}{ft:PB}{fe:PF}(C:dD N esc sc N' fr=true)
  (hi:X.N[i]?=some x) (hx:Loc X.env.scope x) (hκ:κ i=false) (hit:GI X target iter fi) (hg:∀ s3 H3 fp,GG (κc fr) (aM X N' sc s3 H3 fp) target g) (ht:∀ s3 H3 fp,GTs (aM X N' sc s3 H3 fp) ifs ft) (he:∀ s3 H3 fp,GE (aM X N' sc s3 H3 fp) elt fe)
  (hsw:OG (.ListComp elt [⟨target,iter,ifs,0⟩] sc pos2) (some (.Name x pos')) pos.line X.env=pure true) (hf:X.fn x=true:=by rfl)
  (hc:X.calm=true:=by rfl) (hN:X.N=N:=by rfl) (hS:X.env.scope=esc:=by rfl) (hs:∀ x,Nd iter X.env x=pure x:=by intro _;rfl):GS κ X (.Assign [.Name x pos'] (.ListComp elt [⟨target,iter,ifs,0⟩] sc pos2) pos) (By i (pB fr fi g ft fe)):=by
 refine PS.imp (sP S N' fr nd C hi hx hit hg ht he hsw hf hc hN hS hs) ?_
 rintro D σ H ⟨env,Fr,pe,rs,q,c⟩
 exact qy σ H _ ⟨env,Fr,_,rs,q,fun t env' v H' q1 rs1=>c.nx _ _ _ q1 rs1.put (.set hκ)⟩
abbrev PM:=T->List T->(T->T->Prop)->Prop
noncomputable def MtP(X:Cx)(id:String)(m:PM):Prop:=MtM X id (fun x xs H Q=>∃ t ts Γ k,ts.length=xs.length/\Rp X.K H ((t,some x)::(zz ts xs++Γ))/\m t ts k/\∀ t' r v H',k t' r->Rp X.K H' ((r,some v)::(t',some x)::Γ)->Q v H')
def isL:T->Bool
 | .lst _ _=>true
 | _=>false
noncomputable def ud(i:Nat)(m:PM)(fr:PFs):PF:=fun env k=>got (env[i]?) fun t0=>isL t0=true/\fr env fun ts env1=>got (env1[i]?) fun t=>m t ts fun t' r=>k r (env1.set i t')
section
variable{X:Cx}{e o:MB}{es:List MB}{fr:PFs}{fe:PF}{m:PM}{name:Str}{id:String}{apos cpos pos:Pos}
theorem Br{H:Hp}{Γ:Fm}{t:T}{v:V}(h:isL t=true)(rp:Rp X.K H ((t,some v)::Γ)):tyV X.K "list" v H:=by
 cases t <;> first | cases h | skip
 obtain⟨a,vs,rfl,hq,l,_⟩:=fD rp
 exact .inl ⟨rfl,vs,.inl hq⟩
theorem Bk{t:T}(h:isL t=true):isAny t=false:=by cases t <;> first | rfl | cases h
theorem BS{i:Nat}:∀ σ H Q,wE X.K (ud i m fr) σ H Q->tBM X.K "list" (fun x xs H Q=>∃ t ts Γ k,ts.length=xs.length/\Rp X.K H ((t,some x)::(zz ts xs++Γ))/\m t ts k/\∀ t' r v H',k t' r->Rp X.K H' ((r,some v)::(t',some x)::Γ)->Q v H') (Cw i) (wA X.K fr) σ H Q:=by
 rintro σ H Q ⟨env,Fr,k,rs,q,c⟩
 obtain⟨t0,e0,hl,q⟩:=aI q
 obtain⟨y,ey,rs2⟩:=rs.slot e0
 obtain⟨v,rfl⟩:=cK rs2 (Bk hl)
 refine⟨v,ey,Br hl rs2.head,env,Fr,_,rs,q,fun ts env1 vs H1 q1 l rs1=>?_⟩
 obtain⟨t,et,q1⟩:=aI q1
 obtain⟨y',ey',rs3⟩:=rs1.slot et
 rw[ey]at ey'
 cases ey'
 have hi:i < env1.length:=(gV.mp et).1
 refine⟨t,ts,(env1.set i .any).zip σ++Fr,_,l,?_,q1,fun t' r w H' kt rp=>c _ _ _ _ kt ?_⟩
 ·refine rs3.head.perm (.cons _ ?_)
  exact A_ _ _ _
 have r4:Rs X.K H' (env1.set i .any) σ ((t',some v)::(r,some w)::Fr):=.of rs3.1 (rp.perm (by
  refine C' (.swap _ _ _) ?_
  exact .cons _ j_.symm))
 have r5:=Rs.i8 (i:=i) r4 (by rw[HV];exact hi) ey
 rw[K4]at r5
 exact r5
theorem cR(i:Nat){x:Str}{xp:Pos}(slot:TC "list" name id)(hty:TF (.builtin id)=pure (.type "method_descriptor"))(hm:MtP X id m)(ha:GA X (e::es) fr)(hN:X.N[i]?=some x:=by rfl)(hv:Vis X.env.scope x:=by first | exact c_ rfl | exact b_ (c_ rfl) | exact b_ (b_ rfl))(hd:(x ==("__debug__":Str))=false:=by decide)(hcd:(x ==("__classdict__":Str))=false:=by decide)
  (hbase:PN (.Name x xp) name X.env (MQ (.Name x xp) X.env)=MQ (.Name x xp) X.env:=by rfl)
  (hfew:((Ot cpos (ME (e::es) X.env)).all (fun x=>!x.1) && (backToKw cpos (Ub [] X.env)).all (fun x=>x.1.isSome) && decide ((e::es).length + ([]:List Sr).length + (if([]:List Sr).isEmpty then 0 else 1) < 30))=true:=by rfl)
  (hline:(apos.endLine == cpos.line)=true:=by rfl) (hs:ME (e::es) X.env=(false,MQ e X.env)::ME es X.env:=by rfl) (hplain:(Ot cpos (ME es X.env)).any (·.1)=false:=by rfl) :
  GE X (.Call (.Attribute (.Name x xp) name apos) (e::es) [] cpos) (ud i m fr):=PE.imp (Gu Qk slot hty hm (dH hN hv hd hcd) ha hbase hfew hline hs hplain) BS
theorem ya(i:Nat){x:Str}{xp:Pos}(slot:TC "list" name id)(hty:TF (.builtin id)=pure (.type "method_descriptor"))(hm:MtP X id m)(hN:X.N[i]?=some x:=by rfl)(hv:Vis X.env.scope x:=by first | exact c_ rfl | exact b_ (c_ rfl) | exact b_ (b_ rfl))(hd:(x ==("__debug__":Str))=false:=by decide)(hcd:(x ==("__classdict__":Str))=false:=by decide)
  (hbase:PN (.Name x xp) name X.env (MQ (.Name x xp) X.env)=MQ (.Name x xp) X.env:=by rfl) (hline:(apos.endLine == cpos.line)=true:=by rfl) :
  GE X (.Call (.Attribute (.Name x xp) name apos) [] [] cpos) (ud i m CT):=by
 refine PE.imp (Ct Qk slot hty hm (dH hN hv hd hcd) hbase hline) fun σ H Q h=>?_
 obtain⟨v,ev,ty,env,Fr,k,rs,q,c⟩:=BS σ H Q h
 exact⟨v,ev,ty,c [] env [] H q rfl rs⟩
def nC:PM
 | .lst true ts,[t],k=>ts.length < sizeLine/\k (.lst true (ts++[t])) .non
 | _,_,_=>False
noncomputable def nr:PM
 | .lst true ts,[.lst true us],k=>ts.length + us.length<=sizeLine/\k (.lst true (ts++us)) .non
 | _,_,_=>False
noncomputable def ED:PM
 | .lst true ts,[],k=>got (ts[ts.length - 1]?) fun t=>k (.lst true ts.dropLast) t
 | _,_,_=>False
theorem df:MtP X "list.append" nC:=by
 rintro pins s σ H x xs v us Q I rx r ⟨t,ts,Γ,k,l,rp,g,c⟩
 unfold nC at g
 split at g
 ·rename_i k ts t
  obtain⟨y,rfl⟩:=zz1 l rfl
  obtain⟨a,vs,ea,ha,la,rp2⟩:=dj rp
  cases ea
  refine qM pins s σ H _ _ v us Q I rx r ⟨a,vs,y,rfl,rfl,ha,by rw[<-la];exact g.1,fun H' hp=>c _ _ _ _ g.2 (bO ?_ fun _=>.non)⟩
  refine d3 (ts:=ts++[t]) (vs:=vs++[y]) ?_ (by rw[f',f',la];rfl) hp
  rw[f6 la,l_]
  exact rp2
 exact MI g
theorem d9:MtP X "list.extend" nr:=by
 rintro pins s σ H x xs v us Q I rx r ⟨t,ts,Γ,k,l,rp,g,c⟩
 unfold nr at g
 split at g
 ·rename_i k ts us'
  obtain⟨y,rfl⟩:=zz1 l rfl
  obtain⟨a,vs,ea,ha,la,rp2⟩:=dj rp
  cases ea
  have rp3:Rp X.K H ((.lst true us',some y)::(.bare,some (.ref a))::(zz ts vs++Γ)):=rp2.perm (by
   refine C' (.cons _ j_) ?_
   exact .swap _ _ _)
  obtain⟨b,ws,eb,hb,lb,rp4⟩:=dj rp3
  cases eb
  have rp5:Rp X.K H ((.bare,some (.ref a))::(zz (ts++us') (vs++ws)++Γ)):=by
   rw[f6 la,l_]
   refine rp4.tail.perm ?_
   refine j_.trans (.cons _ ?_)
   exact A_ _ _ _
  exact rB pins s σ H _ _ v us Q I rx r ⟨a,b,vs,ws,rfl,rfl,ha,hb,by rw[<-la,<-lb];exact g.1,fun H' hp=>c _ _ _ _ g.2 (bO (d3 rp5 (by rw[f',f',la,lb]) hp) fun _=>.non)⟩
 exact MI g
theorem B0:∀ {ts:List T} {vs:List V} {t:T} {w:V},ts.length=vs.length->ts[ts.length - 1]?=some t->vs[vs.length - 1]?=some w->(zz ts vs).Perm ((t,some w)::zz ts.dropLast vs.dropLast):=by
 intro ts vs t w l e f
 have hts:ts=ts.dropLast++[t]:=by
  rw[<-KQ]at e
  obtain⟨ys,rfl⟩:=KR.mp e
  rw[Kl]
 have hvs:vs=vs.dropLast++[w]:=by
  rw[<-KQ]at f
  obtain⟨ys,rfl⟩:=KR.mp f
  rw[Kl]
 have:zz ts vs=zz (ts.dropLast++[t]) (vs.dropLast++[w]):=by rw[<-hts,<-hvs]
 rw[this,f6 (by rw[Jg,Jg,l])]
 exact IB
theorem zG:MtP X "list.pop" ED:=by
 rintro pins s σ H x xs v us Q I rx r ⟨t,ts,Γ,k,l,rp,g,c⟩
 unfold ED at g
 split at g
 ·rename_i k ts
  have:xs=[]:=by cases xs with | nil=>rfl | cons _ _=>cases l
  subst this
  obtain⟨t,et,kt⟩:=aI g
  obtain⟨a,vs,ea,ha,la,rp2⟩:=dj rp
  cases ea
  obtain⟨w,ew⟩:=jM la et
  rw[la]at ew
  refine CK pins s σ H _ _ v us Q I rx r ⟨a,vs,w,rfl,rfl,ha,ew,c _ _ _ _ kt ?_⟩
  have rp3:Rp X.K H ((.bare,some (.ref a))::(zz ts.dropLast vs.dropLast++((t,some w)::Γ))):=rp2.perm (.cons _ (((B0 la et ew).append_right Γ).trans j_.symm))
  exact(d3 rp3 (by rw[Jg,Jg,la]) Put.up).perm (.swap _ _ _)
 exact MI g
end
def outs(ms:List Bool)(env:Ev):List T:=ms.zipWith (fun b t=>if b then t else .any) env
def κm(ms:List Bool)(j:Nat):Bool:=match ms[j]? with
 | some b=>b
 | none=>false
theorem gh{K:Mk}{H:Hp}{Γ:Fm}:∀ {ms:List Bool} {env:Ev} {σ:L2.St} {vs:List V},ms.length=vs.length->(∀ j,κm ms j=true->σ[j]?=(vs[j]?).map some)->Rp K H (env.zip σ++Γ)->Rp K H (zz (outs ms env) vs++Γ)
 | [],env,σ,vs,l,k,h=>h.part
 | _::_,_,_,[],l,_,_=>by cases l
 | m::ms,[],σ,v::vs,l,k,h=>h
 | m::ms,t::env,[],v::vs,l,k,h=>by
  have ih:=gh (ms:=ms) (env:=env) (σ:=[]) (vs:=vs) (by simpa using l) (fun j hj=>by
   have:=k (j + 1) hj
   simpa using this) (by simpa using h)
  cases m with
  | true=>have:=k 0 rfl;simp at this
  | false=>exact dU ih
 | m::ms,t::env,x::σ,v::vs,l,k,h=>by
  have h:Rp K H ((t,x)::(env.zip σ++Γ)):=h
  have ks:∀ j,κm ms j=true->σ[j]?=(vs[j]?).map some:=fun j hj=>by
   have:=k (j + 1) hj
   simpa using this
  cases m with
  | true=>
   have e:x=some v:=by
    have:=k 0 rfl
    simpa using this
   subst e
   have h2:Rp K H (env.zip σ++((t,some v)::Γ)):=h.perm j_.symm
   exact(gh (ms:=ms) (by simpa using l) ks h2).perm j_
  | false=>exact dU (gh (ms:=ms) (by simpa using l) ks h.tail)
theorem yw{K:Mk}{H:Hp}{Γ:Fm}{ts:List T}{vs:List V}(l:ts.length=vs.length)(n:Nat)(h:Rp K H (zz ts vs++Γ)):Rp K H ((ts++Iw n T.any).zip (vs.map some++Iw n none)++Γ):=by
 rw[LW (by rw[a_];exact l),l_]
 have:∀ n,Rp K H (zz ts vs++((Iw n T.any).zip (Iw n (none:Option V))++Γ)):=by
  intro n
  induction n with
  | zero=>exact h
  | succ n ih=>
   rw[Lq,Lq]
   exact(dU (x:=none) ih).perm j_.symm
 exact this n
theorem cO{P:MA}{w:MC}{K:Mk}{mg:Str->Option Mj}{base:MD}{x qual:Str}{st:M3}{f:Ml}{fd:MR}{N ps:List Str}{k:Nat}{Pr:FP}(F:Fun K x qual st f fd)(S:FnScope N ps (av st))(ms:List Bool)(hms:ms.length=ps.length)
  (body:∀(cdv:Mj) (A:MJ) (outer:List Env) (s:Mm) (H:Hp) (E:XK),Room k (A.deeper (O8 qual (av st) s.heap.objs.size f cdv))->
   ∃ fb,GSs (κm ms) (qq CX0 P w K mg base N qual (av st) f cdv A outer s H E).nox (ck st) fb/\∀ ts kk,ts.length=ps.length->Pr ts kk->fb { nx:=fun env=>kk .non (outs ms env),rt:=fun t env=>kk t (outs ms env) } (ts++Iw (N.length - ps.length) .any)) :
  FnOk P w K mg base CX0 (k + 1) f fd ps (b8 K ps.length Pr):=by
 refine F.ok S (fun vs H Q E ⟨ts,Fr,kk,h1,h2,_⟩=>h2) (fun cdv A outer s H vs Q E hr ⟨ts,Fr,kk,h1,h2,rp,pr,c⟩=>?_)
 obtain⟨fb,hb,q⟩:=body cdv A outer s H E hr
 refine⟨_,hb,ts++Iw (N.length - ps.length) .any,Fr,_,?_,q ts kk (by rw[h1,h2]) pr,?_⟩
 ·unfold L2.start
  rw[h2]
  refine⟨by simp[h1],yw h1 _ rp⟩
 have kv:∀ {σ'},Kept (κm ms) (L2.start N vs) σ'->∀ j,κm ms j=true->σ'[j]?=(vs[j]?).map some:=fun{σ'} kp j hj=>by
  rw[kp.2 j hj]
  unfold L2.start
  have hj2:j < vs.length:=by
   rw[h2,<-hms]
   unfold κm at hj
   split at hj
   ·rename_i b e
    exact(gV.mp e).1
   cases hj
  rw[IQ (by rw[a_];exact hj2),HM]
 refine⟨fun env' σ' H' q' rs' k'=>c _ _ _ _ q' ?_,fun t env' v σ' H' q' rs' k'=>c _ _ _ _ q' ?_,fun _ _ _ z=>z.elim,fun _ _ _ z=>z.elim⟩
 ·exact bO (gh (by rw[hms,h2]) (kv k') rs'.2) fun _=>.non
 exact(gh (Γ:=(t,some v)::Fr) (by rw[hms,h2]) (kv k') rs'.2).perm j_
open PySem PySem.Spec PyProof.Rows L2
section
variable{X:Cx}{pos:Pos}
theorem vR{st:M3}{te:TE}{i:Nat}(h:PS X st (Bi te (su i))):PS X st (fun D σ H=>te σ H fun v H'=>Gr H H'/\D.nx (σ.set i (some v)) (over H H')):=by
 intro pins s σ H D I q
 have key:=h pins s σ H { nx:=fun σ' H'=>Gr H H'/\D.nx σ' (over H H'),rt:=fun _ _=>False } I q
 refine thn key fun f s' hs=>?_
 cases f with
 | next=>
  obtain⟨σ',H',I',g,q'⟩:=hs
  exact⟨σ',over H H',jr I I' g,q'⟩
 | brk=>obtain⟨_,_,_,z⟩:=hs;exact z.elim
 | cont=>obtain⟨_,_,_,z⟩:=hs;exact z.elim
 | ret u=>obtain⟨_,_,_,_,_,z⟩:=hs;exact z.elim
theorem zU{K:Mk}{f:PF}{σ:L2.St}{H:Hp}{Q:VK}(h:wE K (fQ f) σ H Q):wE K f σ H fun v H'=>Gr H H'/\Q v (over H H'):=by
 obtain⟨env,Fr,k,rs,q,c⟩:=h
 have rv:Rs K H (erL env) σ ((Fr.map fun p=>(er p.1,p.2))++[(.kp H,some .non)]):=by
  refine⟨by rw[nz];exact rs.1,?_⟩
  have:=mf rs.2
  rw[t_,iZ,l_]at this
  exact this
 refine⟨erL env,_,_,rv,q,?_⟩
 rintro t env' v H' ⟨n,kt⟩ rs'
 obtain⟨g,r2⟩:=mL rs.2 (Δ:=env'.zip σ++(Fr.map fun p=>(er p.1,p.2))) (by rw[l_];exact rs'.head) n
 exact⟨g,c t env v _ kt (.of rs.1 r2)⟩
theorem fM{κ:Nat->Bool}{N ps:List Str}{esc:Nk}(S:FnScope N ps esc){i:Nat}{x:Str}{pos pos':Pos}(N':List Str)(fr:List (Option Nat))(nd:N'.Nodup){elt target iter:MB}{ifs:List MB}{sc:Nk}{pos2:Pos}{fi:PIt}{g:PG'}{ft:PB}{fe:PF}(C:dD N esc sc N' fr=true)
  (hi:X.N[i]?=some x) (hx:Loc X.env.scope x) (hκ:κ i=false) (hit:GI X target iter fi) (hg:∀ s3 H3 fp,GG (κc fr) (aM X N' sc s3 H3 fp) target g) (ht:∀ s3 H3 fp,GTs (aM X N' sc s3 H3 fp) ifs ft) (he:∀ s3 H3 fp,GE (aM X N' sc s3 H3 fp) elt fe)
  (hsw:OG (.ListComp elt [⟨target,iter,ifs,0⟩] sc pos2) (some (.Name x pos')) pos.line X.env=pure true) (hf:X.fn x=true:=by rfl)
  (hc:X.calm=true:=by rfl) (hN:X.N=N:=by rfl) (hS:X.env.scope=esc:=by rfl) (hs:∀ x,Nd iter X.env x=pure x:=by intro _;rfl):GS κ X (.Assign [.Name x pos'] (.ListComp elt [⟨target,iter,ifs,0⟩] sc pos2) pos) (By i (fQ (pB fr fi g ft fe))):=by
 refine PS.imp (vR (sP S N' fr nd C hi hx hit hg ht he hsw hf hc hN hS hs)) ?_
 rintro D σ H ⟨env,Fr,pe,rs,q,c⟩
 exact qy σ H _ (zU (Q:=fun v H'=>D.nx (σ.set i (some v)) H') ⟨env,Fr,_,rs,q,fun t env' v H' q1 rs1=>c.nx _ _ _ q1 rs1.put (.set hκ)⟩)
theorem D3:GE X (.Dict [] [] pos) (fK (.dT true [])):=PE.imp yK fun σ H Q ⟨env,Fr,k,rs,q,c⟩=>fun p hp=>c _ _ _ _ q (.of rs.1 (AF rs.2 hp (bg hp _) aE))
end
section
variable{κ':Type}[DecidableEq κ']
theorem oT:∀ {ts:List (κ' × T)} {vs:List (κ' × V)} (q:κ') (t:T) (w:V),ts.map (·.1)=vs.map (·.1)->(hJ ts q t).map (·.1)=(putK vs q w).map (·.1):=by
 intro ts vs q t w e
 have ha:(ts.any fun kv=>decide (kv.1=q))=(vs.any fun kv=>decide (kv.1=q)):=by
  have e1:(ts.any fun kv=>decide (kv.1=q))=(ts.map (·.1)).any fun k=>decide (k=q):=by rw[L9];rfl
  have e2:(vs.any fun kv=>decide (kv.1=q))=(vs.map (·.1)).any fun k=>decide (k=q):=by rw[L9];rfl
  rw[e1,e2,e]
 unfold hJ putK
 rw[ha]
 split
 ·rw[D',D']
  have f1:((fun x:κ' × T=>x.1) ∘ fun kv=>if kv.1=q then(kv.1,t)else kv)=fun x=>x.1:=by funext kv;show(if kv.1=q then(kv.1,t)else kv).1=kv.1;split <;> rfl
  have f2:((fun x:κ' × V=>x.1) ∘ fun kv=>if kv.1=q then(kv.1,w)else kv)=fun x=>x.1:=by funext kv;show(if kv.1=q then(kv.1,w)else kv).1=kv.1;split <;> rfl
  rw[f1,f2,e]
 rw[t_,t_,e]
 rfl
theorem lH:∀ {ts:List (κ' × T)} {vs:List (κ' × V)} (q:κ') (t:T) (w:V),ts.map (·.1)=vs.map (·.1)->(vs.map (·.1)).Nodup->∃ r,((t,some w)::zz (ts.map (·.2)) (vs.map (·.2))).Perm (r++zz ((hJ ts q t).map (·.2)) ((putK vs q w).map (·.2))):=by
 intro ts vs q t w e nd
 by_cases hm:q∈vs.map (·.1)
 ·
  have ha:(vs.any fun kv=>decide (kv.1=q))=true:=by
   obtain⟨kv,h1,h2⟩:=m_.mp hm
   exact Jl.mpr ⟨kv,h1,decide_eq_true h2⟩
  have hb:(ts.any fun kv=>decide (kv.1=q))=true:=by
   rw[<-e]at hm
   obtain⟨kv,h1,h2⟩:=m_.mp hm
   exact Jl.mpr ⟨kv,h1,decide_eq_true h2⟩
  unfold hJ putK
  rw[if_pos ha,if_pos hb]
  clear ha hb
  induction ts generalizing vs with
  | nil=>
   have:vs=[]:=by cases vs with | nil=>rfl | cons _ _=>cases e
   subst this
   cases hm
  | cons a ts ih=>
   cases vs with
   | nil=>cases e
   | cons b vs=>
    obtain⟨k1,t1⟩:=a
    obtain⟨k2,v1⟩:=b
    rw[j',j',Jd]at e
    have ek:k1=k2:=e.1
    subst ek
    rw[j',G_]at nd
    by_cases hk:k1=q
    ·subst hk
     have n1:∀ kv∈ts,kv.1≠k1:=fun kv hkv z=>nd.1 (by
      rw[<-e.2]
      exact m_.mpr ⟨kv,hkv,z⟩)
     have n2:∀ kv∈vs,kv.1≠k1:=fun kv hkv z=>nd.1 (m_.mpr ⟨kv,hkv,z⟩)
     have m1:ts.map (fun kv=>if kv.1=k1 then(kv.1,t)else kv)=ts:=by
      conv=>rhs;rw[<-Kw ts]
      exact IG fun kv hkv=>if_neg (n1 kv hkv)
     have m2:vs.map (fun kv=>if kv.1=k1 then(kv.1,w)else kv)=vs:=by
      conv=>rhs;rw[<-Kw vs]
      exact IG fun kv hkv=>if_neg (n2 kv hkv)
     refine⟨[(t1,some v1)],?_⟩
     simp only[j',if_true,m1,m2]
     exact .swap _ _ _
    have hm':q∈vs.map (·.1):=by
     rcases o_.mp hm with z | z
     ·exact absurd z.symm hk
     exact z
    obtain⟨r,p⟩:=ih e.2 nd.2 hm'
    refine⟨r,?_⟩
    simp only[j',if_neg hk]
    show L3 ((t,some w)::(t1,some v1)::zz (ts.map (·.2)) (vs.map (·.2))) (r++((t1,some v1)::zz ((ts.map fun kv=>if kv.1=q then(kv.1,t)else kv).map (·.2)) ((vs.map fun kv=>if kv.1=q then(kv.1,w)else kv).map (·.2))))
    exact(I_ _ _ _).trans ((p.cons _).trans j_.symm)
 have ha:(vs.any fun kv=>decide (kv.1=q))=false:=by
  rw[Jy]
  intro z
  obtain⟨kv,h1,h2⟩:=Jl.mp z
  exact hm (m_.mpr ⟨kv,h1,of_decide_eq_true h2⟩)
 have hb:(ts.any fun kv=>decide (kv.1=q))=false:=by
  rw[Jy]
  intro z
  obtain⟨kv,h1,h2⟩:=Jl.mp z
  exact hm (by rw[<-e];exact m_.mpr ⟨kv,h1,of_decide_eq_true h2⟩)
 unfold hJ putK
 rw[ha,hb]
 refine⟨[],?_⟩
 simp only[HY,if_false,Kk]
 rw[t_,t_,f6 (by rw[a_,a_];exact bF e)]
 exact(IB (l₁:=[(t,some w)]))
end
noncomputable def vg:T->T->T->(T->Prop)->Prop
 | .lst true ts,.int i,v,k=>got (ixN ts.length i) fun j=>k (.lst true (ts.set j v))
 | .dK true kvs,y,v,k=>got (qh y) fun q=>kvs.length < sizeLine/\k (.dK true (hJ kvs q v))
 | .dT true kvs,.tup ks,v,k=>got (iP ks) fun q=>kvs.length < sizeLine/\k (.dT true (hJ kvs q v))
 | _,_,_,_=>False
section
variable{X:Cx}{κ:Nat->Bool}{pos:Pos}
theorem yb{P:MA}{w:MC}{H:Hp}{h:MD}{a:Ml}{kvs:List (List Key × V)}(ok:HOk P w H h)(e:H a=some (.dT kvs)):(kvs.map (·.1)).Nodup:=by
 obtain⟨z,y,xs,r,o,es,ep,h1,h2,h3,h4,h5⟩:=ok a _ e
 have:kvs.map (·.1)=xs.map (·.1):=by
  clear h4 h5 h1 z e
  induction r with
  | nil=>rfl
  | cons q _ ih=>rw[j',j',ih,q.1]
 rw[this];exact h5
theorem xG{P:MA}{w:MC}{H:Hp}{h:MD}{a:Ml}{kvs:List (Key × V)}(ok:HOk P w H h)(e:H a=some (.dK kvs)):(kvs.map (·.1)).Nodup:=by
 obtain⟨z,y,vs,r,o,es,ep,h1,h2,h3,h4,h5,h6⟩:=ok a _ e
 have:kvs.map (·.1)=vs.map (·.1):=by
  clear h6 h5 h4 h1 z e
  induction r with
  | nil=>rfl
  | cons q _ ih=>rw[j',j',ih,q.1]
 rw[this];exact h6
theorem yL:∀ {ts:List T} {vs:List V} {j:Nat} {t:T} {w:V},ts.length=vs.length->j < ts.length->∃ r,((t,some w)::zz ts vs).Perm (r::zz (ts.set j t) (vs.set j w))
 | [],vs,j,t,w,l,h=>by cases h
 | a::ts,[],j,t,w,l,h=>by cases l
 | a::ts,b::vs,0,t,w,l,h=>⟨(a,some b),.swap _ _ _⟩
 | a::ts,b::vs,j + 1,t,w,l,h=>by
  obtain⟨r,p⟩:=yL (ts:=ts) (vs:=vs) (j:=j) (t:=t) (w:=w) (by simpa using l) (by simpa using h)
  exact⟨r,(I_ _ _ _).trans ((p.cons _).trans (.swap _ _ _))⟩
theorem Gq{kr:Nat}(hr:Room kr X.A):qZ X (fun o i v H Q=>∃ t ti tv Γ k,Rp X.K H ((t,some o)::(ti,some i)::(tv,some v)::Γ)/\vg t ti tv k/\∀ t' H',k t'->Rp X.K H' ((t',some o)::Γ)->Q H'):=by
 rintro pins s σ H o i v ov iv u Q I ro ri rv ⟨t,ti,tv,Γ,k,rp,g,c⟩
 cases t with
 | lst own ts=>
  cases own <;> cases ti <;> first | exact MI g | skip
  rename_i j
  obtain⟨m,em,kt⟩:=aI g
  rw[aK rp.tail]at ri
  obtain⟨a,vs,ea,ha,la,rp2⟩:=dj rp
  cases ea
  have hm:m < ts.length:=by have:=(nM em).2.1;exact this
  rw[la]at em
  refine vd pins s σ H _ _ v ov iv u Q I ro ri rv ⟨a,vs,j,m,rfl,rfl,ha,em,fun H' hp=>c _ _ kt ?_⟩
  obtain⟨r,p⟩:=yL (t:=tv) (w:=v) la hm
  have rp3:Rp X.K H ((.bare,some (.ref a))::(zz ts vs++((tv,some v)::Γ))):=by
   have:Rp X.K H ((.int j,some i)::((.bare,some (.ref a))::(zz ts vs++((tv,some v)::Γ)))):=rp2.perm (by
    refine C' (.cons _ j_) ?_
    exact .swap _ _ _)
   exact this.tail
  have rp4:Rp X.K H (r::((.bare,some (.ref a))::(zz (ts.set m tv) (vs.set m v)++Γ))):=rp3.perm (by
   refine C' (.cons _ (j_.trans (p.append_right Γ))) ?_
   exact .swap _ _ _)
  exact d3 rp4.tail (by rw[HV,HV,la]) hp
 | dK own kvs=>
  cases own <;> first | exact MI g | skip
  have g:got (qh ti) fun q=>kvs.length < sizeLine/\k (.dK true (hJ kvs q tv)):=by cases ti <;> exact g
  obtain⟨q,eq,hz,kt⟩:=aI g
  rw[rY eq rp.tail]at ri
  obtain⟨a,vs,ea,ha,la,rp2⟩:=qa rp
  cases ea
  cases ro
  have hl:vs.length < sizeLine:=by rw[<-bF la];exact hz
  refine gD (l5 hr) I (.inl ⟨vs,q,ha,rfl,hl,rfl⟩) ri rv fun s' I'=>⟨_,I',c _ _ kt ?_⟩
  obtain⟨r,p⟩:=lH q tv v la (xG I.hok ha)
  have rp3:Rp X.K H ((.bare,some (.ref a))::(zz (kvs.map (·.2)) (vs.map (·.2))++((tv,some v)::Γ))):=by
   have:Rp X.K H ((ti,some i)::((.bare,some (.ref a))::(zz (kvs.map (·.2)) (vs.map (·.2))++((tv,some v)::Γ)))):=rp2.perm (by
    refine C' (.cons _ j_) ?_
    exact .swap _ _ _)
   exact this.tail
  have rp4:Rp X.K H (r++((.bare,some (.ref a))::(zz ((hJ kvs q tv).map (·.2)) ((putK vs q v).map (·.2))++Γ))):=rp3.perm (by
   refine C' (.cons _ (j_.trans (p.append_right Γ))) ?_
   rw[l_]
   exact j_.symm)
  exact lV rp4.part (oT q tv v la) Put.up
 | dT own kvs=>
  cases own <;> cases ti <;> first | exact MI g | skip
  rename_i ks
  obtain⟨q,eq,hz,kt⟩:=aI g
  obtain⟨b,rfl,hb⟩:=uu eq rp.tail
  obtain⟨a,vs,ea,ha,la,rp2⟩:=xU rp
  cases ea
  cases ro
  have hl:vs.length < sizeLine:=by rw[<-bF la];exact hz
  refine gD (l5 hr) I (.inr ⟨vs,q,b,ha,rfl,hb,hl,rfl⟩) ri rv fun s' I'=>⟨_,I',c _ _ kt ?_⟩
  obtain⟨r,p⟩:=lH q tv v la (yb I.hok ha)
  have rp3:Rp X.K H ((.bare,some (.ref a))::(zz (kvs.map (·.2)) (vs.map (·.2))++((tv,some v)::Γ))):=by
   have:Rp X.K H ((.tup ks,some (.ref b))::((.bare,some (.ref a))::(zz (kvs.map (·.2)) (vs.map (·.2))++((tv,some v)::Γ)))):=rp2.perm (by
    refine C' (.cons _ j_) ?_
    exact .swap _ _ _)
   exact this.tail
  have rp4:Rp X.K H (r++((.bare,some (.ref a))::(zz ((hJ kvs q tv).map (·.2)) ((putK vs q v).map (·.2))++Γ))):=rp3.perm (by
   refine C' (.cons _ (j_.trans (p.append_right Γ))) ?_
   rw[l_]
   exact j_.symm)
  exact uT rp4.part (oT q tv v la) Put.up
 | _=>cases ti <;> exact MI g
noncomputable def BO(i:Nat)(fi:PF):PG':=fun v env k=>got (env[i]?) fun t0=>isAny t0=false/\fi env fun ti env1=>got (env1[i]?) fun t=>vg t ti v fun t'=>k (env1.set i t')
theorem DW{kr i:Nat}{x:Str}{xp:Pos}{ix:MB}{fi:PF}(hr:Room kr X.A)(hi:GE X ix fi)(hN:X.N[i]?=some x:=by rfl)(hv:Vis X.env.scope x:=by first | exact c_ rfl | exact b_ (c_ rfl) | exact b_ (b_ rfl))(hd:(x ==("__debug__":Str))=false:=by decide)(hcd:(x ==("__classdict__":Str))=false:=by decide)
  (ha:∀ v,OV (.Subscript (.Name x xp) ix pos) X.env v=(do
   let ov <-OK [v] (MQ (.Name x xp) X.env)
   let iv <-OK [v,ov] (MQ ix X.env)
   Rq pos
   OK [v,ov,iv] (Sj ov iv v)
   release [v,ov,iv] []):=by intro _;rfl):GG κ X (.Subscript (.Name x xp) ix pos) (BO i fi):=by
 rintro pins s σ H v u Q I r ⟨tv,env,Fr,k,rs,q,c⟩
 obtain⟨t0,e0,na,q⟩:=aI q
 obtain⟨y,ey,rs2⟩:=rs.slot e0
 obtain⟨w,rfl⟩:=cK rs2 na
 refine yp (dH hN hv hd hcd) hi (Gq hr) ha pins s σ H v u Q I r ⟨w,ey,env,(tv,some v)::Fr,_,rs,q,fun ti env1 iv H1 q1 rs1=>?_⟩
 obtain⟨t,et,q1⟩:=aI q1
 obtain⟨y',ey',rs3⟩:=rs1.slot et
 rw[ey]at ey'
 cases ey'
 have hi':i < env1.length:=(gV.mp et).1
 refine⟨t,ti,tv,(env1.set i .any).zip σ++Fr,_,?_,q1,fun t' H' kt rp=>c _ _ _ kt ?_ .refl⟩
 ·refine rs3.head.perm (.cons _ ?_)
  refine C' j_ (.cons _ ?_)
  exact j_
 have r4:Rs X.K H' (env1.set i .any) σ ((t',some w)::Fr):=.of rs3.1 rp
 have r5:=Rs.i8 (i:=i) r4 (by rw[HV];exact hi') ey
 rw[K4]at r5
 exact r5
end
open PySem PySem.Spec PyProof.Rows L2
class Th (α:Type) where
 v:α
def EN(P:FP)(ts:List T)[k:Th (T->List T->Prop)]:Prop:=P ts k.v
def gR(b:Bool)[A:Th Prop][B:Th Prop]:Prop:=cnd b A.v B.v
def cI{α:Type}(o:Option α)[k:Th (α->Prop)]:Prop:=got o k.v
noncomputable def BM(fr:List (Option Nat))(its:List T)(g:PG')(ft:PB)(fe:PF)(env:Ev)[k:Th (T->Ev->Prop)]:Prop:=BK fr its g ft fe env k.v
theorem kK{α:Type}{u:α}{k:Th (α->Prop)}:cI (some u) (k:=k)=k.v u:=rfl
theorem aY{α:Type}{o:Option α}{u:α}{k:Th (α->Prop)}(e:o=some u)(h:k.v u):cI o (k:=k):=yD e h
theorem o6{A B:Th Prop}:gR true (A:=A) (B:=B)=A.v:=propext ⟨fun h=>h.1 rfl,fun h=>Fn h⟩
theorem lP{A B:Th Prop}:gR false (A:=A) (B:=B)=B.v:=propext ⟨fun h=>h.2 rfl,fun h=>G3 h⟩
theorem B1{b:Bool}{A B:Th Prop}:gR (!b) (A:=A) (B:=B)=gR b (A:=B) (B:=A):=by cases b <;> simp only[Ll,Lf,o6,lP]
theorem js{b:Bool}{A B:Th Prop}(h1:b=true->A.v)(h2:b=false->B.v):gR b (A:=A) (B:=B):=⟨h1,h2⟩
theorem bN{p:Prop}{d:Decidable p}{A B:Th Prop}(h1:p->A.v)(h2:¬ p->B.v):gR (decide p) (A:=A) (B:=B):=⟨fun h=>h1 (of_decide_eq_true h),fun h=>h2 (of_decide_eq_false h)⟩
section
variable{f g:PF}{env:Ev}{k:T->Ev->Prop}{kb:Bool->Ev->Prop}{tc td:PB}{pe:PEn}{u v:PSt}{fs:PFs}{fa:PAs}{ks:List T->Ev->Prop}{ka:List Arg->Ev->Prop}
theorem C8:fQ f env k=f (erL env) fun t _=>cG t=true/\k t env:=rfl
theorem Cs:fQT tc env kb=tc (erL env) fun b _=>kb b env:=rfl
theorem C4{t:T}:fK t env k=k t env:=rfl
theorem Bu{i:Nat}:Ab i env k=cI (env[i]?) (k:=⟨fun t=>isAny t=false/\b7 t=true/\k t env⟩):=by unfold Ab;cases env[i]? <;> rfl
theorem DQ{i:Nat}:fFz i env k=cI (env[i]?) (k:=⟨fun t=>isAny t=false/\k (er t) (env.set i (er t))⟩):=by unfold fFz;cases env[i]? <;> rfl
theorem Cy{i:Nat}:fMv i env k=cI (env[i]?) (k:=⟨fun t=>isAny t=false/\k t (env.set i .any)⟩):=by unfold fMv;cases env[i]? <;> rfl
theorem uy{p:P2}:xW p f g env k=f env fun x env1=>g env1 fun y env2=>p x y fun t=>k t env2:=rfl
theorem CG{p:T->(T->Prop)->Prop}:fUn p f env k=f env fun t env1=>p t fun u=>k u env1:=rfl
def asB(t:T)[k:Th (Bool->Prop)]:Prop:=match t with
 | .bl b=>k.v b
 | _=>False
theorem E3{b:Bool}{k:Th (Bool->Prop)}:asB (.bl b) (k:=k)=k.v b:=rfl
theorem Ay:AZ f env kb=f env fun t env1=>asB t (k:=⟨fun b=>kb b env1⟩):=rfl
theorem Ad:Gx f env kb=f env fun t env1=>zl t fun b=>kb b env1:=rfl
theorem vn{p q:P2}{h:PF}:nv p q f g h env k=f env fun x env1=>g env1 fun y env2=>b7 y=true/\p x y fun z=>asB z (k:=⟨fun b=>gR b (A:=⟨h env2 fun u env3=>q y u fun t=>k t env3⟩) (B:=⟨k (.bl false) env2⟩)⟩):=rfl
theorem xI:BG tc td env kb=tc env fun b env1=>gR b (A:=⟨td env1 kb⟩) (B:=⟨kb false env1⟩):=rfl
theorem wC:C1 tc env kb=tc env fun b env1=>kb (!b) env1:=rfl
theorem Al:Gz f g env k=f env fun t env1=>asB t (k:=⟨fun b=>gR b (A:=⟨g env1 k⟩) (B:=⟨k (.bl false) env1⟩)⟩):=rfl
theorem Ci:fIf tc f g env k=tc env fun b env1=>gR b (A:=⟨f env1 k⟩) (B:=⟨g env1 k⟩):=rfl
theorem uo:CT env ks=ks [] env:=rfl
theorem ph:C6 f fs env ks=f env fun t env1=>fs env1 fun ts env2=>ks (t::ts) env2:=rfl
theorem zu:FZ fs env k=fs env fun ts env1=>ts.length<=sizeLine/\k (.tup ts) env1:=rfl
theorem se:Gn fs env k=fs env fun ts env1=>ts.length<=sizeLine/\k (.lst true ts) env1:=rfl
theorem xQ{p:P1s}:fCl p fs env k=fs env fun ts env1=>p ts fun t=>k t env1:=rfl
theorem rS:Fz env ka=ka [] env:=rfl
theorem sH:G8 f fa env ka=f env fun t env1=>fa env1 fun as env2=>ka (.val t::as) env2:=rfl
theorem zR{i:Nat}:DN i fa env ka=cI (env[i]?) (k:=⟨fun t=>isAny t=false/\fa env fun as env2=>ka (.bor i::as) env2⟩):=by
 unfold DN
 cases env[i]? with
 | none=>exact propext ⟨fun h=>h.1,fun h=>h.elim⟩
 | some t=>rfl
theorem tY{n:Nat}{P:FP}:CA n P fa env k=fa env fun as env1=>as.length=n/\EN P (lend as env1).1 (k:=⟨fun t ts'=>k t (back as ts' (lend as env1).2)⟩):=rfl
theorem pL{fr:List (Option Nat)}{fi:PIt}{gt:PG'}{ft:PB}{fe:PF}:pB fr fi gt ft fe env k=fi env fun its env1=>BM fr its gt ft fe env1 (k:=⟨k⟩):=rfl
theorem yx{i:Nat}{m:PM}:ud i m fs env k=cI (env[i]?) (k:=⟨fun t0=>isL t0=true/\fs env fun ts env1=>cI (env1[i]?) (k:=⟨fun t=>m t ts fun t' r=>k r (env1.set i t')⟩)⟩):=rfl
theorem CI{fl fh:PO'}:fSl f fl fh env k=f env fun t env1=>fl env1 fun lo env2=>fh env2 fun hi env3=>slT t lo hi fun u=>k u env3:=rfl
theorem Bp{ko:Option Int->Ev->Prop}:F9 env ko=ko none env:=rfl
def asI(t:T)[k:Th (Int->Prop)]:Prop:=match t with
 | .int b=>k.v b
 | _=>False
theorem Bt{b:Int}{k:Th (Int->Prop)}:asI (.int b) (k:=k)=k.v b:=rfl
theorem Bf{ko:Option Int->Ev->Prop}:Fs f env ko=f env fun t env1=>asI t (k:=⟨fun i=>ko (some i) env1⟩):=rfl
theorem zj:BZ pe env=pe.nx env:=rfl
theorem um:GN u v pe env=u { pe with nx:=v pe } env:=rfl
theorem x5:BB f pe env=f env fun _ env1=>pe.nx env1:=rfl
theorem tm:Gg f pe env=f env fun t env1=>pe.rt t env1:=rfl
theorem DT:sIf tc u v pe env=tc env fun b env1=>gR b (A:=⟨u pe env1⟩) (B:=⟨v pe env1⟩):=rfl
theorem sf{i:Nat}:By i f pe env=f env fun t env1=>pe.nx (env1.set i t):=rfl
theorem zL{gt:PG'}:Gf f gt pe env=f env fun t env1=>gt t env1 pe.nx:=rfl
def asP(ts:List T)(k:T->T->Prop):Prop:=match ts with
 | [t,u]=>k t u
 | _=>False
theorem Ec{t u:T}{k:T->T->Prop}:asP [t,u] k=k t u:=rfl
theorem zB{i j:Nat}:F6 i j fs pe env=fs env fun ts env1=>asP ts fun t u=>pe.nx ((env1.set i t).set j u):=rfl
theorem B8{i:Nat}{p:P2}:Ef i f p pe env=cI (env[i]?) (k:=⟨fun t=>isAny t=false/\b7 t=true/\f env fun u env1=>p t u fun w=>pe.nx (env1.set i w)⟩):=by
 unfold Ef
 cases env[i]? with
 | none=>exact propext ⟨fun h=>h.1,fun h=>h.elim⟩
 | some t=>exact propext ⟨fun⟨⟨a,b⟩,c⟩=>⟨a,b,c⟩,fun⟨a,b,c⟩=>⟨⟨a,b⟩,c⟩⟩
theorem va:yX tc u pe env=qH tc u pe env:=rfl
theorem Bh{fi:PIt}{gt:PG'}:Fd fi gt u pe env=fi env fun its env1=>forL its gt u pe env1:=rfl
variable{t:T}{ke:Ev->Prop}{ts:List T}{gt:PG'}{gts:kx}
theorem BV{i:Nat}:gN i t env ke=ke (env.set i t):=rfl
theorem AR:BE [] env ke=ke env:=propext ⟨fun h=>h.2,fun h=>⟨rfl,h⟩⟩
theorem pS:wN gt gts (t::ts) env ke=gt t env fun env1=>gts ts env1 ke:=rfl
theorem AY{n:Nat}:gTp n gts (.tup ts) env ke=(ts.length=n/\gts ts env ke):=rfl
theorem vV{i:Nat}{fi:PF}:BO i fi t env ke=cI (env[i]?) (k:=⟨fun t0=>isAny t0=false/\fi env fun ti env1=>cI (env1[i]?) (k:=⟨fun t1=>vg t1 ti t fun t'=>ke (env1.set i t')⟩)⟩):=rfl
variable{ki:List T->Ev->Prop}
theorem tE:F0 f env ki=f env fun t env1=>cI (items t) (k:=⟨fun ts=>ki (erL ts) env1⟩):=rfl
def as1(ts:List T)(k:Int->Prop):Prop:=match ts with
 | [.int j]=>k j
 | _=>False
def as2(ts:List T)(k:Int->Int->Prop):Prop:=match ts with
 | [.int i,.int j]=>k i j
 | _=>False
theorem DU{j:Int}{k:Int->Prop}:as1 [.int j] k=k j:=rfl
theorem CP{i j:Int}{k:Int->Int->Prop}:as2 [.int i,.int j] k=k i j:=rfl
theorem Ex:iR1 fs env ki=fs env fun ts env1=>as1 ts fun j=>(-(2 ^ 62)<=j/\j < 2 ^ 62)/\ki (eN 0 j.toNat) env1:=rfl
theorem Dn:iR2 fs env ki=fs env fun ts env1=>as2 ts fun i j=>(-(2 ^ 62)<=i/\i < 2 ^ 62/\-(2 ^ 62)<=j/\j < 2 ^ 62)/\ki (eN i (j - i).toNat) env1:=rfl
theorem Df:iZp fs env ki=fs env fun ts env1=>asP ts fun t u=>cI (items t) (k:=⟨fun as=>cI (items u) (k:=⟨fun bs=>ki (((erL as).zip (erL bs)).map fun p=>.tup [p.1,p.2]) env1⟩)⟩):=rfl
end
section
variable{k:T->Prop}{i j l:Int}{x y:Str}{ts us:List T}{o o' b c:Bool}{t:T}
theorem t4:DP (.int i) (.int j) k=k (.int (i + j)):=rfl
theorem Au:DP (.lst o ts) (.lst o' us) k=(ts.length + us.length<=sizeLine/\k (.lst true (ts++us))):=rfl
theorem tD:FA (.int i) (.int j) k=k (.int (i - j)):=rfl
theorem ux:Ft (.int i) (.int j) k=(mC i j/\k (.int (i * j))):=rfl
theorem Aa:GC (.int i) (.int j) k=(Bm i j/\k (.int (i / j))):=rfl
theorem AN:EY (.int i) (.int j) k=(B4 i j/\k (.int (i ^ j.toNat))):=rfl
theorem yv:Cc (.int i) (.int j) k=k (.int (i + j)):=rfl
theorem Ea:ltT (.int i) (.int j) k=k (.bl (decide (i < j))):=rfl
theorem Ey:leT (.int i) (.int j) k=k (.bl (decide (i<=j))):=rfl
theorem Ce:gtT (.int i) (.int j) k=k (.bl (decide (j < i))):=rfl
theorem Eg:geT (.int i) (.int j) k=k (.bl (decide (j<=i))):=rfl
theorem CM:FU (.int i) k=k (.int (-i)):=rfl
theorem Dv:eqT (.int i) (.int j) k=k (.bl (decide (i=j))):=by
 unfold eqT
 refine propext ⟨fun h=>?_,fun h=>⟨rfl,rfl,show(0:Nat) < 190 by decide,?_⟩⟩
 ·have:=h.2.2.2
  rw[dt,dt,eqD]at this
  rw[Lh]at this
  exact this
 rw[dt,dt,eqD,Lh];exact h
def iT(ns:List Int):T:=.tup (ns.map T.int)
theorem sh:ixT (.tup ts) (.int i) k=cI (atI ts i) (k:=⟨k⟩):=rfl
theorem zI:ixT (.lst o ts) (.int i) k=cI (atI ts i) (k:=⟨k⟩):=rfl
theorem yW:iP []=some []:=rfl
theorem xX:iP (.int i::ts)=(iP ts).map fun ks=>O2 i::ks:=by
 rw[iP]
 cases iP ts <;> rfl
theorem EX{α:Type}(a:α)(l:List α):atI (a::l) 0=some a:=cz (j:=0) rfl
theorem Fv{α:Type}(a b:α)(l:List α):atI (a::b::l) 1=some b:=cz (j:=1) rfl
theorem Fo{α:Type}(a b c:α)(l:List α):atI (a::b::c::l) 2=some c:=cz (j:=2) rfl
theorem F4{α:Type}(a b c d:α)(l:List α):atI (a::b::c::d::l) 3=some d:=cz (j:=3) rfl
theorem Fx{α:Type}(a b c d e:α)(l:List α):atI (a::b::c::d::e::l) 4=some e:=cz (j:=4) rfl
theorem GP{α:Type}(a b c d e f:α)(l:List α):atI (a::b::c::d::e::f::l) 5=some f:=cz (j:=5) rfl
theorem Gv{α:Type}(a b c d e f g:α)(l:List α):atI (a::b::c::d::e::f::g::l) 6=some g:=cz (j:=6) rfl
theorem GL{α:Type}(a b c d e f g h:α)(l:List α):atI (a::b::c::d::e::f::g::h::l) 7=some h:=cz (j:=7) rfl
theorem yU:DG [.lst o ts] k=k (.int ts.length):=rfl
theorem Aw{kvs:List (List Key × T)}:DG [.dT o kvs] k=k (.int kvs.length):=rfl
theorem Dp:yG [.int i,.int j] k=k (.int (max i j)):=rfl
theorem DY:yG [.int i,.int j,.int l] k=k (.int (max (max i j) l)):=rfl
theorem EH:Ac [.int i,.int j,.int l] k=k (.int (min (min i j) l)):=rfl
theorem DO:yG [.lst o ts] k=cI (intsOf ts) (k:=⟨fun ns=>ns≠[]/\∀ r,d5 ns r->k (.int r)⟩):=rfl
theorem Dq:Ac [.lst o ts] k=cI (intsOf ts) (k:=⟨fun ns=>ns≠[]/\∀ r,d0 ns r->k (.int r)⟩):=rfl
theorem wK:nA [.lst o ts] k=k (.tup ts):=rfl
theorem Cg:Ee [.lst o ts] k=cI (boolsOf ts) (k:=⟨fun bs=>k (.bl (bs.all id))⟩):=rfl
theorem FW{lo hi:Option Int}:slT (.lst o ts) lo hi k=k (.lst true (ig ts lo hi)):=rfl
theorem Eu{kb:Bool->Prop}:zl (.bl b) kb=kb b:=rfl
theorem Es{kb:Bool->Prop}:zl (.lst o ts) kb=kb (!ts.isEmpty):=rfl
variable{km:T->T->Prop}
theorem qv:nC (.lst true ts) [t] km=(ts.length < sizeLine/\km (.lst true (ts++[t])) .non):=rfl
theorem qr:nr (.lst true ts) [.lst true us] km=(ts.length + us.length<=sizeLine/\km (.lst true (ts++us)) .non):=rfl
theorem Ak:ED (.lst true ts) [] km=cI (ts[ts.length - 1]?) (k:=⟨fun t=>km (.lst true ts.dropLast) t⟩):=rfl
theorem Ax{kvs:List (List Key × T)}:vg (.dT true kvs) (.tup ts) t k=cI (iP ts) (k:=⟨fun q=>kvs.length < sizeLine/\k (.dT true (hJ kvs q t))⟩):=rfl
end
theorem rA{α:Type}(g:α->T)(l:List α):bE (l.map g)=l.all fun x=>b7 (g x):=by rw[cF,Kf];rfl
theorem eC{α:Type}(g:α->T)(l:List α):cu (l.map g)=l.all fun x=>cG (g x):=by rw[d4,Kf];rfl
theorem qX(l m:List T):bE (l++m)=(bE l && bE m):=by rw[cF,cF,cF,LY]
theorem uN(l m:List T):cu (l++m)=(cu l && cu m):=by rw[d4,d4,d4,LY]
theorem yF{α:Type}(l:List α):(l.all fun _=>true)=true:=by induction l with | nil=>rfl | cons _ _ ih=>rw[KH,ih];rfl
theorem lu{i:Int}:isAny (.int i)=false:=rfl
theorem kN{o:Bool}{ts:List T}:isAny (.lst o ts)=false:=rfl
theorem xC{o:Bool}{kvs:List (List Key × T)}:isAny (.dT o kvs)=false:=rfl
theorem Bb{o:Bool}{ts:List T}:isL (.lst o ts)=true:=rfl
theorem kM{o:Bool}{ts:List T}:items (.lst o ts)=some ts:=rfl
theorem bM{its:List T}{g:PG'}{fb:PSt}{pe:PEn}{env:Ev}(W:Nat->Ev->Prop)(h0:W 0 env)(ht:∀ i t env,W i env->its[i]?=some t->g t env fun env2=>fb { pe with nx:=W (i + 1),ct:=W (i + 1),bk:=pe.nx } env2)(he:∀ env,W its.length env->pe.nx env):forL its g fb pe env:=⟨W,h0,ht,he⟩
theorem lA{tc:PB}{fb:PSt}{pe:PEn}{env:Ev}(W:Nat->Ev->Prop)(m:Nat)(h0:W m env)(ht:∀ m env,W m env->tc env fun b env1=>gR b (A:=⟨fb { pe with nx:=fun e=>∃ m',m' < m/\W m' e,ct:=fun e=>∃ m',m' < m/\W m' e,bk:=pe.nx } env1⟩) (B:=⟨pe.nx env1⟩)):qH tc fb pe env:=⟨W,⟨m,h0⟩,ht⟩
theorem aD{fr:List (Option Nat)}{its:List T}{g:PG'}{ft:PB}{fe:PF}{env:Ev}{k:Th (T->Ev->Prop)}(hz:its.length < sizeLine)(W:Nat->List T->Ev->Prop)(h0:W 0 [] (lend (frA fr) env).1)(ht:∀ i t acc ie,W i acc ie->its[i]?=some t->g t ie fun ie2=>ft ie2 fun b ie3=>gR b (A:=⟨fe ie3 fun u ie4=>W (i + 1) (acc++[u]) ie4⟩) (B:=⟨W (i + 1) acc ie3⟩))
  (he:∀ acc ie,W its.length acc ie->k.v (.lst true acc) (back (frA fr) ie (lend (frA fr) env).2)):BM fr its g ft fe env (k:=k):=⟨hz,W,h0,ht,he⟩
def sq(b:Bool)(ts:List T):T:=match b with
 | true=>.tup ts
 | false=>.lst false ts
abbrev pt(x y:Int):T:=.tup [.int x,.int y]
end PL
namespace ZG
open PySem
open Sem (wp)
theorem vN{prog:MA}{w:MC}{A:MJ}(hh:A.handled=none)(it d:Ml)(hne:d≠it)(o:Obj)(es:Array Oj)(ep:Nat)(hd:o.data=.dict es ep) :
  Uq prog w A it [it,d] [it] es.size (fun i v=>∃ e,es[i]?=some e/\v=e.key) (fun i h=>h.IsKeyIter it d i es.size ep/\h.get? d=some o) where
 sub:=fun b hb=>by simp at hb;simp[hb]
 frame:=fun _ _ _ st hk=>⟨st.1.at fun o e=>hk it (by simp) o e,hk d (by simp) o st.2⟩
 item:=fun i s Q E hi st hQ=>by
  have hx:es[i]?=some es[i]:=i_ hi
  refine G6 st.1 st.2 hd hx fun h' hit' hs'=>?_
  exact hQ _ h' s.toks ⟨_,hx,rfl⟩ ⟨hit',hs'.extBut d o hne st.2⟩ fun b o hb e=>hs'.extBut b o (fun z=>hb (by simp[z])) e
 done:=fun s Q E st hQ=>Hr hh st.1 st.2 hd (IJ (f_ _)) fun h' he'=>hQ h' s.toks fun b o hb e=>he' b o (fun z=>hb (by simp[z])) e
 self:=fun _ _ _ _ st hQ=>wpAny_pyIter_keyiter st.1 hQ
theorem AU{prog:MA}{w:MC}{d:Ml}{o:Obj}{es:Array Oj}{ep:Nat}(lo:(d == Nj)=false)(hc:o.ExactDict)(hd:o.data=.dict es ep) :
  PySem.W.KdlSrc prog w "dict" d d es.size (fun i v=>∃ e,es[i]?=some e/\v=e.key) (fun h=>h.get? d=some o) where
 type:=fun _ hm=>⟨o,hm,hc.1⟩
 there:=fun _ hm=>⟨Mu hm,Mu hm⟩
 keep:=fun _ _ hm hk=>hk d (.inl rfl) o hm
 notList:=by decide
 notTuple:=by decide
 hint:=fun _ _ _ _ hm hq=>PySem.W.kdl_hint_dict ⟨o,hm,hc.1⟩ hq
 iter:=fun _ _ hh hm=>⟨_,_,(fun _ _ hq=>Gs lo hm hc hd hq),vN hh _ d (u_ (Mu hm)) o es ep hd,⟨⟨_,Mt _ rfl,rfl,rfl⟩,Mo _ hm⟩⟩
end ZG
namespace L2
open PySem PySem.Spec PyProof.Rows
section
variable{X:Cx}
abbrev eR(K:Mk)(H:Hp):List V->List (List Int)->Prop:=OU fun v k=>k≠[]/\∃ b,v=.ref b/\SqT K H b (k.map V.int)
theorem fS{pins:List (Ml × Obj)}{σ:St}{H:Hp}{s:Mm}(I:Inv X pins σ H s):∀ {ys:List V} {its:List Mj} {ks:List (List Int)},Vals ys its->eR X.K H ys ks->(∀ v∈its,ZS.Bg s.heap v/\∃ b,v=.ref b/\ZS.cM s.heap v≠[]/\SqT X.K H b ((ZS.cM s.heap v).map V.int))/\its.map (ZS.cM s.heap)=ks
 | _,_,_,.nil,.nil=>⟨fun v hv=>(nomatch hv),rfl⟩
 | _,_,_,@Ui _ _ _ _ v _ its hv tv,@Ui _ _ _ _ k _ ks hk tk=>by
  obtain⟨hne,b,rfl,hb⟩:=hk
  cases hv
  obtain⟨j1,j2⟩:=fS I tv tk
  obtain⟨its',r',⟨o,ho,hc,n,hd⟩,hz⟩:=I.tuple hb
  obtain⟨ps,e1,e2⟩:=bR r'
  have kv:ZS.cM s.heap (.ref b)=k:=by
   rw[ZS.mQ ho hd]
   show its'.map ZS.cg=k
   rw[e1,D',<-e2]
   rfl
  refine⟨fun w hw=>?_,by rw[j',kv,j2]⟩
  rcases o_.mp hw with e | e
  ·subst e
   refine⟨⟨b,o,_,n,rfl,ho,hc,hd,fun v hv=>?_,?_⟩,b,rfl,by rw[kv];exact hne,by rw[kv];exact hb⟩
   ·have hv:v∈its':=hv
    rw[e1]at hv
    obtain⟨p,_,e⟩:=m_.mp hv
    exact⟨p.1,p.2,e.symm⟩
   rw[q_,e1,a_,<-a_ (f:=(·.1)),e2]
   exact Ks.mpr hne
  exact j1 w e
theorem hC:∀ {ys:List V} {us:List Mj} {u:Mj} {b:Ml},Vals ys us->u∈us->u=.ref b->V.ref b∈ys
 | _,_,_,_,.nil,h,_=>(by cases h)
 | _,_,u,b,.cons (a:=y) r t,h,e=>by
  rcases o_.mp h with z | h
  ·subst z
   subst e
   have:y=.ref b:=RelV.inj r (show RelV (.ref b) (.ref b)from rfl)
   rw[this]
   exact s_
  exact r_ _ (hC t h e)
theorem nB:bA X (.builtin "sorted") (fun xs H Q=>∃ p ys ks,xs=[.ref p]/\SqL X.K H p ys/\eR X.K H ys ks/\∀ zs ls,eR X.K H zs ls->(∀ v∈zs,v∈ys)->ls.Perm ks->ls.Pairwise (fun x y=>ZS.ltL y x=false)->New (.lst zs) H Q):=by
 intro pins s σ H xs us Q I r h
 obtain⟨p,ys,ks,rfl,hq,hr,q⟩:=h
 obtain⟨u,rfl,ru⟩:=vals1 r
 cases ru
 obtain⟨its,rv,pl,hz⟩:=I.list hq
 have hlen:=rv.length
 obtain⟨f1,f2⟩:=fS I rv hr
 refine ZS.jl (kd:=Rt true) (rk:=fun x=>ZS.rnk ZS.ltL ks (ZS.cM s.heap x.1)) (S:=fun x=>x.1∈its) pl.isList (by lia) (fun v hv=>hv) (fun h' kp {Q} {E} hne q=>ZS.kj (h0:=s.heap) (fun v hv=>(f1 v hv).1) (fun b o e _=>kp b o e) hne q)
  (fun h' E kp=>ZS.jj (h0:=s.heap) (ks:=ks) (fun x hx=>⟨(f1 _ hx).1,by rw[<-f2];exact F_ hx⟩) fun b o e _=>kp b o e) fun o a c h' op os ha kp e=>?_
 have mem:∀ v∈o,v∈its:=fun v hv=>op.mem_iff.mp hv
 have mk:∀(l:List Mj),(∀ v∈l,v∈its)->∃ zs,Vals zs l/\eR X.K H zs (l.map (ZS.cM s.heap))/\zs.length=l.length/\∀ v∈zs,v∈ys:=by
  intro l
  induction l with
  | nil=>exact fun _=>⟨[],.nil,.nil,rfl,fun v hv=>(by cases hv)⟩
  | cons v t ih=>
   intro hl
   obtain⟨zs,k1,k2,k3,k6⟩:=ih fun v hv=>hl v (.tail _ hv)
   obtain⟨_,b,e,k4,k5⟩:=f1 v (hl v (.head _))
   refine⟨.ref b::zs,.cons e k1,.cons ⟨k4,b,rfl,k5⟩ k2,by rw[k_,k_,k3],fun w hw=>?_⟩
   rcases o_.mp hw with rfl | hw
   ·exact hC rv (hl v (.head _)) e
   exact k6 w hw
 obtain⟨zs,k1,k2,k3,k6⟩:=mk o mem
 refine⟨.ref a,_,I.laid (t':=s.toks) kp ha (show b9 X.prog X.w _ h' _ (.lst zs)from⟨by rw[k3,op.length_eq];lia,o,c,k1,e⟩),rfl,(q zs _ k2 k6 ?_ ?_).at (I.hok.fresh ha)⟩
 ·rw[<-f2]
  exact op.map _
 rw[E_]
 refine HZ (fun{x y} hx hy hxy=>?_) os
 cases z:ZS.ltL (ZS.cM s.heap y) (ZS.cM s.heap x)
 ·rfl
 have:=ZS.hZ ZS.rC (ks:=ks) (by rw[<-f2];exact F_ (mem y hy)) z
 exact absurd this (Kj.mpr hxy)
end
end L2
namespace ZS
open PySem PyProof.Rows
section
variable{prog:MA}{w:MC}{A:MJ}{E:Mj->Mm->Prop}{s:Mm}
theorem mT{d:Ml}{o:Obj}{es:Array Oj}{ep:Nat}{Q:List Mj->Mm->Prop}(lo:(d == Nj)=false)(ho:s.heap.get? d=some o)(hc:o.ExactDict)(hd:o.data=.dict es ep)(hh:A.handled=none)(hn:es.size<=sizeLine)
  (h:∀ h' tk acc,s.heap.objs.size<=h'.objs.size->(∀ b u,s.heap.get? b=some u->h'.get? b=some u)->P8 (fun i v=>∃ e,es[i]?=some e/\v=e.key) acc es.size->Q acc.toList { s with heap:=h',toks:=tk }):Mr (Mw prog w) A (Ru (.ref d)) Q E s:=by
 unfold Ru
 refine Mi (QL (NI QM ?_))
 rw[Ny QN _]
 show Mr _ A.in1 (Ul [] >>= fun l=>again (.builtin "list.__iadd__" ⟨[l,.ref d],[]⟩)) _ _ s
 refine Mi (ML ?_)
 refine Mn ⟨OA OQ _,NI RB ?_⟩
 rw[Ny OQ _]
 have hS:(s.heap.push { cls:=.type "list",data:=.seq ([]:List Mj).toArray }).get? s.heap.objs.size=some { cls:=.type "list",data:=.seq ([]:List Mj).toArray }:=Mt _ rfl
 have hne:s.heap.objs.size≠d:=Jk (Mu ho)
 have fin:∀(s':Mm) (h':MD) (tk:Nat) (acc:Array Mj) (c:Nat),s'={ s with heap:=h',toks:=tk }->(∀ b u,s.heap.get? b=some u->h'.get? b=some u)->h'.get? s.heap.objs.size=some { cls:=.type "list",dict:=none,data:=.seq acc c,slots:=#[] }->P8 (fun i v=>∃ e,es[i]?=some e/\v=e.key) acc es.size->
   Mr (Mw prog w) A (load s.heap.objs.size >>= fun o=>match o.data with
    | .seq xs _=>pure xs.toList
    | _=>unsupported "internal:collect") Q E s':=fun s' h' tk acc c es' kp e it=>by
  subst es'
  refine Mi (QS e ?_)
  exact Mn (h h' tk acc (HN (Mu e)) kp it)
 refine MP (PySem.W.kdl_extend (s:={ s with heap:=s.heap.push { cls:=.type "list",data:=.seq ([]:List Mj).toArray } }) (R:=fun r s'=>∃(h':MD) (tk:Nat) (acc:Array Mj) (c:Nat),r=.ok (.ret (.ref s.heap.objs.size))/\s'={ s with heap:=h',toks:=tk }/\(∀ b u,s.heap.get? b=some u->h'.get? b=some u)/\h'.get? s.heap.objs.size=some { cls:=.type "list",dict:=none,data:=.seq acc c,slots:=#[] }/\P8 (fun i v=>∃ e,es[i]?=some e/\v=e.key) acc es.size)
  (ZG.AU lo hc hd) hh (Mo _ ho) s.heap.objs.size hne hne (.ref s.heap.objs.size) 0 hS (fun h' tk acc c kp e it=>⟨h',tk,acc,c,rfl,rfl,fun b u eb=>kp b u (u_ (Mu eb)) (Mo _ eb),e,it⟩) hn) (fun fn s' hf=>?_) (fun e s' hf=>?_)
 ·cases fn with
  | done f=>
   obtain⟨h',tk,acc,c,ef,es',kp,e,it⟩:=hf
   cases ef
   exact fin s' h' tk acc c es' kp e it
  | again c'=>
   refine⟨hf.1,NT hf.2 fun r s'' hr=>?_⟩
   obtain⟨h',tk,acc,c,er,es',kp,e,it⟩:=hr
   subst er
   exact fin s'' h' tk acc c es' kp e it
 obtain⟨_,_,_,_,ef,_⟩:=hf
 cases ef
theorem oY{x:Mj}{vs:List Mj}{kd:Ng}{rk:Mq->Nat}{S:Mq->Prop}{Q:Mj->Mm->Prop}(hz:vs.length<=sizeLine)(hS:∀ v∈vs,S (v,v))
  (coll:∀ {Q':List Mj->Mm->Prop} {E':Mj->Mm->Prop},(∀ h' tk,s.heap.objs.size<=h'.objs.size->(∀ b u,s.heap.get? b=some u->h'.get? b=some u)->Q' vs { s with heap:=h',toks:=tk })->Mr (Mw prog w) A.in1 (Ru x) Q' E' s)
  (kind:∀ h' tk,(∀ b o,s.heap.get? b=some o->h'.get? b=some o)->∀ {Q:Ng->Mm->Prop} {E:Mj->Mm->Prop},vs≠[]->Q kd { s with heap:=h',toks:=tk }->Mr (Mw prog w) A.in1.in1 (O1 vs.toArray) Q E { s with heap:=h',toks:=tk })
  (lt:∀ h' tk E,(∀ b o,s.heap.get? b=some o->h'.get? b=some o)->bV (Mw prog w) A.in1.in1 E { s with heap:=h',toks:=tk } kd rk S)
  (h:∀(o:List Mj) a c h' tk,o.Perm vs->o.Pairwise (fun x y=>rk (x,x)<=rk (y,y))->s.heap.objs.size<=a->(∀ b u,s.heap.get? b=some u->h'.get? b=some u)->h'.get? a=some (MK "list" o.toArray c)->Q (.ref a) { s with heap:=h',toks:=tk }) :
  Mr (Mw prog w) A (call (.builtin "sorted") [x]) Q E s:=by
 refine N3 QB Qe Qf (Rm _) ?_
 unfold Nu.«sorted»
 refine Mi (m:=QZ "sorted" 1 1 _) (Mn ?_)
 refine Mi (coll fun h0 tk le k0=>?_)
 refine Mi (NY ?_ hz)
 have hoL:(h0.push (MK "list" vs.toArray 0)).get? h0.objs.size=some (MK "list" vs.toArray 0):=Mt _ rfl
 have keep:∀ b o,s.heap.get? b=some o->(h0.push (MK "list" vs.toArray 0)).get? b=some o:=fun b o q=>Mo _ (k0 b o q)
 show Mr _ _ _ _ _ { s with heap:=h0.push (MK "list" vs.toArray 0),toks:=tk }
 have ne:∀ b o,s.heap.get? b=some o->b≠h0.objs.size:=fun b o e=>u_ (Mu (k0 b o e))
 generalize h0.push (MK "list" vs.toArray 0)=h1 at hoL keep ⊢
 refine Mi (MM (MX Po ⟨_,hoL,rfl⟩ Pc ?body (QJ _)))
 case body=>
  refine hU (s:={ s with heap:=h1,toks:=tk }) (kd:=kd) (rk:=rk) (S:=S) hoL hz hS (fun h' k {Q} hne q=>kind h' tk (fun b o e=>k b o (ne b o e) (keep b o e)) hne q) (fun h' k=>lt h' tk _ fun b o e=>k b o (ne b o e) (keep b o e)) fun o c h' g1 g2 g3 g4=>?_
  exact⟨_,rfl,Mn ⟨_,rfl,h o _ c h' tk g1 g2 le (fun b u e=>g3 b u (ne b u e) (keep b u e)) g4⟩⟩
end
end ZS
namespace L2
open PySem PySem.Spec PyProof.Rows
section
variable{X:Cx}
abbrev sZ(H:Hp):List V->List (List Int)->Prop:=OU fun v k=>k≠[]/\∃ b,v=.ref b/\H b=some (.tup (k.map V.int))
theorem jC{α β:Type}{F:α->β->Prop}:∀ {l:List α} {m:List β},OU F l m->∀(i:Nat) (a:α) (b:β),l[i]?=some a->m[i]?=some b->F a b
 | _,_,.nil,i,a,b,h,_=>by simp at h
 | _,_,.cons f _,0,a,b,h,g=>by
  cases h
  cases g
  exact f
 | _,_,.cons _ t,i + 1,a,b,h,g=>jC t i a b (by simpa using h) (by simpa using g)
theorem mw(hc:X.calm=true):bA X (.builtin "sorted") (fun xs H Q=>∃ d kvs ks,xs=[.ref d]/\Rd H d (.dT kvs)/\kvs.map (·.1)=ks.map kI/\(∀ k∈ks,k≠[])/\∀ zs ls,sZ H zs ls->ls.Perm ks->ls.Pairwise (fun x y=>ZS.ltL y x=false)->(kvs.map (·.1)).Nodup->New (.lst zs) H Q):=by
 intro pins s σ H xs us Q I r h
 obtain⟨d,kvs,ks,rfl,hd,ek,hne,q⟩:=h
 obtain⟨u,rfl,ru⟩:=vals1 r
 cases ru
 obtain⟨z,lo,xs,kt,o,es,ep,g1,g2,g3,g4,g5⟩:=(show b9 X.prog X.w H s.heap d (.dT kvs)from hd.ok I.hok)
 have hlen:xs.length=kvs.length:=(Ow kt).symm
 have hes:es.size=xs.length:=by rw[<-g_,g4,a_]
 have rel:∀(l:List Ml),Vals (l.map V.ref) (l.map MY):=fun l=>by
  induction l with
  | nil=>exact .nil
  | cons a t ih=>exact .cons rfl ih
 have rows:∀ {kvs':List (List Key × V)} {xs':List (List Key × Ml × Mj)} {ks':List (List Int)},KT H kvs' xs'->kvs'.map (·.1)=ks'.map kI->(∀ k∈ks',k≠[])->eR X.K H ((xs'.map fun x=>x.2.1).map V.ref) ks':=fun{kvs' xs' ks'} k=>by
  induction k generalizing ks' with
  | nil=>
   intro e _
   cases ks' with
   | nil=>exact .nil
   | cons a b=>simp at e
  | cons h t ih=>
   intro e hn
   cases ks' with
   | nil=>simp at e
   | cons a b=>
    rw[j',j',Jd]at e
    refine .cons ⟨hn a s_,_,rfl,SqT.of ?_⟩ (ih e.2 fun k hk=>hn k (r_ _ hk))
    rw[h.2.1,e.1,Fp]
 have rowsH:∀ {kvs':List (List Key × V)} {xs':List (List Key × Ml × Mj)} {ks':List (List Int)},KT H kvs' xs'->kvs'.map (·.1)=ks'.map kI->OU (fun(v:Mj) (k:List Int)=>∃ b,v=.ref b/\H b=some (.tup (k.map V.int))) ((xs'.map fun x=>x.2.1).map MY) ks':=fun{kvs' xs' ks'} k=>by
  induction k generalizing ks' with
  | nil=>
   intro e
   cases ks' with
   | nil=>exact .nil
   | cons a b=>simp at e
  | cons h t ih=>
   intro e
   cases ks' with
   | nil=>simp at e
   | cons a b=>
    rw[j',j',Jd]at e
    refine .cons ⟨_,rfl,?_⟩ (ih e.2)
    rw[h.2.1,e.1,Fp]
 have eqk:∀ {kvs':List (List Key × V)} {xs':List (List Key × Ml × Mj)},KT H kvs' xs'->kvs'.map (·.1)=xs'.map fun x=>x.1:=fun{kvs' xs'} k=>by
  induction k with
  | nil=>rfl
  | cons h t ih=>rw[j',j',ih,h.1]
 obtain⟨f1,f2⟩:=fS I (rel (xs.map fun x=>x.2.1)) (rows kt ek hne)
 obtain⟨its,eits⟩:∃ its,its=(xs.map fun x=>x.2.1).map MY:=⟨_,rfl⟩
 rw[<-eits]at f1 f2
 have li:its.length=xs.length:=by rw[eits,a_,a_]
 refine ZS.oY (vs:=its) (kd:=Rt true) (rk:=fun x=>ZS.rnk ZS.ltL ks (ZS.cM s.heap x.1)) (S:=fun x=>x.1∈its) (by lia) (fun v hv=>hv)
  (fun{Q' E'} hq=>ZS.mT lo g1 g2 g3 (I.ok.hd hc) (by lia) fun h' tk acc le kp it=>?_)
  (fun h' tk kp {Q} {E} hne q=>ZS.kj (h0:=s.heap) (fun v hv=>(f1 v hv).1) (fun b o e _=>kp b o e) hne q)
  (fun h' tk E kp=>ZS.jj (h0:=s.heap) (ks:=ks) (fun x hx=>⟨(f1 _ hx).1,by rw[<-f2];exact F_ hx⟩) fun b o e _=>kp b o e) fun o a c h' tk op os ha kp e=>?_
 ·have hacc:acc.toList=its:=by
   rw[eits]
   refine LD fun j=>?_
   rw[e_,HM,HM]
   by_cases hj:j < es.size
   ·have hx:j < xs.length:=by lia
    have hja:j < acc.size:=by rw[it.1];exact hj
    have ha:acc[j]?=some acc[j]:=i_ hja
    obtain⟨en,e1,e2⟩:=it.2 j _ ha
    rw[ha,e2,d_ hx]
    rw[<-e_,g4,HM,d_ hx]at e1
    cases e1
    rfl
   rw[IJ (by rw[it.1];lia),JD (by lia)]
   rfl
  rw[hacc]
  exact hq h' tk le kp
 have mem:∀ v∈o,v∈its:=fun v hv=>op.mem_iff.mp hv
 have raw:∀ v∈its,∃ b,v=.ref b/\H b=some (.tup ((ZS.cM s.heap v).map V.int)):=fun v hv=>by
  obtain⟨i,hi,ev⟩:=HX.mp hv
  have h1:its[i]?=some v:=by rw[d_ hi,ev]
  have h2:ks[i]?=some (ZS.cM s.heap v):=by rw[<-f2,HM,h1];rfl
  have pr:=rowsH kt ek
  rw[<-eits]at pr
  exact jC pr i _ _ h1 h2
 have mk:∀(l:List Mj),(∀ v∈l,v∈its)->∃ zs,Vals zs l/\sZ H zs (l.map (ZS.cM s.heap))/\zs.length=l.length:=by
  intro l
  induction l with
  | nil=>exact fun _=>⟨[],.nil,.nil,rfl⟩
  | cons v t ih=>
   intro hl
   obtain⟨zs,k1,k2,k3⟩:=ih fun v hv=>hl v (.tail _ hv)
   obtain⟨_,_,_,k4,_⟩:=f1 v (hl v (.head _))
   obtain⟨b,e,k5⟩:=raw v (hl v (.head _))
   exact⟨.ref b::zs,.cons e k1,.cons ⟨k4,b,rfl,k5⟩ k2,by rw[k_,k_,k3]⟩
 obtain⟨zs,k1,k2,k3⟩:=mk o mem
 refine⟨.ref a,_,I.laid (t':=tk) kp ha (show b9 X.prog X.w _ h' _ (.lst zs)from⟨by rw[k3,op.length_eq];lia,o,c,k1,e⟩),rfl,(q zs _ k2 ?_ ?_ (by rw[eqk kt];exact g5)).at (I.hok.fresh ha)⟩
 ·rw[<-f2]
  exact op.map _
 rw[E_]
 refine HZ (fun{x y} hx hy hxy=>?_) os
 cases z:ZS.ltL (ZS.cM s.heap y) (ZS.cM s.heap x)
 ·rfl
 have:=ZS.hZ ZS.rC (ks:=ks) (by rw[<-f2];exact F_ (mem y hy)) z
 exact absurd this (Kj.mpr hxy)
end
end L2
namespace ZS
open PySem PyProof.Rows
def ltI(a b:Int):Bool:=decide (a < b)
theorem zM:Tot ltI:=⟨fun a=>decide_eq_false (Int.lt_irrefl a),fun a b c h g=>decide_eq_true (Int.lt_trans (of_decide_eq_true h) (of_decide_eq_true g)),fun a b h g=>by
 have h:=of_decide_eq_false h
 have g:=of_decide_eq_false g
 lia⟩
section
variable{prog:MA}{w:MC}{A:MJ}{E:Mj->Mm->Prop}{s:Mm}
theorem pZ{ns:List Int}{S:Mq->Prop}(hS:∀ x,S x->∃ i t,x.1=.int i t/\i∈ns):bV (Mw prog w) A E s Q0 (fun x=>rnk ltI ns (cg x.1)) S:=by
 intro x y st Q sx sy kd q
 obtain⟨i,t,ex,mi⟩:=hS x sx
 obtain⟨j,u,ey,mj⟩:=hS y sy
 rw[lt'_eq]
 refine Mv (OE ?_)
 rw[kd,ex,ey,keyLt'_oneType]
 refine Mv (Qd (NC (oneLt_int ⟨rfl,?_⟩)))
 refine Mz ?_
 dsimp only at q
 rw[ue zM (show cg x.1∈ns by rw[ex];exact mi),ex,ey]at q
 exact q
theorem pf{M:Om}{v1:Mj}{vs:List Mj}{ns:List Int}{Q:Ng->Mm->Prop}(hI:Nr (v1::vs) ns)(q:Q Q0 s):Mr M A (O1 (v1::vs).toArray) Q E s:=by
 have e:O1 (v1::vs).toArray=pure Q0:=by
  rw[keyKind'_eq,LF,mapM_first_ints hI]
  simp only[map_pure,pure_bind]
  rw[if_neg (by simp),if_neg (by simp),oneTypeOnly'_eq,LF,mapM_typeOf_ints hI]
  simp only[map_pure,pure_bind]
  have hal:((Ib (fun _=>Nl "int") (v1::vs)).toArray.all fun x=>x == Nl "int")=true:=by
   simp only[List.all_toArray,Kf,JG]
   exact fun _ _=>rfl
  have hz:(Ib (fun _=>Nl "int") (v1::vs)).toArray[0]?=some (Nl "int"):=by simp
  rw[hz]
  simp only[hal,if_true,pure_bind,Lu]
 rw[e]
 exact Mn q
end
end ZS
namespace L2
open PySem PySem.Spec PyProof.Rows
section
variable{X:Cx}
theorem mP:bA X (.builtin "sorted") (fun xs H Q=>∃ p ns,xs=[.ref p]/\SqL X.K H p (ns.map V.int)/\∀ ms:List Int,ms.Perm ns->ms.Pairwise (·<=·)->New (.lst (ms.map V.int)) H Q):=by
 intro pins s σ H xs us Q I r h
 obtain⟨p,ns,rfl,hq,q⟩:=h
 obtain⟨u,rfl,ru⟩:=vals1 r
 cases ru
 obtain⟨its,rv,pl,hz⟩:=I.list hq
 have hlen:=rv.length
 rw[a_]at hlen hz
 obtain⟨ps,e1,e2⟩:=bR rv
 have hI:Nr its ns:=intsAre_of rv
 have each:∀ v∈its,∃ i t,v=.int i t/\i∈ns:=fun v hv=>by
  rw[e1]at hv
  obtain⟨a,ha,e⟩:=m_.mp hv
  exact⟨a.1,a.2,e.symm,by rw[<-e2];exact F_ ha⟩
 have keys:its.map ZS.cg=ns:=by rw[e1,D',<-e2];rfl
 refine ZS.jl (kd:=Q0) (rk:=fun x=>ZS.rnk ZS.ltI ns (ZS.cg x.1)) (S:=fun x=>x.1∈its) pl.isList (by lia) (fun v hv=>hv) (fun h' kp {Q} {E} hne q=>?_) (fun h' E kp=>ZS.pZ fun x hx=>each _ hx) fun o a c h' op os ha kp e=>?_
 ·obtain⟨v1,vs,ev⟩:=KL hne
  rw[ev]at hI ⊢
  exact ZS.pf hI q
 have mem:∀ v∈o,v∈its:=fun v hv=>op.mem_iff.mp hv
 have mk:∀(l:List Mj),(∀ v∈l,v∈its)->Vals ((l.map ZS.cg).map V.int) l:=by
  intro l
  induction l with
  | nil=>exact fun _=>.nil
  | cons v t ih=>
   intro hl
   obtain⟨i,t',e,_⟩:=each v (hl v (.head _))
   refine .cons ?_ (ih fun v hv=>hl v (.tail _ hv))
   rw[e]
   exact⟨t',rfl⟩
 refine⟨.ref a,_,I.laid (t':=s.toks) kp ha (show b9 X.prog X.w _ h' _ (.lst ((o.map ZS.cg).map V.int))from⟨by rw[a_,a_,op.length_eq];lia,o,c,mk o mem,e⟩),rfl,(q _ ?_ ?_).at (I.hok.fresh ha)⟩
 ·rw[<-keys]
  exact op.map _
 rw[E_]
 refine HZ (fun{x y} hx hy hxy=>?_) os
 by_cases z:ZS.cg x<=ZS.cg y
 ·exact z
 have:=ZS.hZ ZS.zM (ks:=ns) (a:=ZS.cg y) (b:=ZS.cg x) (by rw[<-keys];exact F_ (mem y hy)) (decide_eq_true (by lia))
 exact absurd this (Kj.mpr hxy)
end
end L2
namespace PL
open PySem PySem.Spec PyProof.Rows L2
section
variable{κ:Type}{lt:κ->κ->Bool}
noncomputable def vB(lt:κ->κ->Bool)(x:κ):List κ->List κ
 | []=>[x]
 | y::r=>if lt y x=true then y::vB lt x r else x::y::r
def qo(lt:κ->κ->Bool):List κ->List κ
 | []=>[]
 | x::r=>vB lt x (qo lt r)
theorem iq(x:κ):∀ l:List κ,(vB lt x l).Perm (x::l)
 | []=>.refl _
 | y::r=>by
  rw[vB]
  split
  ·exact((iq x r).cons y).trans (.swap _ _ _)
  exact .refl _
theorem gK:∀ l:List κ,(qo lt l).Perm l
 | []=>.refl _
 | x::r=>(iq x _).trans ((gK r).cons x)
theorem iy(T:ZS.Tot lt)(x:κ):∀ {l:List κ},l.Pairwise (fun a b=>lt b a=false)->(vB lt x l).Pairwise (fun a b=>lt b a=false)
 | [],_=>J1 _ _
 | y::r,h=>by
  rw[Ip]at h
  rw[vB]
  split
  ·rename_i hy
   rw[Ip]
   refine⟨fun b hb=>?_,iy T x h.2⟩
   rcases o_.mp ((iq x r).mem_iff.mp hb)with rfl | hb
   ·cases z:lt b y
    ·rfl
    have:=T.tr _ _ _ z hy
    rw[T.irr]at this
    cases this
   exact h.1 b hb
  rename_i hy
  have hy:lt y x=false:=Jy.mpr hy
  rw[Ip]
  refine⟨fun b hb=>?_,Ip.mpr h⟩
  rcases o_.mp hb with rfl | hb
  ·exact hy
  cases z:lt b x
  ·rfl
  have h1:=h.1 b hb
  cases w:lt y b
  ·have:=T.tot _ _ h1 w
   subst this
   rw[z]at hy;cases hy
  have:=T.tr _ _ _ w z
  rw[hy]at this;cases this
theorem dS(T:ZS.Tot lt):∀ l:List κ,(qo lt l).Pairwise (fun a b=>lt b a=false)
 | []=>J3
 | x::r=>iy T x (dS T r)
theorem iL(T:ZS.Tot lt):∀ {l m:List κ},l.Perm m->l.Pairwise (fun a b=>lt b a=false)->m.Pairwise (fun a b=>lt b a=false)->l=m
 | [],m,p,_,_=>(List.Perm.nil_eq p)
 | a::l,[],p,_,_=>(List.Perm.eq_nil p)
 | a::l,b::m,p,h,g=>by
  rw[Ip]at h g
  have e:a=b:=by
   have ha:a∈b::m:=p.mem_iff.mp s_
   have hb:b∈a::l:=p.mem_iff.mpr s_
   rcases o_.mp ha with e | ha
   ·exact e
   rcases o_.mp hb with e | hb
   ·exact e.symm
   exact T.tot _ _ (g.1 a ha) (h.1 b hb)
  subst e
  rw[iL T (List.Perm.cons_inv p) h.2 g.2]
theorem md(T:ZS.Tot lt){l m:List κ}(p:l.Perm m)(h:l.Pairwise (fun a b=>lt b a=false)):l=qo lt m:=
 iL T (p.trans (gK m).symm) h (dS T m)
end
abbrev ng(ks:List (List Int)):List (List Int):=qo ZS.ltL ks
abbrev Fe(ks:List Int):List Int:=qo ZS.ltI ks
noncomputable def rowOf:T->Option (List Int)
 | .tup ts=>match intsOf ts with
  | some (n::r)=>some (n::r)
  | _=>none
 | _=>none
noncomputable def rowsOf:List T->Option (List (List Int))
 | []=>some []
 | t::r=>match rowOf t,rowsOf r with
  | some k,some ks=>some (k::ks)
  | _,_=>none
theorem vZ{t:T}{k:List Int}(h:rowOf t=some k):t=iT k/\k≠[]:=by
 cases t <;> first | cases h | skip
 rename_i ts
 rw[rowOf]at h
 split at h
 ·rename_i n r e
  cases h
  exact⟨by rw[cf e];rfl,by simp⟩
 cases h
theorem xD{k:List Int}(h:k≠[]):rowOf (iT k)=some k:=by
 cases k with
 | nil=>exact absurd rfl h
 | cons n r=>
  show(match intsOf ((n::r).map T.int)with | some (n::r)=>some (n::r) | _=>none)=_
  rw[qk]
theorem ij:∀ {ts:List T} {ks:List (List Int)},rowsOf ts=some ks->ts=ks.map iT/\∀ k∈ks,k≠[]
 | [],ks,h=>by cases h;exact⟨rfl,fun k hk=>by cases hk⟩
 | t::ts,ks,h=>by
  rw[rowsOf]at h
  split at h
  ·rename_i k r e1 e2
   cases h
   obtain⟨h1,h2⟩:=vZ e1
   obtain⟨h3,h4⟩:=ij e2
   refine⟨by rw[h1,h3];rfl,fun q hq=>?_⟩
   rcases o_.mp hq with rfl | hq
   ·exact h2
   exact h4 q hq
  cases h
theorem qA{ks:List (List Int)}(h:∀ k∈ks,k≠[]):rowsOf (ks.map iT)=some ks:=by
 induction ks with
 | nil=>rfl
 | cons k r ih=>
  rw[j',rowsOf,xD (h k s_),ih fun q hq=>h q (r_ _ hq)]
theorem iz{α:Type}(g:α->T)(f:α->List Int)(h:∀ x,g x=iT (f x))(n:∀ x,f x≠[])(l:List α):rowsOf (l.map g)=some (l.map f):=by
 have:l.map g=(l.map f).map iT:=by rw[D'];exact IG fun x _=>h x
 rw[this]
 exact qA fun k hk=>by
  obtain⟨x,_,rfl⟩:=m_.mp hk
  exact n x
noncomputable def mE:P1s
 | [.lst _ ts],k=>match intsOf ts with
  | some ns=>k (.lst true ((Fe ns).map T.int))
  | none=>got (rowsOf ts) fun ks=>k (.lst true ((ng ks).map iT))
 | [.dT _ kvs],k=>∃ ks,kvs.map (·.1)=ks.map kI/\(∀ q∈ks,q≠[])/\(ks.Nodup->k (.lst true ((ng ks).map iT)))
 | _,_=>False
section
variable{X:Cx}
theorem kc{K:Mk}{H:Hp}{Γ:Fm}:∀ {ks:List (List Int)} {vs:List V},(∀ k∈ks,k≠[])->(ks.map iT).length=vs.length->Rp K H (zz (ks.map iT) vs++Γ)->eR K H vs ks/\∀ v∈vs,∃(b:Ml) (k:List Int),v=.ref b/\H b=some (.tup (k.map V.int))
 | [],[],_,_,_=>⟨.nil,fun v hv=>by cases hv⟩
 | [],_::_,_,l,_=>by cases l
 | _::_,[],_,l,_=>by cases l
 | k::ks,v::vs,n,l,h=>by
  have h:Rp K H ((iT k,some v)::(zz (ks.map iT) vs++Γ)):=h
  obtain⟨a,us,rfl,ha,la,h2⟩:=nG h
  have eu:=cA la h2
  subst eu
  obtain⟨r1,r2⟩:=kc (fun q hq=>n q (r_ _ hq)) (by simpa using l) h.tail
  refine⟨.cons ⟨n k s_,a,rfl,SqT.of ha⟩ r1,fun w hw=>?_⟩
  rcases o_.mp hw with rfl | hw
  ·exact⟨a,k,rfl,ha⟩
  exact r2 w hw
theorem fy{K:Mk}{H:Hp}{Γ:Fm}:∀ {ks:List (List Int)} {vs:List V},sZ H vs ks->Rp K H Γ->Rp K H (zz (ks.map iT) vs++Γ)/\(ks.map iT).length=vs.length
 | [],_,r,h=>by cases r;exact⟨h,rfl⟩
 | k::ks,_,r,h=>by
  rcases r with _ | ⟨hd,t⟩
  rename_i v vs
  obtain⟨_,b,e,hb⟩:=hd
  obtain⟨h1,l1⟩:=fy t h
  subst e
  refine⟨?_,by simp at l1 ⊢;exact l1⟩
  show Rp K H ((iT k,some (.ref b))::(zz (ks.map iT) vs++Γ))
  exact de (ts:=k.map T.int) (vs:=k.map V.int) (rp_intsP k h1) (by rw[a_,a_]) .bD hb
where
 rp_intsP {Γ:Fm}:∀(ns:List Int),Rp K H Γ->Rp K H (zz (ns.map T.int) (ns.map V.int)++Γ)
 | [],h=>h
 | _::r,h=>bO (rp_intsP r h) fun _=>.int
theorem iY{K:Mk}{H:Hp}{Γ:Fm}:∀(ns:List Int),Rp K H Γ->Rp K H (zz (ns.map T.int) (ns.map V.int)++Γ)
 | [],h=>h
 | _::r,h=>bO (iY r h) fun _=>.int
theorem mM{K:Mk}{H:Hp}:∀ {zs:List V} {ls:List (List Int)},(∀ v∈zs,∀ b,v=.ref b->∀ xs,SqT K H b xs->H b=some (.tup xs))->eR K H zs ls->sZ H zs ls
 | _,_,_,.nil=>.nil
 | _,_,h,.cons ⟨n,b,e,hb⟩ t=>.cons ⟨n,b,e,h _ s_ b e _ hb⟩ (mM (fun v hv=>h v (r_ _ hv)) t)
theorem CL{ms:List Int}(h:ms.Pairwise (·<=·)):ms.Pairwise (fun a b=>ZS.ltI b a=false):=h.imp fun{a b} hab=>by
 unfold ZS.ltI
 exact decide_eq_false (by omega)
theorem nI(hc:X.calm=true):fB X (.builtin "sorted") mE:=by
 rintro pins s σ H xs us Q I r ⟨ts,Γ,k,l,rp,g,c⟩
 unfold mE at g
 split at g
 ·rename_i k o ts
  obtain⟨x,rfl⟩:=zz1 l rfl
  have rp:Rp X.K H ((.lst o ts,some x)::Γ):=rp
  obtain⟨a,vs,rfl,hq,l2,rp2⟩:=fD rp
  cases e:intsOf ts with
  | some ns=>
   rw[e]at g
   have et:=cf e
   subst et
   have ev:=cA l2 rp2
   subst ev
   refine mP pins s σ H _ us Q I r ⟨a,ns,rfl,.inl hq,fun ms pm sm p H' hp g' e'=>c _ _ _ g ?_⟩
   have es:ms=Fe ns:=md ZS.zM pm (CL sm)
   rw[<-es]
   exact cY (iY ms rp.tail) (by rw[a_,a_]) hp g' e'
  | none=>
   rw[e]at g
   obtain⟨ks,ek,kt⟩:=aI g
   obtain⟨et,ne⟩:=ij ek
   subst et
   obtain⟨rv,ex⟩:=kc ne l2 rp2
   refine nB pins s σ H _ us Q I r ⟨a,vs,ks,rfl,.inl hq,rv,fun zs ls rz mem pm sm p H' hp g' e'=>c _ _ _ kt ?_⟩
   have es:ls=ng ks:=md ZS.rC pm sm
   rw[<-es]
   have rH:=mM (fun v hv b eb xs hs=>by
    obtain⟨b',k',e1,e2⟩:=ex v (mem v hv)
    rw[eb]at e1
    cases e1
    rw[e2,I.d8 hs (SqT.of e2)]) rz
   obtain⟨rp3,l3⟩:=fy rH rp.tail
   exact cY rp3 l3 hp g' e'
 ·rename_i k o kvs
  obtain⟨x,rfl⟩:=zz1 l rfl
  have rp:Rp X.K H ((.dT o kvs,some x)::Γ):=rp
  obtain⟨a,vs,rfl,hq,ek,rp2⟩:=qB rp
  obtain⟨ks,e1,e2,kt⟩:=g
  refine mw hc pins s σ H _ us Q I r ⟨a,vs,ks,rfl,hq,by rw[<-ek];exact e1,e2,fun zs ls rz pm sm nd p H' hp g' e'=>?_⟩
  have nd':ks.Nodup:=by
   rw[<-ek,e1]at nd
   exact(E_.mp nd).imp fun{a b} h z=>h (by rw[z])
  refine c _ _ _ (kt nd') ?_
  have es:ls=ng ks:=md ZS.rC pm sm
  rw[<-es]
  obtain⟨rp3,l3⟩:=fy rz rp.tail
  exact cY rp3 l3 hp g' e'
 exact MI g
end
section
variable{X:Cx}
theorem kB{acc:Array Mj}{lo:Int}{n:Nat}(h:P8 (fun(i:Nat) (v:Mj)=>∃ t:Tok,v=NR (lo + i * 1) t) acc n):Vals (((y_ n).map fun(i:Nat)=>lo + (i:Int)).map V.int) acc.toList:=by
 have gen:∀(m:Nat) (l:List Mj),l.length=m->(∀(j:Nat) (v:Mj),l[j]?=some v->∃ t:Tok,v=NR (lo + (j:Int)) t)->Vals (((y_ m).map fun(i:Nat)=>lo + (i:Int)).map V.int) l:=by
  intro m
  induction m with
  | zero=>intro l hl _;have:l=[]:=List.length_eq_zero_iff.mp hl;subst this;exact .nil
  | succ m ih=>
   intro l hl hv
   have hne:l≠[]:=by intro z;subst z;simp at hl
   obtain⟨l',v,rfl⟩:∃ l' v,l=l'++[v]:=⟨l.dropLast,l.getLast hne,(List.dropLast_concat_getLast hne).symm⟩
   have hl':l'.length=m:=by simpa using hl
   rw[IS,t_,t_]
   refine Vals.append (ih l' hl' fun j w e=>hv j w ?_) ?_
   ·rw[IQ (gV.mp e).1];exact e
   obtain⟨t,e⟩:=hv m v (by rw[H_ (by lia),hl',JA];rfl)
   exact .cons ⟨t,e⟩ .nil
 refine gen n _ (by rw[g_];exact h.1) fun j v e=>?_
 rw[e_]at e
 obtain⟨t,q⟩:=h.2 j v e
 exact⟨t,by rw[q,Iu]⟩
theorem iU{pins:List (Ml × Obj)}{σ:L2.St}{H:Hp}{s:Mm}{lo hi:Int}{t u v:Tok}{tk:Nat}{Q:VK}(I:Inv X pins σ H s)(hc:X.calm=true)(h1:-(2 ^ 62)<=lo)(h2:lo < 2 ^ 62)(h3:-(2 ^ 62)<=hi)(h4:hi < 2 ^ 62)(hz:(hi - lo).toNat<=2 ^ 24)
  (q:New (.lst (((y_ (hi - lo).toNat).map fun(i:Nat)=>lo + (i:Int)).map V.int)) H Q):Mr (Mw X.prog X.w) X.A (call (.type "list") [.ref s.heap.objs.size]) (EP X pins σ Q) X.xe { s with heap:=s.heap.push { cls:=.type "range",data:=.fields #[.int lo t,.int hi u,.int 1 v] },toks:=tk }:=by
 refine call_list_range (n:=(hi - lo).toNat) (I.ok.hd hc) (Ua ..) (small_one h1 h2 h3 h4) (rangeSize_nat _ _) hz fun h' tk' acc c hk e it=>?_
 have esz:(s.heap.push { cls:=.type "range",data:=.fields #[.int lo t,.int hi u,.int 1 v] }).objs.size=s.heap.objs.size + 1:=by simp[O4]
 dsimp only at hk e ⊢
 rw[esz]at e ⊢
 have hfr:H (s.heap.objs.size + 1)=none:=I.hok.fresh (Jv _)
 have rv:=kB it
 refine⟨.ref (s.heap.objs.size + 1),_,I.laid (t':=tk') (h':=h') (fun b o z=>hk b o (Mo _ z)) (Jv _) (show b9 X.prog X.w _ h' _ (.lst _)from⟨?_,acc.toList,c,rv,by simpa using e⟩),rfl,q _ _ hfr (bg hfr _) aE⟩
 rw[a_,a_,Iy,sizeLine_eq]
 exact hz
variable{e a b:MB}{fr:PFs}{p1 p2 pos1 pos2:Pos}
end
section
variable{b:Bool}{ts us:List T}{k:T->Prop}{i:Int}{t u:T}{env:Ev}{ke:T->Ev->Prop}
theorem ve(ts:List T)(n:Nat):ig ts (some (n:Int)) none=ts.drop n:=by
 unfold ig
 rw[HT.sQ,HT.pO]
 by_cases h:n<=ts.length
 ·rw[Kg h,Ie]
  rw[HL];lia
 rw[J_ (by lia),Lc (by lia),Lc (by lia),List.take_nil]
theorem vf(ts:List T)(n:Nat):ig ts none (some (n:Int))=ts.take n:=by
 unfold ig
 rw[HT.sQ,HT.pO,Jj,L8]
 by_cases h:n<=ts.length
 ·rw[Kg h]
 rw[J_ (by lia),Ie (by lia),Ie (by lia)]
theorem bq(lo:Int)(n:Nat):(eN lo n).length=n:=by rw[eN,a_,Iy]
theorem dh{lo:Int}{n i:Nat}{t:T}(h:(eN lo n)[i]?=some t):i < n:=by
 have:=(gV.mp h).1
 rwa[bq]at this
theorem jg{lo:Int}{n i:Nat}{t:T}(h:(eN lo n)[i]?=some t):t=.int (lo + (i:Int)):=by
 have hi:=dh h
 rw[eN,HM,Lp hi]at h
 cases h
 rfl
theorem aU{α:Type}{g:α->T}{l:List α}{i:Nat}{t:T}(h:(l.map g)[i]?=some t):∃ x,l[i]?=some x/\t=g x:=by
 rw[HM]at h
 cases e:l[i]? with
 | none=>rw[e]at h;cases h
 | some x=>rw[e]at h;cases h;exact⟨x,rfl,rfl⟩
end
def Fc(f g:PSt):PSt:=fun pe env=>∃ W:Ev->Prop,f { pe with nx:=W } env/\∀ e,W e->g pe e
theorem dk{X:Cx}{κ:Nat->Bool}{st:M3}{rest:List M3}{f g:PSt}(h1:GS κ X st f)(h2:GSs κ X rest g):GSs κ X (st::rest) (Fc f g):=by
 refine PSs.imp (aR h1 h2) ?_
 rintro D σ H ⟨env,Fr,pe,rs,⟨W,q,w⟩,c⟩
 refine⟨env,Fr,_,rs,q,⟨fun env' σ' H' q1 rs1 k1=>⟨env',Fr,pe,rs1,w _ q1,c.later k1⟩,c.rt,c.bk,c.ct⟩⟩
theorem ff{f g:PSt}{pe:PEn}{env:Ev}(W:Ev->Prop)(h1:f { pe with nx:=W } env)(h2:∀ e,W e->g pe e):Fc f g pe env:=⟨W,h1,h2⟩
end PL
namespace L2
open PySem PySem.Spec PyProof.Rows
section
variable{X:Cx}
theorem vI(hc:X.calm=true):bA X (.builtin "sum") (fun xs H Q=>∃(a:Ml) (ns:List Int),xs=[.ref a]/\SqL X.K H a (ns.map V.int)/\Q (.int ns.sum) H):=by
 intro pins s σ H xs us Q I r h
 obtain⟨a,ns,rfl,hq,q⟩:=h
 obtain⟨u,rfl,ru⟩:=vals1 r
 cases ru
 obtain⟨its,rv,p,z⟩:=I.list hq
 obtain⟨ps,e1,e2⟩:=bR rv
 subst e1
 have hl:s.heap.IsList a (M5 ps.toArray):=by
  have e:M5 ps.toArray=(ps.map fun p=>NR p.1 p.2).toArray:=by simp[M5]
  rw[e];exact p.isList
 have hlen:ps.length=ns.length:=by rw[<-e2];simp
 have k:∀ i,i<=ns.length->preSum (Oe ps.toArray) i=(ns.take i).sum:=fun i=>by
  induction i with
  | zero=>exact fun _=>rfl
  | succ i ih=>
   intro hi
   show preSum (Oe ps.toArray) i + Oe ps.toArray i=_
   rw[ih (by lia),bZ e2 hi,Im,d_ hi,List.sum_append_int]
   simp
 refine sum_intListG (I.ok.hd hc) hl fun h' tk t' hk=>?_
 rw[q_,hlen,k _ (f_ _),A']
 exact⟨.int _,H,I.kept (t':=tk) hk,⟨t',rfl⟩,q⟩
end
end L2
namespace PL
open PySem L2
def E7:P1s
 | [.lst _ ts],k=>got (intsOf ts) fun ns=>k (.int ns.sum)
 | _,_=>False
section
variable{X:Cx}
theorem vi(hc:X.calm=true):fB X (.builtin "sum") E7:=by
 rintro pins s σ H xs us Q I r ⟨ts,Γ,k,l,rp,g,c⟩
 unfold E7 at g
 split at g
 ·rename_i k o ts
  obtain⟨x,rfl⟩:=zz1 l rfl
  have rp:Rp X.K H ((.lst o ts,some x)::Γ):=rp
  obtain⟨a,vs,rfl,hq,l2,rp2⟩:=fD rp
  obtain⟨ns,en,kt⟩:=aI g
  have:=cf en
  subst this
  have:=cA l2 rp2
  subst this
  exact vI hc pins s σ H _ us Q I r ⟨a,ns,rfl,.inl hq,c _ _ _ kt (bO rp.tail fun _=>.int)⟩
 exact MI g
end
end PL
namespace ZT
open PySem
abbrev Up(l:List Nat):Prop:=l.Pairwise (· < ·)
theorem tO{l:List Nat}(h:Up l){i j:Nat}{x y:Nat}(hi:l[i]?=some x)(hj:l[j]?=some y)(hij:i < j):x < y:=by
 obtain⟨a,rfl⟩:=gV.mp hi
 obtain⟨b,rfl⟩:=gV.mp hj
 exact Ji.mp h i j a b hij
theorem n8{xs:Array Nat}{j:Nat}(hu:Up xs.toList):∀(f lo hi:Nat),lo<=hi->hi<=xs.size->hi - lo<=f->(∀ k x,k < lo->xs[k]?=some x->x < j)->(∀ k x,hi<=k->xs[k]?=some x->j<=x)->
  OR xs j f lo hi<=xs.size/\(∀ k x,k < OR xs j f lo hi->xs[k]?=some x->x < j)/\∀ k x,OR xs j f lo hi<=k->xs[k]?=some x->j<=x
 | 0,lo,hi,h1,h2,h3,a,b=>by
  have e:lo=hi:=by omega
  subst e
  exact⟨h2,a,b⟩
 | f + 1,lo,hi,h1,h2,h3,a,b=>by
  unfold OR
  by_cases hl:lo < hi
  ·rw[if_pos hl]
   have hm:(lo + hi) / 2 < xs.size:=by omega
   have e:xs.getD ((lo + hi) / 2) j=xs[(lo + hi) / 2]:=by rw[Jc,i_ hm];rfl
   have em:xs.toList[(lo + hi) / 2]?=some xs[(lo + hi) / 2]:=by rw[e_];exact i_ hm
   dsimp only
   rw[e]
   by_cases hx:xs[(lo + hi) / 2] < j
   ·rw[if_pos hx]
    refine n8 hu f _ _ (by omega) h2 (by omega) (fun k x hk ek=>?_) b
    by_cases hk2:k=(lo + hi) / 2
    ·subst hk2
     rw[i_ hm]at ek
     cases ek
     exact hx
    exact Ke (tO hu (by rw[e_];exact ek) em (by omega)) hx
   rw[if_neg hx]
   refine n8 hu f _ _ (by omega) (by omega) (by omega) a fun k x hk ek=>?_
   by_cases hk2:k=(lo + hi) / 2
   ·subst hk2
    rw[i_ hm]at ek
    cases ek
    exact Ia hx
   have:=tO hu em (by rw[e_];exact ek) (by omega)
   omega
  rw[if_neg hl]
  have e:lo=hi:=by omega
  subst e
  exact⟨h2,a,b⟩
theorem eX{xs:Array Nat}(j:Nat)(hu:Up xs.toList):MT xs j<=xs.size/\(∀ k x,k < MT xs j->xs[k]?=some x->x < j)/\∀ k x,MT xs j<=k->xs[k]?=some x->j<=x:=
 n8 hu _ _ _ (F' _) (f_ _) (by omega) (fun k x hk=>by omega) fun k x hk ek=>by rw[IJ hk]at ek;cases ek
theorem below_at{xs:Array Nat}(hu:Up xs.toList){i:Nat}{x:Nat}(hi:xs[i]?=some x):MT xs (x + 1)=i + 1:=by
 obtain⟨h1,h2,h3⟩:=eX (x + 1) hu
 have hlt:i < xs.size:=(JK.mp hi).1
 have a:i < MT xs (x + 1):=KY fun z=>by have:=h3 i x z hi;omega
 by_cases c:i + 1 < MT xs (x + 1)
 ·have hn:i + 1 < xs.size:=by omega
  have:=h2 (i + 1) _ c (i_ hn)
  have g:=tO hu (by rw[e_];exact hi) (by rw[e_];exact i_ hn) (Jm i)
  omega
 omega
theorem B2{xs:Array Nat}(hu:Up xs.toList):MT xs 0=0:=by
 obtain⟨h1,h2,h3⟩:=eX 0 hu
 refine Nat.eq_zero_of_not_pos fun z=>?_
 have hn:0 < xs.size:=by omega
 have:=h2 0 _ z (i_ hn)
 omega
theorem vE{xs:Array Nat}{j:Nat}(hu:Up xs.toList)(hj:xs[MT xs j]?≠some j):Up (UG xs (MT xs j) j).toList:=by
 obtain⟨h1,h2,h3⟩:=eX j hu
 rw[TQ]
 have sp:xs.toList=xs.toList.take (MT xs j)++xs.toList.drop (MT xs j):=(G' _ _).symm
 have hu':=hu
 rw[sp]at hu'
 obtain⟨p,q,r⟩:=C_.mp hu'
 have lt:∀ x∈xs.toList.take (MT xs j),x < j:=fun x hx=>by
  obtain⟨k,hk,e⟩:=HX.mp hx
  rw[D_]at hk
  rw[List.getElem_take]at e
  exact h2 k x (by omega) (by rw[<-e_,gV];exact⟨by omega,e⟩)
 have gt:∀ x∈xs.toList.drop (MT xs j),j < x:=fun x hx=>by
  obtain⟨k,hk,e⟩:=HX.mp hx
  rw[HL]at hk
  rw[List.getElem_drop]at e
  have e2:xs[MT xs j + k]?=some x:=by rw[<-e_,gV];exact⟨by omega,e⟩
  refine Jr (h3 _ x (by omega) e2) fun z=>?_
  subst z
  by_cases k0:k=0
  ·subst k0
   exact hj e2
  have hb:MT xs j < xs.size:=by rw[g_]at hk;omega
  have g:=tO hu (i:=MT xs j) (j:=MT xs j + k) (by rw[e_];exact i_ hb) (by rw[e_];exact e2) (by omega)
  have:=h3 _ _ (f_ _) (i_ hb)
  omega
 exact C_.mpr ⟨p,Ip.mpr ⟨gt,q⟩,fun a ha b hb=>by
  rcases o_.mp hb with e | hb
  ·rw[e]
   exact lt a ha
  exact r a ha b hb⟩
structure Gd (bt:Bool) (t:M_):Prop where
 up:Up t.place.toList
 no:t.dummies=#[]
 led:bt=false->t.led=true
theorem xr(bt:Bool)(f m:Nat):Gd bt (.fresh f m (!bt)):=⟨.nil,rfl,fun e=>by rw[e];rfl⟩
theorem fL{bt:Bool}{t:M_}(h:Gd bt t)(n:Nat):Gd bt (t.standIn n):=⟨by
 show Up (Array.range n).toList
 rw[Array.toList_range]
 exact J8,rfl,h.led⟩
theorem FG{bt:Bool}{t:M_}(h:Gd bt t)(n:Nat):Gd bt (t.orStandIn n):=by
 unfold UC
 split
 ·exact h
 exact fL h n
theorem zE(j:Nat):TR #[] j=false:=rfl
theorem qL{bt:Bool}{t:M_}(h:Gd bt t){j:Nat}(e:t.slot j=.empty):t.place[MT t.place j]?≠some j:=fun z=>by
 unfold SS at e
 dsimp only at e
 rw[z,if_pos (beq_self_eq_true _)]at e
 cases e
theorem iB{t:M_}(hd:t.dummies=#[]){H:Nat->Int}{h:Int}:∀(f:Nat) (p:UY) (j:Nat) (d:Option Nat),p.dummy=none->RC t H h f p=some (.empty j d)->t.slot j=.empty/\d=none
 | 0,p,j,d,_,e=>by cases e
 | f + 1,p,j,d,hp,e=>by
  unfold RC at e
  split at e
  ·rename_i z
   cases e
   exact⟨z,hp⟩
  ·rename_i z
   unfold SS at z
   dsimp only at z
   rw[hd,zE]at z
   split at z <;> first | cases z | (rename_i q;split at z <;> cases z)
  have ad:(t.advance p).dummy=none:=by unfold UO;split <;> exact hp
  split at e
  ·cases e
  exact iB hd f _ j d ad e
theorem Ej{bt:Bool}{t:M_}(h:Gd bt t){j:Nat}(e:t.slot j=.empty):Gd bt (t.put j).1:=by
 refine⟨vE h.up (qL h e),?_,h.led⟩
 show(if TR t.dummies j then _ else t.dummies)=#[]
 rw[h.no]
 rfl
theorem EF{bt:Bool}{t:M_}(h:Gd bt t)(es:Array (Int × Mj))(k:Int)(x:Mj):Gd bt (layNew t es k x).2.1:=by
 unfold layNew
 split
 ·rename_i slot wd e
  have hs:t.slot slot=.empty:=by
   unfold UH at e
   split at e
   ·rename_i j d q
    cases e
    obtain⟨a,b⟩:=iB h.no _ _ _ _ rfl q
    rw[b]
    exact a
   cases e
  exact FG (Ej h hs) _
 exact fL h _
theorem xt{bt:Bool}{t:M_}(h:Gd bt t)(es:Array (Int × Mj))(n:Nat):Gd bt (Qg t es n).2.1:=by
 unfold Qg
 split
 ·rename_i t' order e
  dsimp only
  split
  ·unfold UU U0 at e
   cases q:UI (Rn n - 1) (es.map fun x=>x.1)with
   | none=>rw[q]at e;cases e
   | some ow=>
    rw[q]at e
    cases e
    refine⟨?_,rfl,h.led⟩
    show List.Pairwise (fun x y=>x < y) (Ib (fun x=>x.1) (List.filterMap (fun j=>(ow.getD j none).map fun y=>(j,y)) (y_ (Rn n - 1 + 1))))
    rw[E_,List.pairwise_filterMap]
    refine LG (fun{a b} hab c hc d hd=>?_) J8
    obtain⟨_,_,ec⟩:=J7.mp hc
    obtain⟨_,_,ed⟩:=J7.mp hd
    rw[<-ec,<-ed]
    exact hab
  exact fL h _
 exact fL h _
open PySem PyProof.Rows
section
variable{prog:MA}{w:MC}{A:MJ}{E:Mj->Mm->Prop}{s:Mm}
abbrev bt(w:MC):Bool:=w.params.followText "set-order"
structure SI (prog:MA) (w:MC) (o:Obj) (ks:List Int) (es:Array (Int × Mj)) (ep:Nat) (t:M_):Prop where
 ex:o.ExactSet
 dat:o.data=.set es ep t
 el:ElemsOf (Og prog w) es.toList
 rd:Nr (es.toList.map (·.2)) ks
 nd:ks.Nodup
 sm:es.size < scanBound
 ft:t.fits es.size=true
 gd:Gd (bt w) t
noncomputable def SG(prog:MA)(w:MC)(h:MD)(a:Ml)(S:Int->Prop)(n:Nat):Prop:=∃ o ks es ep t,h.get? a=some o/\SI prog w o ks es ep t/\(∀ z,z∈ks↔S z)/\ks.length<=n
theorem fW:∀ {vs:List Mj} {ns:List Int},Nr vs ns->vs.length=ns.length
 | _,_,.nil=>rfl
 | _,_,.cons n t h=>by rw[k_,k_,fW h]
theorem Cq{k i:Int}{t:Tok}:(Og prog w).is k (.int i t)=decide (k=i):=KeyKind.is_eq_decide (Q1 prog w i t) k
theorem k9:∀ {es:List (Int × Mj)} {ks:List Int},Nr (es.map (·.2)) ks->∀ k,k∈ks↔∃ e∈es,(Og prog w).is k e.2=true
 | [],_,.nil,k=>⟨fun h=>(nomatch h),fun⟨e,h,_⟩=>(nomatch h)⟩
 | (h0,_)::es,_,.cons n t h,k=>by
  rw[o_,k9 h k]
  constructor
  ·rintro(rfl | ⟨e,m,q⟩)
   ·exact⟨_,.head _,Q1 _ _ _ _⟩
   exact⟨e,.tail _ m,q⟩
  rintro⟨e,m,q⟩
  rcases o_.mp m with rfl | m
  ·exact .inl (of_decide_eq_true (by rw[<-Cq (prog:=prog) (w:=w) (t:=t)];exact q))
  exact .inr ⟨e,m,q⟩
theorem eD:∀ {us vs:List Mj},us.Perm vs->∀ {ns:List Int},Nr us ns->∃ ms,Nr vs ms/\ns.Perm ms:=by
 intro us vs p
 induction p with
 | nil=>exact fun h=>⟨_,h,.refl _⟩
 | cons x p ih=>
  intro ns h
  cases h with
  | cons n t h=>
   obtain⟨ms,a,b⟩:=ih h
   exact⟨n::ms,.cons n t a,.cons n b⟩
 | swap x y l=>
  intro ns h
  cases h with
  | cons n t h=>
   cases h with
   | cons m u h=>exact⟨_,.cons m u (.cons n t h),.swap _ _ _⟩
 | trans p q ih jh=>
  intro ns h
  obtain⟨ms,a,b⟩:=ih h
  obtain⟨ls,c,d⟩:=jh a
  exact⟨ls,c,b.trans d⟩
theorem uG{vs:List Mj}{ns:List Int}{n:Int}{t:Tok}(h:Nr vs ns):Nr (vs++[.int n t]) (ns++[n]):=by
 induction h with
 | nil=>exact .cons n t .nil
 | cons m u h ih=>exact .cons m u ih
theorem stored{h:MD}{a:Ml}{o:Obj}{es:Array (Int × Mj)}{ep:Nat}{t:M_}{es':Array (Int × Mj)}{t':M_}(ho:h.get? a=some o)(hd:o.data=.set es ep t) :
  (h.update a (R_ es' t')).get? a=some { o with data:=.set es' (ep + 1) t' }:=by
 have e:=M6 (R_ es' t') ho (by rw[putSet_of es' t' hd];rfl)
 rw[putSet_of es' t' hd]at e
 exact e
theorem nY{g:Bool->Sem Unit}(hg:∀(b:Bool) (s₁:Mm) (Q':Unit->Mm->Prop),Q' () s₁->Mr (Mw prog w) A (g b) Q' E s₁)
  {a:Ml} {o:Obj} {es es1:Array (Int × Mj)} {ep:Nat} {t t2:M_} {ks:List Int} (ho:s.heap.get? a=some o) (hd:o.data=.set es ep t)
  (hI:SI prog w { o with data:=.set es1 (ep + 1) t2 } ks es1 (ep + 1) t2) {wd:Bool} {R:Option Bool->Mm->Prop}
  (h:∀ h' o' es' ep' t' ks',Na a s.heap h'->h'.get? a=some o'->SI prog w o' ks' es' ep' t'->ks'.Perm ks->R (some true) { s with heap:=h' }) :
  Mr (Mw prog w) A (storeSet a es1 t2 >>= fun _=>if(!wd && t2.tooFull)=true then g (Qg t2 es1 (N5 es1.size)).2.2 >>= fun _=>storeSet a (Qg t2 es1 (N5 es1.size)).1 (Qg t2 es1 (N5 es1.size)).2.1 >>= fun _=>pure (some true)else pure (some true)) R E s:=by
 refine Mi (RD ho hd ?_ (Oq hI.sm))
 have e1:=stored (es':=es1) (t':=t2) ho hd
 have b1:=M0 s.heap a (R_ es1 t2)
 split
 ·have hp:=relayAll_perm t2 es1 (N5 es1.size)
  have hf:=relayAll_fits t2 es1 (N5 es1.size)
  have hG:=xt hI.gd es1 (N5 es1.size)
  generalize Qg t2 es1 (N5 es1.size)=Rl at hp hf hG ⊢
  obtain⟨es2,t3,gave⟩:=Rl
  dsimp only at hp hf hG ⊢
  have sz:es2.size=es1.size:=by rw[<-g_,hp.length_eq,g_]
  have sm2:es2.size < scanBound:=by rw[sz];exact hI.sm
  obtain⟨ks2,rd2,kp⟩:=eD (hp.symm.map (·.2)) hI.rd
  refine Mi (hg _ _ _ (Mi (RD e1 rfl ?_ (Oq sm2))))
  have e2:=stored (es':=es2) (t':=t3) e1 rfl
  exact Mn (h _ _ es2 _ t3 ks2 (b1.trans (M0 _ a _)) e2 ⟨hI.ex,rfl,hI.el.perm hp,rd2,kp.nodup_iff.mp hI.nd,sm2,hf,hG⟩ kp.symm)
 exact Mn (h _ _ es1 _ t2 ks b1 e1 hI (.refl _))
theorem add_int{a:Ml}{S:Int->Prop}{m:Nat}{n:Int}{tk:Tok}{Q:Bool->Mm->Prop}(hS:SG prog w s.heap a S m)(hm:m + 1 < scanBound)
  (h:∀ b h',Na a s.heap h'->SG prog w h' a (fun z=>S z\/z=n) (m + 1)->Q b { s with heap:=h' }) :
  Mr (Mw prog w) A (TU a (.int n tk) ((Og prog w).hash n)) Q E s:=by
 obtain⟨o,ks,es,ep,t,ho,I,mem,kl⟩:=hS
 have kn:es.size=ks.length:=by rw[<-fW I.rd,a_,g_]
 have hk:=Q1 prog w n tk
 unfold TU setAddHashedIn
 refine MM (Mi (N0 ho I.dat I.ft ?_))
 dsimp only
 rw[byScan_of rfl I.sm I.el,if_pos rfl]
 unfold setAddByScan
 refine Mi (Mi (NQ (Mi (wpAny_setScan_of hk ho I.dat I.ft I.el ?_))))
 cases hr:List.findIdx? (fun e=>(Og prog w).is n e.2) es.toList with
 | some j=>
  dsimp only
  obtain⟨hj,pj,_⟩:=List.findIdx?_eq_some_iff_getElem.mp hr
  have hn:n∈ks:=(k9 (prog:=prog) (w:=w) I.rd n).mpr ⟨_,IC hj,pj⟩
  refine Mn (Mn ?_)
  exact h _ s.heap (UJ a s.heap) ⟨o,ks,es,ep,t,ho,I,fun z=>by rw[mem z];exact⟨.inl,fun q=>q.elim id fun e=>by rw[e];exact(mem n).mp hn⟩,by omega⟩
 | none=>
  dsimp only
  have hn:n ∉ ks:=fun z=>by
   obtain⟨e,me,q⟩:=(k9 (prog:=prog) (w:=w) I.rd n).mp z
   have:=List.findIdx?_eq_none_iff.mp hr e me
   rw[q]at this
   cases this
  have pm:=layNew_perm t es ((Og prog w).hash n) (.int n tk)
  have ft:=layNew_fits t es ((Og prog w).hash n) (.int n tk)
  have gd:=EF I.gd es ((Og prog w).hash n) (.int n tk)
  generalize layNew t es ((Og prog w).hash n) (.int n tk)=L at pm ft gd ⊢
  obtain⟨es1,t1,wd,gave⟩:=L
  dsimp only at pm ft gd ⊢
  rw[IU]at pm
  have s1:es1.size=es.size + 1:=by rw[<-g_,pm.length_eq,f',g_];rfl
  have el1:ElemsOf (Og prog w) es1.toList:=(I.el.push hk rfl).perm pm
  have rdp:Nr (Ib (·.2) (es.toList++[((Og prog w).hash n,NR n tk)])) (ks++[n]):=by rw[t_];exact uG I.rd
  obtain⟨ks1,rd1,kp⟩:=eD (pm.symm.map (·.2)) rdp
  have nd1:ks1.Nodup:=kp.nodup_iff.mp (IW.mpr ⟨I.nd,G_.mpr ⟨(nomatch ·),IZ⟩,fun x hx y hy e=>by rw[p_.mp hy]at e;exact hn (e ▸ hx)⟩)
  have fin:∀ h' o' es' ep' t' ks',Na a s.heap h'->h'.get? a=some o'->SI prog w o' ks' es' ep' t'->ks'.Perm ks1->Q true { s with heap:=h' }:=fun h' o' es' ep' t' ks' b g I' p=>by
   refine h _ h' b ⟨o',ks',es',ep',t',g,I',fun z=>?_,?_⟩
   ·rw[p.mem_iff,<-kp.mem_iff,z_,mem z,p_]
   rw[p.length_eq,<-kp.length_eq,f']
   exact LL kl
  have gw:∀(b:Bool) (s₁:Mm) (Q':Unit->Mm->Prop),Q' () s₁->Mr (Mw prog w) A (match b with | true=>rule "set.scan.the-table-gave-way" | false=>pure ()) Q' E s₁:=fun b s₁ Q' q=>by cases b <;> first | exact Mn q | exact NQ q
  refine Mi (?_:Mr _ _ (match gave with | true=>_ | false=>_) _ _ _)
  have sm1:es1.size < scanBound:=by omega
  refine gw gave s _ ?_
  split
  ·refine Mi ?_
   rw[hashByValue_scannable 8 (x:=.int n tk) rfl]
   refine Mn ?_
   refine nY (ks:=ks1) gw ho I.dat ⟨I.ex,rfl,el1,rd1,nd1,sm1,?_,?_⟩ fun h' o' es' ep' t' ks' b g I' p=>Mn (fin h' o' es' ep' t' ks' b g I' p)
   ·exact ft
   exact gd
  refine Mi (Mn ?_)
  rw[if_pos rfl]
  exact nY (ks:=ks1) gw ho I.dat ⟨I.ex,rfl,el1,rd1,nd1,sm1,ft,gd⟩ fun h' o' es' ep' t' ks' b g I' p=>Mn (fin h' o' es' ep' t' ks' b g I' p)
end
open PySem PyProof.Rows
theorem AG:TV table "set.__iter__"=some Nu.«frozenset.__iter__»:=Sw (id':="frozenset.__iter__") (by kernel_rfl) rfl (by decide +kernel) (by kernel_rfl)
theorem cQ:TC "set_iterator" "__next__" "set_iterator.__next__":=
 .of (owner:="set_iterator") (n:="__next__") (by rw[R',QO];kernel_rfl) (by decide +kernel) (by decide +kernel) (by decide +kernel) (by first | exact .inl (by decide +kernel) | exact .inr (by decide +kernel)) (by rw[QP];kernel_rfl)
theorem uz:TC "set_iterator" "__iter__" "set_iterator.__iter__":=
 .of (owner:="set_iterator") (n:="__iter__") (by rw[R',QO];kernel_rfl) (by decide +kernel) (by decide +kernel) (by decide +kernel) (by first | exact .inl (by decide +kernel) | exact .inr (by decide +kernel)) (by rw[QP];kernel_rfl)
theorem B5:TV table "set_iterator.__iter__"=some Nu.«dict_keyiterator.__iter__»:=Sw (id':="dict_keyiterator.__iter__") (by kernel_rfl) rfl (by decide +kernel) (by kernel_rfl)
theorem tL:TV table "set_iterator.__next__"=some Nu.«set_iterator.__next__»:=entryFor_of_tree (by kernel_rfl)
theorem BC:UW.lookup (String.ofList ['r','o','t','a','r','e','t','i','_','t','e','s'].reverse)=some Te:=by kernel_rfl
theorem sI(a:Mj):TY "set_iterator.__next__" ⟨[a],[]⟩:=by
 unfold TY;rw[SU (id:="set_iterator.__next__") (n:=['_','_','t','x','e','n','_','_']) (o:=['r','o','t','a','r','e','t','i','_','t','e','s']) (by kernel_rfl) BC];kernel_rfl
theorem Ae(a:Mj):TY "set_iterator.__iter__" ⟨[a],[]⟩:=by
 unfold TY;rw[SU (id:="set_iterator.__iter__") (n:=['_','_','r','e','t','i','_','_']) (o:=['r','o','t','a','r','e','t','i','_','t','e','s']) (by kernel_rfl) BC];kernel_rfl
theorem nF{α:Type}:∀ {l:List α} {i:Nat} (h:i < l.length),(l[i]::l.eraseIdx i).Perm l
 | x::l,0,_=>.refl _
 | x::l,i + 1,h=>by
  have g:i < l.length:=Nat.lt_of_succ_lt_succ h
  show(l[i]::x::l.eraseIdx i).Perm (x::l)
  exact(I_ ..).trans (.cons x (nF g))
theorem lN{α:Type}{next:Nat->Nat}:∀(f k:Nat) (l:List α) (out:Array α),l.length=f->(TZ next f k l out).toList.Perm (out.toList++l)
 | 0,k,l,out,h=>by
  rw[HQ h,Iz]
  exact .refl _
 | f + 1,k,l,out,h=>by
  unfold TZ
  have lt:next k % l.length < l.length:=Mh _ (by omega)
  rw[d_ lt]
  refine(lN f _ _ _ (by rw[KN lt];omega)).trans ?_
  rw[IU,l_]
  refine Ih _ ?_
  exact nF lt
section
variable{prog:MA}{w:MC}{A:MJ}{E:Mj->Mm->Prop}{s:Mm}
theorem wp_choose{src:Source}{n:Nat}{Q:Nat->Mm->Prop}(hn:n≠0)(h:∀ i d,i < n->Q i { s with drawn:=d }):Mr (Mw prog w) A (choose src n) Q E s:=
 fun _ _ _=>⟨hn,h _ _ (Mh _ (ID hn))⟩
theorem rV{α:Type}:∀(n:Nat) (xs:List α) {s:Mm} {Q:List α->Mm->Prop},xs.length=n->(∀ ys d,ys.Perm xs->Q ys { s with drawn:=d })->Mr (Mw prog w) A (drawOrder n xs) Q E s
 | 0,xs,s,Q,hl,h=>by
  rw[HQ hl]at h ⊢
  exact Mn (h [] s.drawn (.refl _))
 | n + 1,[],s,Q,hl,h=>by cases hl
 | n + 1,x::xs,s,Q,hl,h=>by
  unfold drawOrder
  refine Mi (wp_choose (by simp) fun i d hi=>?_)
  rw[d_ hi]
  dsimp only
  refine Mi (rV n _ (by rw[KN hi,hl];rfl) fun ys d' p=>Mn (h _ d' ?_))
  exact(Kv _ p).trans (nF hi)
noncomputable def Itr(h:MD)(it:Ml)(first:Mj)(i:Nat)(a:Ml)(n ep:Nat):Prop:=∃ o,h.get? it=some o/\o.cls=.type "set_iterator"/\o.data=.fields #[first,.int i 0,.ref a,.int n 0,.int ep 0]
theorem Itr.ty {it a:Ml}{f:Mj}{i n ep:Nat}(x:Itr s.heap it f i a n ep):s.TypeIs (.ref it) "set_iterator":=let ⟨o,ho,hc,_⟩:=x;⟨o,ho,hc⟩
theorem Itr.at {h h':MD}{it a:Ml}{f:Mj}{i n ep:Nat}(x:Itr h it f i a n ep)(e:∀ o,h.get? it=some o->h'.get? it=some o):Itr h' it f i a n ep:=let ⟨o,ho,r⟩:=x;⟨o,e _ ho,r⟩
theorem tI{it a:Ml}{f:Mj}{i n ep:Nat}{Q:Mj->Mm->Prop}(x:Itr s.heap it f i a n ep)(h:Q (.ref it) s):Mr (Mw prog w) A (Pu (.ref it)) Q E s:=by
 refine PY x.ty uz (MX uz x.ty B5 ?_ (Ae _))
 show Mr _ _ (ret (.ref it)) _ _ s
 exact Mn ⟨_,rfl,"set_iterator",_,x.ty,cQ.lookup,h⟩
noncomputable def Nx(prog:MA)(w:MC)(a:Ml)(o:Obj)(ep:Nat)(vs:List Mj)(sl:Nat->Nat):Prop:=∀(A:MJ) (E:Mj->Mm->Prop) (s:Mm) (i:Nat) (Q:Option (Mj × Nat)->Mm->Prop),s.heap.get? a=some o->i<=vs.length->Q (vs[i]?.map fun v=>(v,sl (i + 1))) s->Mr (Mw prog w) A (Sx a (sl i) i ep) Q E s
theorem t9{it a:Ml}{o:Obj}{es:Array (Int × Mj)}{ep:Nat}{t:M_}{i:Nat}{sl:Nat->Nat}{Q:Option Mj->Mm->Prop}(x:Itr s.heap it (.int (sl i) 0) i a es.size ep)(ho:s.heap.get? a=some o)(hd:o.data=.set es ep t)(hf:t.fits es.size=true){vs:List Mj}(N:Nx prog w a o ep vs sl)(hi:i<=vs.length)(hh:A.handled=none)
  (h1:∀ v h',vs[i]?=some v->Itr h' it (.int (sl (i + 1)) 0) (i + 1) a es.size ep->Na it s.heap h'->Q (some v) { s with heap:=h' }) (h2:∀ h',vs[i]?=none->OC it s.heap h'->Q none { s with heap:=h' }):Mr (Mw prog w) A (NZ (.ref it)) Q E s:=by
 obtain⟨oi,hoi,hc,hdi⟩:=id x
 unfold NZ
 refine Mi (NC (MZ (name:=Nf "__next__") x.ty cQ (MX cQ x.ty tL ?_ (sI _))))
 unfold Nu.«set_iterator.__next__»
 refine Mi (Mn (Mi (Pm hoi hdi ?_)))
 show Mr _ _ (setEntries a >>= _) _ _ s
 refine Mi (Pf ho hd hf ?_)
 rw[if_neg (show ¬ _ by simp)]
 show Mr _ _ (Sx a _ _ _ >>= _) _ _ s
 refine Mi ?_
 rw[Ii,Ii,Ii]
 refine N _ _ _ i _ ho hi ?_
 cases e:vs[i]? with
 | some v=>
  dsimp only[JJ]
  refine Mi (Nt hoi hdi (by simp) ?_)
  have e1:=M6 (Oy (·.setIfInBounds 0 (Nm (sl (i + 1))))) hoi (NG (MU hdi _))
  refine Mi (Nt e1 (MU hdi _) (by simp) ?_)
  have e2:=M6 (Oy (·.setIfInBounds 1 (Nm ((i:Int) + 1)))) e1 (NG (MU (MU hdi _) _))
  refine Mn ⟨_,rfl,Mn (h1 v _ e ⟨_,e2,((Oo ..).trans (Oo ..)).trans hc,?_⟩ ((M0 ..).trans (M0 ..)))⟩
  rw[MU (MU hdi _)]
  simp[Nm]
 | none=>
  dsimp only[JJ]
  refine Mi (Nt hoi hdi (by simp) (show Mr _ _ (Qb (.type "StopIteration") [] >>= _) _ _ _ from Mi ?_))
  simp only[Qb,RL]
  refine Mi (ML (Mi (m:=NO _ _) (OD (a:=MV) (by first | rfl | (simp only[NO];rfl)) (ML ?_ (by size_fits)))) (by size_fits))
  simp only[RM]
  refine Mi (PQ ?_)
  rw[show A.in1.handled=none from hh]
  refine Mi (Mn (Qx ?_))
  refine Mi (Ov (T:="StopIteration") (b:=true) (by exact⟨_,Mt _ rfl,rfl⟩) Pl (Mn ?_))
  exact h2 _ e (((M0 ..).extBut.push _).push _)
theorem yE{it a:Ml}(hne:a≠it){o:Obj}{es:Array (Int × Mj)}{ep:Nat}{t:M_}{sl:Nat->Nat}(hd:o.data=.set es ep t)(hf:t.fits es.size=true){vs:List Mj}(N:Nx prog w a o ep vs sl)(hh:A.handled=none) :
  Uq prog w A it [it,a] [it] vs.length (fun i v=>vs[i]?=some v) (fun i h=>i<=vs.length/\Itr h it (.int (sl i) 0) i a es.size ep/\h.get? a=some o) where
 sub:=fun b hb=>by simp at hb;simp[hb]
 frame:=fun _ _ _ st hk=>⟨st.1,st.2.1.at fun o e=>hk it (by simp) o e,hk a (by simp) o st.2.2⟩
 item:=fun i s Q E hi st hQ=>t9 st.2.1 st.2.2 hd hf N st.1 hh (fun v h' e x sb=>hQ v h' s.toks e ⟨hi,x,sb.extBut a o hne st.2.2⟩ fun b o hb e=>sb.extBut b o (fun z=>hb (by simp[z])) e) fun h' e=>by rw[d_ hi]at e;cases e
 done:=fun s Q E st hQ=>t9 st.2.1 st.2.2 hd hf N st.1 hh (fun v h' e=>by rw[JD (f_ _)]at e;cases e) fun h' _ eb=>hQ h' s.toks fun b o hb e=>eb b o (fun z=>hb (by simp[z])) e
 self:=fun _ _ _ _ st hQ=>tI st.2.1 hQ
end
open PySem PyProof.Rows
section
variable{prog:MA}{w:MC}{A:MJ}{E:Mj->Mm->Prop}{s:Mm}
theorem wp_text{Q:Bool->Mm->Prop}(h:Q (bt w) s):Mr (Mw prog w) A setsByText Q E s:=Mi (Qh (Mn h))
theorem zb{es:Array (Int × Mj)}{i:Nat}:(es.toList.map (·.2))[i]?=es[i]?.map (·.2):=by rw[HM,e_]
theorem Ah{a:Ml}{o:Obj}{ks:List Int}{es:Array (Int × Mj)}{ep:Nat}{t:M_}(I:SI prog w o ks es ep t)(hb:bt w=true) :
  Nx prog w a o ep ((pickOrder (w.params.setOrder a ep) es).toList.map (·.2)) (fun _=>0):=by
 intro A E s i Q ho hi h
 unfold Sx
 refine Mi (N0 ho I.dat I.ft (Mi (wp_text ?_)))
 rw[hb,if_pos rfl]
 dsimp only
 rw[if_neg (by simp)]
 refine Mi ?_
 unfold setWalk
 refine Mi (N0 ho I.dat I.ft (Mi (wp_text ?_)))
 rw[hb,if_pos rfl]
 refine Mi (Qh (Mn (Mn ?_)))
 rw[zb,Option.map_map]at h
 exact h
def slP(t:M_):Nat->Nat
 | 0=>0
 | i + 1=>t.place.getD i 0 + 1
theorem yj{a:Ml}{o:Obj}{ks:List Int}{es:Array (Int × Mj)}{ep:Nat}{t:M_}(I:SI prog w o ks es ep t)(hb:bt w=false)(hdr:(!t.plain && decide (es.size > 1))=false) :
  Nx prog w a o ep (es.toList.map (·.2)) (slP t):=by
 intro A E s i Q ho hi h
 have hz:t.place.size=es.size:=by have:=I.ft;unfold U1 at this;simp at this;exact this.1
 unfold Sx
 refine Mi (N0 ho I.dat I.ft (Mi (wp_text ?_)))
 rw[hb,if_neg (by simp)]
 dsimp only
 refine Ol (fun z=>absurd (show(!t.plain && decide (es.size > 1))=true from z) (by rw[hdr];simp)) fun _=>Mi ?_
 show Mr _ _ (if(!t.led && !es.isEmpty)=true then _ else _) _ _ _
 rw[I.gd.led hb,if_neg (by simp)]
 refine Mn ?_
 have eb:MT t.place (slP t i)=i:=by
  match i,hi with
  | 0,_=>exact B2 I.gd.up
  | i + 1,hi=>
   have hi:i < t.place.size:=by rw[a_,g_]at hi;omega
   have e:t.place[i]?=some (t.place.getD i 0):=by rw[i_ hi,Jc,i_ hi];rfl
   exact below_at I.gd.up e
 rw[eb]
 refine Mn ?_
 rw[zb]at h
 by_cases c:i < es.size
 ·rw[i_ c,i_ (show i < t.place.size by omega)]
  rw[i_ c]at h
  have e:slP t (i + 1)=t.place[i] + 1:=by show t.place.getD i 0 + 1=_;rw[Jc,i_ (by omega)];rfl
  dsimp only[JJ]at h
  rw[e]at h
  exact h
 rw[IJ (by omega)]
 rw[IJ (by omega)]at h
 exact h
theorem uj{it a tp:Ml}{o ot:Obj}{es:Array (Int × Mj)}{ep:Nat}{t:M_}{i:Nat}{ps:List Nat}{c:Nat}{Q:Option Mj->Mm->Prop}(x:Itr s.heap it (.ref tp) i a es.size ep)(ho:s.heap.get? a=some o)(hd:o.data=.set es ep t)(hf:t.fits es.size=true)(hot:s.heap.get? tp=some ot)(hdt:ot.data=.seq (ps.map fun(j:Nat)=>Nm j).toArray c)(hps:∀ p∈ps,p < es.size)(hh:A.handled=none)
  (h1:∀ p v h',ps[i]?=some p->(es[p]?.map (·.2))=some v->Itr h' it (.ref tp) (i + 1) a es.size ep->Na it s.heap h'->Q (some v) { s with heap:=h' }) (h2:∀ h',ps[i]?=none->OC it s.heap h'->Q none { s with heap:=h' }):Mr (Mw prog w) A (NZ (.ref it)) Q E s:=by
 obtain⟨oi,hoi,hc,hdi⟩:=id x
 unfold NZ
 refine Mi (NC (MZ (name:=Nf "__next__") x.ty cQ (MX cQ x.ty tL ?_ (sI _))))
 unfold Nu.«set_iterator.__next__»
 refine Mi (Mn (Mi (Pm hoi hdi ?_)))
 show Mr _ _ (setEntries a >>= _) _ _ s
 refine Mi (Pf ho hd hf ?_)
 rw[if_neg (show ¬ _ by simp)]
 show Mr _ _ (Rj (.ref tp) >>= _) _ _ s
 unfold Rj
 refine Mi (Mi (QS hot ?_))
 rw[hdt]
 refine Mn ?_
 dsimp only
 rw[Ii,Ii]
 have ea:((ps.map fun(j:Nat)=>Nm j).toArray)[i]?=ps[i]?.map fun(j:Nat)=>Nm j:=by rw[List.getElem?_toArray,HM]
 rw[ea]
 cases e:ps[i]? with
 | some p=>
  have hp:=hps p (HW e)
  dsimp only[JJ,Nm]
  unfold setNextDrawn
  refine Mi (Mi (N0 ho hd hf ?_))
  dsimp only
  rw[if_neg (by simp),Ii,i_ hp]
  refine Mn (Mi (Nt hoi hdi (by simp) ?_))
  have e1:=M6 (Oy (·.setIfInBounds 1 (Nm ((i:Int) + 1)))) hoi (NG (MU hdi _))
  refine Mn ⟨_,rfl,Mn (h1 p _ _ e (by rw[i_ hp];rfl) ⟨_,e1,(Oo ..).trans hc,?_⟩ (M0 ..))⟩
  rw[MU hdi _]
  simp[Nm]
 | none=>
  dsimp only[JJ]
  refine Mi (Nt hoi hdi (by simp) ?_)
  have e1:=M6 (Oy (·.setIfInBounds 0 (Nm 0))) hoi (NG (MU hdi _))
  refine Mi (Nt e1 (MU hdi _) (by simp) (show Mr _ _ (Qb (.type "StopIteration") [] >>= _) _ _ _ from Mi ?_))
  simp only[Qb,RL]
  refine Mi (ML (Mi (m:=NO _ _) (OD (a:=MV) (by first | rfl | (simp only[NO];rfl)) (ML ?_ (by size_fits)))) (by size_fits))
  simp only[RM]
  refine Mi (PQ ?_)
  rw[show A.in1.handled=none from hh]
  refine Mi (Mn (Qx ?_))
  refine Mi (Ov (T:="StopIteration") (b:=true) (by exact⟨_,Mt _ rfl,rfl⟩) Pl (Mn ?_))
  exact h2 _ e ((((M0 ..).trans (M0 ..)).extBut.push _).push _)
theorem wy{it a tp:Ml}(hne:a≠it)(hnt:tp≠it){o ot:Obj}{es:Array (Int × Mj)}{ep:Nat}{t:M_}{ps:List Nat}{c:Nat}(hd:o.data=.set es ep t)(hf:t.fits es.size=true)(hdt:ot.data=.seq (ps.map fun(j:Nat)=>Nm j).toArray c)(hps:∀ p∈ps,p < es.size)(hh:A.handled=none) :
  Uq prog w A it [it,a,tp] [it] ps.length (fun i v=>∃ p,ps[i]?=some p/\es[p]?.map (·.2)=some v) (fun i h=>Itr h it (.ref tp) i a es.size ep/\h.get? a=some o/\h.get? tp=some ot) where
 sub:=fun b hb=>by simp at hb;simp[hb]
 frame:=fun _ _ _ st hk=>⟨st.1.at fun o e=>hk it (by simp) o e,hk a (by simp) o st.2.1,hk tp (by simp) ot st.2.2⟩
 item:=fun i s Q E hi st hQ=>uj st.1 st.2.1 hd hf st.2.2 hdt hps hh (fun p v h' e1 e2 x sb=>hQ v h' s.toks ⟨p,e1,e2⟩ ⟨x,sb.extBut a o hne st.2.1,sb.extBut tp ot hnt st.2.2⟩ fun b o hb e=>sb.extBut b o (fun z=>hb (by simp[z])) e) fun h' e=>by rw[d_ hi]at e;cases e
 done:=fun s Q E st hQ=>uj st.1 st.2.1 hd hf st.2.2 hdt hps hh (fun p v h' e=>by rw[JD (f_ _)]at e;cases e) fun h' _ eb=>hQ h' s.toks fun b o hb e=>eb b o (fun z=>hb (by simp[z])) e
 self:=fun _ _ _ _ st hQ=>tI st.1 hQ
end
open PySem PyProof.Rows
section
variable{prog:MA}{w:MC}{A:MJ}{E:Mj->Mm->Prop}{s:Mm}
theorem xZ{vs:List Mj}{acc:Array Mj}(h:P8 (fun i v=>vs[i]?=some v) acc vs.length):acc.toList=vs:=by
 refine LD fun j=>?_
 rw[e_]
 by_cases hj:j < vs.length
 ·have hja:j < acc.size:=by rw[h.1];exact hj
  have e:=i_ hja
  rw[e]
  exact(h.2 j _ e).symm
 rw[IJ (by rw[h.1];omega),JD (by omega)]
theorem wc{es:Array (Int × Mj)}{ps:List Nat}(hp:ps.Perm (y_ es.size)){acc:Array Mj}(h:P8 (fun i v=>∃ p,ps[i]?=some p/\es[p]?.map (·.2)=some v) acc ps.length):acc.toList.Perm (es.toList.map (·.2)):=by
 have e:acc.toList=ps.filterMap fun p=>es[p]?.map fun(x:Int × Mj)=>x.2:=by
  have g:∀(qs:List Nat) (vs:List Mj),vs.length=qs.length->(∀(j:Nat) v,vs[j]?=some v->∃ p:Nat,qs[j]?=some p/\es[p]?.map (fun(x:Int × Mj)=>x.2)=some v)->vs=qs.filterMap fun p=>es[p]?.map fun(x:Int × Mj)=>x.2:=by
   intro qs
   induction qs with
   | nil=>exact fun vs l _=>HQ l
   | cons q qs ih=>
    intro vs l k
    match vs,l,k with
    | v::vs,l,k=>
     obtain⟨p,e1,e2⟩:=k 0 v rfl
     cases e1
     rw[List.filterMap_cons_some (f:=fun p=>JJ (fun(x:Int × Mj)=>x.2) es[p]?) e2,<-ih vs (JC l) fun j v e=>k (j + 1) v e]
  exact g ps acc.toList (by rw[g_];exact h.1) fun j v e=>h.2 j v (by rw[<-e_];exact e)
 rw[e]
 refine(hp.filterMap _).trans ?_
 have e2:(y_ es.size).filterMap (fun p=>es[p]?.map (·.2))=((y_ es.size).filterMap fun p=>es[p]?).map (·.2):=by rw[List.map_filterMap]
 rw[e2,filterMap_getElem?_range]
theorem zf{a:Ml}{o:Obj}{ks:List Int}{es:Array (Int × Mj)}{ep:Nat}{t:M_}{Q:Mj->Mm->Prop}(ho:s.heap.get? a=some o)(I:SI prog w o ks es ep t)(hh:A.handled=none)
  (h:∀(h1:MD) d (it:Ml) (fp:List Ml) (P:Nat->Mj->Prop) (St:Nat->MD->Prop),s.heap.objs.size<=it->it < h1.objs.size->(∀ b u,s.heap.get? b=some u->h1.get? b=some u)->(∀ b∈fp,b=a\/s.heap.objs.size<=b)->Uq prog w A it fp [it] es.size P St->St 0 h1->(∀ acc,P8 P acc es.size->acc.toList.Perm (es.toList.map (·.2)))->Q (.ref it) { s with heap:=h1,drawn:=d }) :
  Mr (Mw prog w) A (Pu (.ref a)) Q E s:=by
 have hT:s.TypeIs (.ref a) "set":=⟨o,ho,I.ex.1⟩
 have lt:=Mu ho
 have hz:es.size<=sizeLine:=Oq I.sm
 refine PY hT Sd (MX Sd hT AG ?_ (F.args_set_iter_1 _))
 unfold Nu.«frozenset.__iter__»
 refine Mi ?_
 unfold T5
 refine Mi (Mn (Mn (Mi ?_)))
 unfold T1
 refine Mi (Pf ho I.dat I.ft (Mn (Mi ?_)))
 unfold setDrawn
 refine Mi (N0 ho I.dat I.ft (Mi (wp_text (Mn ?_))))
 have plain:∀(vs:List Mj) (sl:Nat->Nat),sl 0=0->vs.Perm (es.toList.map (·.2))->Nx prog w a o ep vs sl->Q (.ref s.heap.objs.size) { s with heap:=s.heap.push { cls:=.type "set_iterator",data:=.fields #[.int 0 0,.int 0 0,.ref a,.int es.size 0,.int ep 0] } }:=fun vs sl h0 pm N=>by
  have ln:vs.length=es.size:=by rw[pm.length_eq,a_,g_]
  have W:=yE (A:=A) (it:=s.heap.objs.size) (u_ lt) I.dat I.ft N hh
  rw[ln]at W
  refine h _ s.drawn _ _ _ _ (f_ _) (by rw[M'];exact Jm _) (fun b u e=>Mo _ e) (fun b hb=>?_) W ⟨F' _,⟨_,Mt _ rfl,rfl,?_⟩,Mo _ ho⟩ fun acc it=>?_
  ·rcases o_.mp hb with e | hb
   ·exact .inr (JS e.symm)
   exact .inl (p_.mp hb)
  ·rw[h0]
   rfl
  rw[<-ln]at it
  rw[xZ it]
  exact pm
 cases hb:bt w with
 | true=>
  refine Mi ?_
  refine Mn ?_
  refine Mi (PZ ho I.dat I.ft ?_)
  refine Mi (ML ?_)
  refine Mn ⟨_,rfl,"set_iterator",_,⟨_,Mt _ rfl,rfl⟩,cQ.lookup,?_⟩
  exact plain _ _ rfl ((lN _ _ _ _ (by rw[g_])).map _) (Ah I hb)
 | false=>
  cases hdr:(!t.plain && decide (es.size > 1))with
  | false=>
   refine Ol (fun z=>absurd (show(!false && (!t.plain && decide (es.size > 1)))=true from z) (by rw[hdr];simp)) fun _=>Mi (Mn ?_)
   refine Mi (PZ ho I.dat I.ft ?_)
   refine Mi (ML ?_)
   refine Mn ⟨_,rfl,"set_iterator",_,⟨_,Mt _ rfl,rfl⟩,cQ.lookup,?_⟩
   exact plain _ _ rfl (.refl _) (yj I hb hdr)
  | true=>
   refine Ol (fun _=>?_) fun z=>absurd (show(!false && (!t.plain && decide (es.size > 1)))=true by rw[hdr];rfl) z
   refine Mi (rV _ _ (by rw[Iy]) fun ys d pm=>?_)
   refine Mi (ML ?_ ?_)
   refine Mi (PZ (Mo _ ho) I.dat I.ft ?_)
   refine Mi (ML ?_)
   refine Mn ⟨_,rfl,"set_iterator",_,⟨_,Mt _ rfl,rfl⟩,cQ.lookup,?_⟩
   ·have yl:ys.length=es.size:=by rw[pm.length_eq,Iy]
    have hz2:∀ x:Obj,(s.heap.push x).objs.size=s.heap.objs.size + 1:=fun x=>M' ..
    have W:=wy (prog:=prog) (w:=w) (A:=A) (it:=s.heap.objs.size + 1) (a:=a) (tp:=s.heap.objs.size) (u_ (IV lt)) (u_ (Jm _)) (ot:={ cls:=.type "tuple",data:=.seq (ys.map fun(j:Nat)=>Nm j).toArray }) I.dat I.ft rfl (fun p hp=>IE.mp (pm.mem_iff.mp hp)) hh
    rw[yl]at W
    have e2:∀ x y:Obj,y.isFreed=false->((s.heap.push x).push y).get? (s.heap.objs.size + 1)=some y:=fun x y q=>by rw[<-hz2 x];exact Mt _ q
    have r:=h ((s.heap.push { cls:=.type "tuple",data:=.seq (ys.map fun(j:Nat)=>Nm j).toArray }).push { cls:=.type "set_iterator",data:=.fields #[.ref s.heap.objs.size,.int 0 0,.ref a,.int es.size 0,.int ep 0] }) d (s.heap.objs.size + 1) _ _ _ (Jv _) (by rw[M',M'];exact Jm _) (fun b u e=>Mo _ (Mo _ e)) (fun b hb=>?_) W ⟨⟨_,e2 _ _ rfl,rfl,rfl⟩,Mo _ (Mo _ ho),Mo _ (Mt _ rfl)⟩ fun acc it=>wc pm (by rw[yl];exact it)
    ·rw[<-hz2]at r
     exact r
    simp only[o_,Ic,or_false]at hb
    rcases hb with e | e | e
    ·exact .inr (by rw[e];exact Jv _)
    ·exact .inl e
    exact .inr (JS e.symm)
   show _<=_
   rw[q_,a_,pm.length_eq,Iy]
   exact hz
end
open PySem PyProof.Rows
section
variable{prog:MA}{w:MC}{A:MJ}{E:Mj->Mm->Prop}{s:Mm}
theorem zg{a:Ml}{Q:Bool->Mm->Prop}(hT:s.TypeIs (.ref a) "set")(h:Q false s):Mr (Mw prog w) A (Py (.ref a)) Q E s:=by
 unfold Py
 refine Mi (Qo hT F.slot_set_len.lookup ?_)
 generalize hid:("set.__len__":String)=id0
 wp_delta
 rw[show splitId id0=some ("set","__len__")from by subst hid;decide +kernel]
 subst hid
 refine Mi (Ov (T:="set") (b:=true) hT (by rw[QP];kernel_rfl) ?_)
 refine Ol (fun z=>absurd z (by decide)) fun _=>Ol (fun _=>Mi (Rg hT (Mn h))) fun z=>absurd (by decide +kernel) z
theorem AV{R:Tz->Mm->Prop}{a:Ml}{o:Obj}{ks:List Int}{es:Array (Int × Mj)}{ep:Nat}{t:M_}(ho:s.heap.get? a=some o)(I:SI prog w o ks es ep t)(hh:A.handled=none)(S:Ml)(hSa:S≠a)(res:Mj)(c₀:Nat)(hS:s.heap.get? S=some { cls:=.type "list",data:=.seq #[] c₀ })
  (hR:∀ h' tk d acc c,(∀ b u,b≠S->s.heap.get? b=some u->h'.get? b=some u)->h'.get? S=some { cls:=.type "list",dict:=none,data:=.seq acc c,slots:=#[] }->acc.toList.Perm (es.toList.map (·.2))->R (.ok (.ret res)) { s with heap:=h',drawn:=d,toks:=tk }) :
  Mr (Mw prog w) A.in1 (Pz (.ref S) (.ref a) res) (fun fin s'=>match fin with | .done f=>R (.ok f) s' | .again c'=>c'.quiet=true/\Oh (Mw prog w) A c' R s') (fun e s'=>R (.error e) s') s:=by
 have hz:es.size<=sizeLine:=Oq I.sm
 have lS:=Mu hS
 unfold Pz
 refine Mi (Rg (T:="set") ⟨o,ho,I.ex.1⟩ ?_)
 have h1:Qi (.ref S) (.ref a)=false:=by simp[Qi,hSa]
 have h2:(Nl "set" == Nl "list")=false:=by decide
 have h3:(Nl "set" == Nl "tuple")=false:=by decide
 simp only[h1,h2,h3,L4,HY,if_false]
 refine Mi (zf ho I hh fun h1 d it fp P St hit hlt kp hfp W st pm=>?_)
 have hSf:S ∉ fp:=fun z=>(hfp S z).elim hSa fun z=>K5 z lS
 have hSi:S≠it:=fun z=>by rw[z]at lS;exact K5 hit lS
 have key:∀(h:MD) (c₁:Nat) (tk:Nat),St 0 h->(∀ b u,b≠S->h1.get? b=some u->h.get? b=some u)->h.get? S=some { cls:=.type "list",data:=.seq #[] c₁ }->Oh (Mw prog w) A (.builtin "list.extend.loop" ⟨[.ref S,.ref it,res],[]⟩) R { s with heap:=h,drawn:=d,toks:=tk }:=by
  intro h c₁ tk hst hk hS₁
  refine codeAny_extend_loopS W.toS hz S hSf res es.size 0 _ #[] c₁ rfl (F' _) hst hS₁ (ItemsOf.nil _) fun s' acc' c' hm hS' hacc=>?_
  rw[Moved.eq_with hm]
  refine hR s'.heap s'.toks d acc' c' (fun b u hb e=>hm.heap b u (fun z=>?_) (hk b u hb (kp b u e))) hS' (pm _ hacc)
  rcases o_.mp z with z | z
  ·exact hb z
  have:=Mu e
  rw[p_.mp z]at this
  exact K5 hit this
 have hS₁:=kp _ _ hS
 refine Mi (MM (zg ⟨o,kp _ _ ho,I.ex.1⟩ ?_))
 refine Ol (fun _=>?_) (fun _=>Mn ⟨OA P5 _,key _ c₀ _ st (fun b u _ e=>e) hS₁⟩)
 refine Mi (NQ ?_)
 refine Mi ?_
 show Mr _ _ (updateSeq S (·.push .none) >>= fun _=>updateSeq S (·.pop)) _ _ _
 refine Mi (Se hS₁ rfl ?_)
 have hS₂:=M6 (MN (·.push MV)) hS₁ rfl
 refine Se (hz:=by seq_fits) hS₂ rfl ?_
 have hS₃:=M6 (MN (·.pop)) hS₂ rfl
 refine Mn ⟨OA P5 _,key _ _ _ ?_ (fun b u hb e=>?_) hS₃⟩
 ·refine W.frame 0 _ _ st fun b hb u e=>?_
  have hbS:b≠S:=fun z=>hSf (z ▸ hb)
  exact(NA _ _ (N4 hbS)).trans ((NA _ _ (N4 hbS)).trans e)
 exact(NA _ _ (N4 hb)).trans ((NA _ _ (N4 hb)).trans e)
theorem ox{a:Ml}{o:Obj}{ks:List Int}{es:Array (Int × Mj)}{ep:Nat}{t:M_}{Q:List Mj->Mm->Prop}(ho:s.heap.get? a=some o)(I:SI prog w o ks es ep t)(hh:A.handled=none)
  (h:∀ h' tk d (vs:List Mj),s.heap.objs.size<=h'.objs.size->(∀ b u,s.heap.get? b=some u->h'.get? b=some u)->vs.Perm (es.toList.map (·.2))->Q vs { s with heap:=h',drawn:=d,toks:=tk }):Mr (Mw prog w) A (Ru (.ref a)) Q E s:=by
 unfold Ru
 refine Mi (QL (NI QM ?_))
 rw[Ny QN _]
 show Mr _ A.in1 (Ul [] >>= fun l=>again (.builtin "list.__iadd__" ⟨[l,.ref a],[]⟩)) _ _ s
 refine Mi (ML ?_)
 refine Mn ⟨OA OQ _,NI RB ?_⟩
 rw[Ny OQ _]
 have hS:(s.heap.push { cls:=.type "list",data:=.seq ([]:List Mj).toArray }).get? s.heap.objs.size=some { cls:=.type "list",data:=.seq ([]:List Mj).toArray }:=Mt _ rfl
 have hne:s.heap.objs.size≠a:=Jk (Mu ho)
 have fin:∀(s':Mm) (h':MD) (tk:Nat) (d:SY) (acc:Array Mj) (c:Nat),s'={ s with heap:=h',drawn:=d,toks:=tk }->(∀ b u,s.heap.get? b=some u->h'.get? b=some u)->h'.get? s.heap.objs.size=some { cls:=.type "list",dict:=none,data:=.seq acc c,slots:=#[] }->acc.toList.Perm (es.toList.map (·.2))->
   Mr (Mw prog w) A (load s.heap.objs.size >>= fun o=>match o.data with
    | .seq xs _=>pure xs.toList
    | _=>unsupported "internal:collect") Q E s':=fun s' h' tk d acc c es' kp e it=>by
  subst es'
  refine Mi (QS e ?_)
  exact Mn (h h' tk d _ (HN (Mu e)) kp it)
 refine MP (AV (s:={ s with heap:=s.heap.push { cls:=.type "list",data:=.seq ([]:List Mj).toArray } }) (R:=fun r s'=>∃(h':MD) (tk:Nat) (d:SY) (acc:Array Mj) (c:Nat),r=.ok (.ret (.ref s.heap.objs.size))/\s'={ s with heap:=h',drawn:=d,toks:=tk }/\(∀ b u,s.heap.get? b=some u->h'.get? b=some u)/\h'.get? s.heap.objs.size=some { cls:=.type "list",dict:=none,data:=.seq acc c,slots:=#[] }/\acc.toList.Perm (es.toList.map (·.2)))
  (Mo _ ho) I hh s.heap.objs.size hne (.ref s.heap.objs.size) 0 hS (fun h' tk d acc c kp e it=>⟨h',tk,d,acc,c,rfl,rfl,fun b u eb=>kp b u (u_ (Mu eb)) (Mo _ eb),e,it⟩)) (fun fn s' hf=>?_) (fun e s' hf=>?_)
 ·cases fn with
  | done f=>
   obtain⟨h',tk,d,acc,c,ef,es',kp,e,it⟩:=hf
   cases ef
   exact fin s' h' tk d acc c es' kp e it
  | again c'=>
   refine⟨hf.1,NT hf.2 fun r s'' hr=>?_⟩
   obtain⟨h',tk,d,acc,c,er,es',kp,e,it⟩:=hr
   subst er
   exact fin s'' h' tk d acc c es' kp e it
 obtain⟨_,_,_,_,_,ef,_⟩:=hf
 cases ef
end
open PySem PyProof.Rows
section
variable{prog:MA}{w:MC}{A:MJ}{R:Tz->Mm->Prop}{I:Ml}{fp wr:List Ml}{G:Array RH->Array RH->Prop}{n:Nat}{P:Nat->Mj->Prop}{St:Nat->Mm->Prop}
theorem SG.at {h h':MD}{a:Ml}{S:Int->Prop}{m:Nat}(x:SG prog w h a S m)(k:∀ o,h.get? a=some o->h'.get? a=some o):SG prog w h' a S m:=let ⟨o,ks,es,ep,t,e,r⟩:=x;⟨o,ks,es,ep,t,k _ e,r⟩
theorem SG.congr {h:MD}{a:Ml}{S S':Int->Prop}{m:Nat}(x:SG prog w h a S m)(k:∀ z,S z↔S' z):SG prog w h a S' m:=let ⟨o,ks,es,ep,t,e,r,q⟩:=x;⟨o,ks,es,ep,t,e,r,fun z=>(q.1 z).trans (k z),q.2⟩
theorem xg(W:WalksS prog w A.in1 I fp wr G n P St)(S:Ml)(hSf:S ∉ fp)(val:Nat->Int)(hval:∀ i v,P i v->∃ t,v=.int (val i) t)(hb:n + 1 < scanBound) :
  ∀(k i:Nat) (s:Mm),n - i=k->i<=n->St i s->SG prog w s.heap S (fun z=>∃ j,j < i/\val j=z) i->(∀ s',Moved (S::wr) G s s'->SG prog w s'.heap S (fun z=>∃ j,j < n/\val j=z) n->R (.ok (.ret .none)) s')->Oh (Mw prog w) A (.builtin "set.update.loop" ⟨[.ref S,.ref I],[]⟩) R s:=by
 have hSw:S ∉ wr:=fun h=>hSf (W.sub _ h)
 have hsub:∀ b∈wr,b∈S::wr:=fun b hb=>r_ _ hb
 intro k
 induction k with
 | zero=>
  intro i s hk hi hst hS hR
  obtain rfl:i=n:=by omega
  refine NI Ql ?_
  rw[Ny ON _]
  show Mr _ A.in1 (NZ (.ref I) >>= _) _ _ s
  refine Mi (W.done s _ _ hst fun s' hm=>?_)
  show Mr _ A.in1 (ret MV) _ _ s'
  exact Mn (hR s' (hm.mono hsub) (hS.at fun o e=>hm.heap S _ hSw e))
 | succ k ih=>
  intro i s hk hi hst hS hR
  have hlt:i < n:=by omega
  refine NI Ql ?_
  rw[Ny ON _]
  show Mr _ A.in1 (NZ (.ref I) >>= _) _ _ s
  refine Mi (W.item i s _ _ hlt hst fun v s' hP hst' hm=>?_)
  obtain⟨t,rfl⟩:=hval i v hP
  have hS':=hS.at (h':=s'.heap) fun o e=>hm.heap S _ hSw e
  show Mr _ A.in1 (OK [NR (val i) t] (setAdd S (.int (val i) t)) >>= _) _ _ s'
  refine Mi (MM ?_)
  unfold setAdd
  refine MM (Mi ((Og prog w).pyHash (k:=val i) (Q1 _ _ _ _) ?_))
  refine add_int (s:={ s' with toks:=s'.toks + 1 }) hS' (by omega) fun _ h' sb hS2=>?_
  have hSi:SG prog w h' S (fun z=>∃ j,j < i + 1/\val j=z) (i + 1):=hS2.congr fun z=>⟨fun q=>q.elim (fun⟨j,a,b⟩=>⟨j,by omega,b⟩) fun e=>⟨i,by omega,e.symm⟩,fun⟨j,a,b⟩=>by
   by_cases c:j=i
   ·exact .inr (by rw[<-b,c])
   exact .inl ⟨j,by omega,b⟩⟩
  refine Mn ⟨OA ON _,ih (i + 1) _ (by omega) hlt (W.frame _ s' _ _ hst' (Jv _) fun b hb o e=>?_) hSi fun s'' hm'' hS''=>?_⟩
  ·rw[sb.2 b (fun h:b=S=>hSf (by rw[<-h];exact hb))]
   exact e
  refine hR s'' (Moved.trans W.gtrans ((hm.mono hsub).then_heap (Jv _) fun b o hb e=>?_) hm'') hS''
  rw[sb.2 b (fun h:b=S=>hb (by rw[h];exact s_))]
  exact e
end
section
variable{prog:MA}{w:MC}{A:MJ}{E:Mj->Mm->Prop}{s:Mm}
abbrev nob(w:MC):Obj:={ cls:=.type "set",dict:=none,data:=.set #[] 0 (.fresh 0 0 (!bt w)) }
theorem Bo(a:Mj){Q:Mj->Mm->Prop}(h:Q (.ref s.heap.objs.size) { s with heap:=s.heap.push (nob w) }):Oh (Mw prog w) A (.call (.builtin "set.__new__") ⟨[.type "set",a],[]⟩) (wants Q E) s:=by
 refine Sf ?_
 show Mr _ A.in1 (checkBuiltinCall "set.__new__" ⟨[.type "set",a],[]⟩ >>= fun _=>again (.builtin "set.__new__" ⟨[.type "set",a],[]⟩)) _ _ s
 refine Mi (OD (F.newCall_set_1 a) (Mn ⟨OA Sh _,NI F.entry_set_new ?_⟩))
 rw[Ny Sh _]
 unfold Nu.«set.__new__» SV
 have hsub:=sub_set_self
 obtain⟨hp,g,d,tk,os⟩:=s
 dsimp only
 wp_walk
 refine Qh (Mn ?_)
 dsimp only
 simp only[newObj]
 refine Mi (wpAny_alloc (Mn ?_))
 exact Mn h
theorem Ds{h:MD}:SG prog w (h.push (nob w)) h.objs.size (fun _=>False) 0:=
 ⟨_,[],#[],0,_,Mt _ rfl,⟨⟨rfl,rfl,rfl⟩,rfl,fun e he=>(nomatch he),.nil,IZ,by decide,rfl,xr _ _ _⟩,fun z=>⟨(nomatch ·),MI⟩,f_ _⟩
set_option maxHeartbeats 3200000 in
theorem xR{l:Ml}{items:Array Mj}{ns:List Int}{Q:Mj->Mm->Prop}(hh:A.handled=none)(hl:s.heap.IsList l items)(hi:Nr items.toList ns)(hb:items.size + 1 < scanBound)
  (h:∀(h':MD) (tk:Nat),SG prog w h' s.heap.objs.size (fun z=>z∈ns) items.size->(∀ b o,b < s.heap.objs.size->s.heap.get? b=some o->h'.get? b=some o)->Q (.ref s.heap.objs.size) { s with heap:=h',toks:=tk }) :
  Mr (Mw prog w) A (call (.type "set") [.ref l]) Q E s:=by
 obtain⟨c,tl,hmro⟩:=N9.mro
 have hmade:=N9.made
 have hsub:=N9.sub
 refine wpAny_call (Sf ?_)
 show Mr _ _ (callAny (.type "set") _) _ _ _
 refine Mn ⟨Code.quiet_builtin _ (by decide +kernel),NI F.entry_type_call ?_⟩
 rw[Around.under_plain (weight_type_call_type "set" [.ref l] []) rfl]
 have h1:=N9.notType
 have h2:=N9.canCreate
 have hct:=F.typeCall_set_1 (.ref l)
 repeat (any_goals (first | assumption | wp_step))
 refine NT (Bo (.ref l) (E:=E) (Q:=fun obj s₁=>obj=.ref s.heap.objs.size/\s₁={ s with heap:=s.heap.push (nob w) }) ⟨rfl,rfl⟩) fun r s₁ hr=>?_
 cases r with
 | error e=>exact hr
 | ok fl=>
  cases fl with
  | ret obj=>
   obtain⟨rfl,rfl⟩:=hr
   have hS:(s.heap.push (nob w)).get? s.heap.objs.size=some (nob w):=Mt _ rfl
   have hT:Shared.TypeIs { s with heap:=s.heap.push (nob w) } (.ref s.heap.objs.size) "set":=⟨_,hS,rfl⟩
   have hli:=N9.init.lookup
   have hbi:=N9.init.bind (.ref s.heap.objs.size)
   repeat (any_goals (first | assumption | wp_step))
   refine NT (codeAny_call_builtin (R:=wants (fun r s₂=>r=.none/\∃ h' tk,s₂={ s with heap:=h',toks:=tk }/\SG prog w h' s.heap.objs.size (fun z=>z∈ns) items.size/\(∀ b o,b < s.heap.objs.size->s.heap.get? b=some o->h'.get? b=some o)) E) N9.init.plain F.entry_set_init (check_set_init_1 hT ?_)) fun r₂ s₂ hr₂=>?_
   ·obtain⟨ol,hol,hcl,nl,hdl⟩:=hl
    obtain⟨ocls,odict,odata,oslots⟩:=ol
    simp only at hcl hdl
    subst hcl;subst hdl
    have hol':(s.heap.push (nob w)).get? l=some { cls:=.type "list",dict:=odict,data:=.seq items nl,slots:=oslots }:=Mo _ hol
    have hsls:=F.sub_list_set
    have hslf:=F.sub_list_frozenset
    have hne:(Nl "list" == Nl "dict")=false:=by decide
    have hl1:(s.heap.push (nob w)).IsList l items:=⟨_,hol',rfl,nl,rfl⟩
    unfold Nu.«set.__init__» noKeywords Sy
    generalize hPI:Pu=PI
    wp_walk
    subst hPI
    refine NJ hl1 ?_
    refine Mi (QL ?_)
    have hlS:l < s.heap.objs.size:=Mu hol
    have hh3:A.in1.in1.in1.handled=none:=by simp[hh]
    have hneI:l≠(s.heap.push (nob w)).objs.size:=by rw[M'];exact u_ (IV hlS)
    have hSf:s.heap.objs.size ∉ [(s.heap.push (nob w)).objs.size,l]:=by
     rw[M']
     simp only[o_,p_,Ic,or_false,not_or]
     exact⟨u_ (Jm _),Jk hlS⟩
    have hval:∀(i:Nat) (v:Mj),items[i]?=some v->∃ t,v=.int ((fun i=>ns.getD i 0) i) t:=fun i v hv=>IntsAre.int_at hi i v (by rw[e_];exact hv)
    refine xg ((Um hh3 _ l hneI items).toS) s.heap.objs.size hSf (fun i=>ns.getD i 0) hval hb (items.size - 0) 0 _ (by omega) (F' _) ⟨⟨_,Mt _ rfl,rfl,rfl⟩,(hl1.push _)⟩ ?hS0 ?hR
    case hS0=>exact(Ds.at fun o e=>Mo _ e).congr fun z=>⟨MI,fun⟨j,a,_⟩=>absurd a (by omega)⟩
    case hR=>
     intro s' hm hS'
     obtain⟨h',g',d',tk',os'⟩:=s'
     have eg:g'=s.gens:=hm.gens
     have ed:d'=s.drawn:=hm.drawn
     have eo:os'=s.os:=hm.os
     subst eg;subst ed;subst eo
     refine Mn ?_
     show Mr _ _ (ret MV) _ _ _
     have nl:items.size=ns.length:=by rw[<-fW hi,g_]
     refine Mn ⟨rfl,h',tk',rfl,hS'.congr fun z=>⟨fun⟨j,a,b⟩=>?_,fun q=>?_⟩,fun b o hb e=>?_⟩
     ·rw[<-b,IK,d_ (by omega)]
      exact IC _
     ·obtain⟨j,a,b⟩:=HX.mp q
      exact⟨j,by omega,by rw[IK,d_ a];exact b⟩
     refine hm.heap b o ?_ (Mo _ (Mo _ e))
     rw[M']
     simp only[o_,p_,Ic,or_false,not_or]
     exact⟨u_ hb,u_ (IV hb)⟩
   ·cases r₂ with
    | error e=>exact hr₂
    | ok fl₂=>
     cases fl₂ with
     | ret r=>
      obtain⟨rfl,h',tk,rfl,hS',hk'⟩:=hr₂
      repeat (any_goals (first | assumption | wp_step))
      exact h _ _ hS' hk'
     | _=>exact hr₂.elim
  | _=>exact hr.elim
end
open PySem PyProof.Rows
section
variable{prog:MA}{w:MC}{A:MJ}{E:Mj->Mm->Prop}{s:Mm}
theorem gy:∀ {vs:List Mj} {ns:List Int},Nr vs ns->vs.map ZS.cg=ns/\∀ v∈vs,∃ i t,v=.int i t/\i∈ns
 | _,_,.nil=>⟨rfl,fun v h=>(nomatch h)⟩
 | _,_,.cons n t h=>by
  obtain⟨a,b⟩:=gy h
  refine⟨by rw[j',a];rfl,fun v hv=>?_⟩
  rcases o_.mp hv with e | hv
  ·exact⟨n,t,e,.head _⟩
  obtain⟨i,u,e,m⟩:=b v hv
  exact⟨i,u,e,.tail _ m⟩
theorem r9{a:Ml}{o:Obj}{ks:List Int}{es:Array (Int × Mj)}{ep:Nat}{t:M_}{Q:Mj->Mm->Prop}(ho:s.heap.get? a=some o)(I:SI prog w o ks es ep t)(hh:A.handled=none)
  (h:∀(out:List Mj) (ms:List Int) p c h' tk d,Nr out ms->ms.Perm ks->ms.Pairwise (·<=·)->s.heap.objs.size<=p->(∀ b u,s.heap.get? b=some u->h'.get? b=some u)->h'.get? p=some (MK "list" out.toArray c)->Q (.ref p) { s with heap:=h',drawn:=d,toks:=tk }) :
  Mr (Mw prog w) A (call (.builtin "sorted") [.ref a]) Q E s:=by
 refine N3 QB Qe Qf (Rm _) ?_
 unfold Nu.«sorted»
 refine Mi (m:=QZ "sorted" 1 1 _) (Mn ?_)
 refine Mi (ox ho I hh fun h0 tk d vs le k0 pm=>?_)
 obtain⟨ns,hI,kp⟩:=eD pm.symm I.rd
 obtain⟨keys,each⟩:=gy hI
 have hz:vs.length<=sizeLine:=by rw[pm.length_eq,a_,g_];exact Oq I.sm
 refine Mi (NY ?_ hz)
 have hoL:(h0.push (MK "list" vs.toArray 0)).get? h0.objs.size=some (MK "list" vs.toArray 0):=Mt _ rfl
 have keep:∀ b o,s.heap.get? b=some o->(h0.push (MK "list" vs.toArray 0)).get? b=some o:=fun b o q=>Mo _ (k0 b o q)
 show Mr _ _ _ _ _ { s with heap:=h0.push (MK "list" vs.toArray 0),drawn:=d,toks:=tk }
 have ne:∀ b o,s.heap.get? b=some o->b≠h0.objs.size:=fun b o e=>u_ (Mu (k0 b o e))
 generalize h0.push (MK "list" vs.toArray 0)=h1 at hoL keep ⊢
 refine Mi (MM (MX Po ⟨_,hoL,rfl⟩ Pc ?body (QJ _)))
 case body=>
  refine ZS.hU (s:={ s with heap:=h1,drawn:=d,toks:=tk }) (kd:=Q0) (rk:=fun x=>ZS.rnk ZS.ltI ns (ZS.cg x.1)) (S:=fun x=>x.1∈vs) hoL hz (fun v hv=>hv) (fun h' k {Q} hne q=>?_) (fun h' k=>ZS.pZ fun x hx=>each _ hx) fun out c h' g1 g2 g3 g4=>?_
  ·obtain⟨v1,vs',ev⟩:=KL hne
   rw[ev]at hI ⊢
   exact ZS.pf hI q
  obtain⟨ms,om,mp⟩:=eD g1.symm hI
  have eo:=(gy om).1
  refine⟨_,rfl,Mn ⟨_,rfl,h out ms _ c h' tk d om (mp.symm.trans kp.symm) ?_ le (fun b u e=>g3 b u (ne b u e) (keep b u e)) g4⟩⟩
  rw[<-eo,E_]
  refine HZ (fun{x y} hx hy hxy=>?_) g2
  by_cases z:ZS.cg x<=ZS.cg y
  ·exact z
  have:=ZS.hZ ZS.zM (ks:=ns) (a:=ZS.cg y) (b:=ZS.cg x) (by rw[<-keys];exact F_ (g1.mem_iff.mp hy)) (decide_eq_true (by omega))
  exact absurd this (Kj.mpr hxy)
end
end ZT
namespace L2
open PySem PySem.Spec PyProof.Rows
section
variable{X:Cx}
theorem Inv.drw {pins:List (Ml × Obj)}{s:Mm}{σ:St}{H:Hp}{d:SY}(I:Inv X pins σ H s):Inv X pins σ H { s with drawn:=d }:=⟨I.ok,I.os,I.bare,I.base,I.loc,I.cell,I.free,I.freeC,I.pin,I.hok,I.len⟩
theorem yu:∀ {vs:List Mj} {ns:List Int},Nr vs ns->Vals (ns.map V.int) vs
 | _,_,.nil=>.nil
 | _,_,.cons n t h=>.cons ⟨t,rfl⟩ (yu h)
theorem vt{e:MB}{te:TE}{p1 p2 pos1 pos2:Pos}(hc:X.calm=true)(hg1:Gl X "sorted")(hm1:X.mg "sorted"=none)(hg2:Gl X "set")(hm2:X.mg "set"=none)(he:PE X e te)
  (hs1:ME [e] X.env=[(false,MQ e X.env)]:=by rfl) (hs2:ME [.Call (.Name "set" p2) [e] [] pos2] X.env=[(false,MQ (.Call (.Name "set" p2) [e] [] pos2) X.env)]:=by rfl) :
  PE X (.Call (.Name "sorted" p1) [.Call (.Name "set" p2) [e] [] pos2] [] pos1) (fun σ H Q=>te σ H fun x H1=>∃ l,∃ ns:List Int,x=.ref l/\SqL X.K H1 l (ns.map V.int)/\ns.length < 4095/\∀ ms:List Int,ms.Pairwise (· < ·)->(∀ z,z∈ms↔z∈ns)->New (.lst (ms.map V.int)) H1 Q):=by
 intro pins s σ H Q I h
 refine Np (cL I hg1 hm1 Uj (callWith_builtin1 ?_ (by rw[hs2];rfl) rfl))
 rw[hs2]
 refine Oi ?_
 refine Np (cL I hg2 hm2 boot_set (callWith_type1 ?_ (by rw[hs1];rfl) rfl))
 rw[hs1]
 refine Oi (thn (he pins s σ H _ I h) ?_)
 rintro u s1 ⟨x,H1,I1,r1,l,ns,ex,hl,hz,q⟩
 subst ex
 cases r1
 obtain⟨its,rv,pl,_⟩:=I1.list hl
 have hI:=intsAre_of rv
 have ln:=ZT.fW hI
 refine Mn (ZT.xR (items:=its.toArray) (ns:=ns) (I1.ok.hd hc) pl.isList hI (by unfold scanBound;rw[q_];omega) fun h' tk SG kp=>?_)
 have k1:∀ b o,s1.heap.get? b=some o->h'.get? b=some o:=fun b o e=>kp b o (Mu e) e
 have I2:Inv X pins σ H1 { s1 with heap:=h',toks:=tk }:=I1.kept (t':=tk) k1
 obtain⟨o,ks,es,ep,t,ho,SI,mem,_⟩:=SG
 refine Mn (ZT.r9 ho SI (I2.ok.hd hc) fun out ms p c h2 tk2 d om pm so le k2 e2=>?_)
 have hz2:ms.length<=16777216:=by
  have a:=SI.sm
  have b:=ZT.fW SI.rd
  rw[a_,g_]at b
  rw[pm.length_eq]
  unfold scanBound at a
  omega
 have I3:=(I2.drw (d:=d)).laid (a:=p) (o:=.lst (ms.map V.int)) (t':=tk2) k2 le (show b9 X.prog X.w _ h2 _ (.lst (ms.map V.int))from⟨by rw[a_];exact hz2,out,c,yu om,e2⟩)
 refine⟨.ref p,_,I3,rfl,(q ms ?_ fun z=>?_).at (I2.hok.fresh le)⟩
 ·have nd:=pm.nodup_iff.mpr SI.nd
  exact(List.Pairwise.and so nd).imp fun⟨a,b⟩=>by omega
 rw[pm.mem_iff]
 exact mem z
end
end L2
namespace ZS
open PySem PyProof.Rows
section
variable{prog:MA}{w:MC}{A:MJ}{E:Mj->Mm->Prop}{s:Mm}
theorem vj{a:Ml}{vs:List Mj}{n:Nat}{kd:Ng}{rk:Mq->Nat}{S:Mq->Prop}{P:UB->Mm->Prop}(ho:s.heap.get? a=some (MK "list" vs.toArray n))(hz:vs.length<=sizeLine)(hS:∀ v∈vs,S (v,v))
  (kind:∀ h',(∀ b o,b≠a->s.heap.get? b=some o->h'.get? b=some o)->∀ {Q:Ng->Mm->Prop},vs≠[]->Q kd { s with heap:=h' }->Mr (Mw prog w) A (O1 vs.toArray) Q E { s with heap:=h' })
  (lt:∀ h',(∀ b o,b≠a->s.heap.get? b=some o->h'.get? b=some o)->bV (Mw prog w) A E { s with heap:=h' } kd rk S)
  (h:∀(o:List Mj) c h',o.Perm vs->o.Pairwise (fun x y=>rk (y,y)<=rk (x,x))->(∀ b u,b≠a->s.heap.get? b=some u->h'.get? b=some u)->h'.get? a=some (MK "list" o.toArray c)->P (.done (.ret .none)) { s with heap:=h' }) :
  Mr (Mw prog w) A (Nu.«list.sort» ⟨[.ref a],[(Nf "reverse",.bool true)]⟩) P E s:=by
 rw[list_sort_rev]
 have ha:a < s.heap.objs.size:=Mu ho
 refine Mi (TM ho rfl ?_)
 refine Mi (PV ho rfl ?_ (by rw[q_];exact hz) (F' _))
 obtain⟨e1,ho1⟩:∃ e1,(s.heap.update a (MN fun _=>(#[]:Array Mj))).get? a=some (MK "list" #[] e1):=⟨_,Pb ho fun _=>#[]⟩
 refine Mi (QA ho1 rfl ?_)
 refine Mi (QG ?_ hz)
 refine Mi (NY ?_ (F' _))
 refine MM ?_
 have k2:∀ b u,(s.heap.update a (MN fun _=>(#[]:Array Mj))).get? b=some u->(((s.heap.update a (MN fun _=>(#[]:Array Mj))).push (MK "tuple" vs.toArray 0)).push (MK "list" #[] 0)).get? b=some u:=fun b u e=>Mo _ (Mo _ e)
 have k3:∀ b u,b≠a->s.heap.get? b=some u->(((s.heap.update a (MN fun _=>(#[]:Array Mj))).push (MK "tuple" vs.toArray 0)).push (MK "list" #[] 0)).get? b=some u:=fun b u hb e=>k2 b u (by rw[NM _ _ _ _ hb];exact e)
 have ho6:=k2 _ _ ho1
 show Mr (Mw prog w) A _ P E { s with heap:=((s.heap.update a (MN fun _=>(#[]:Array Mj))).push (MK "tuple" vs.toArray 0)).push (MK "list" #[] 0) }
 generalize ((s.heap.update a (MN fun _=>(#[]:Array Mj))).push (MK "tuple" vs.toArray 0)).push (MK "list" #[] 0)=h1 at k3 ho6 ⊢
 dsimp only
 have fin:∀ st':Mx,(Ms st').Perm (vs.toArray.zip vs.toArray)->Srt rk (Ms st').toList->M1 st'=none->Mr (Mw prog w) A (do
   let touched:=(<-seqEpoch a) != e1
   Qj (.ref a) fun _=>((Ms st').map (·.2)).reverse
   if let some e:=M1 st' then rule "list.sort.comparison-raised";throw e
   if touched then rule "list.sort.modified";raiseError "ValueError" "list modified during sort"
   ret .none) P E { s with heap:=h1 }:=fun st' hp hs hf=>by
  have lp:(Ms st').toList.Perm (vs.map fun v=>(v,v)):=by
   have:=Ir.mp hp
   rw[dM]at this
   exact this
  have op:((Ms st').toList.map (·.2)).Perm vs:=by
   have:=lp.map (·.2)
   rw[D',show((fun x:Mq=>x.2) ∘ fun v:Mj=>(v,v))=id from rfl,Kw]at this
   exact this
  have tw:∀ p∈(Ms st').toList,p=(p.2,p.2):=fun p hp=>by
   obtain⟨v,_,e⟩:=m_.mp (lp.mem_iff.mp hp)
   rw[<-e]
  have osr:((Ms st').toList.map (·.2)).Pairwise (fun x y=>rk (x,x)<=rk (y,y)):=by
   rw[E_]
   refine HZ (fun{p q} hp hq hr=>?_) hs
   rw[<-tw p hp,<-tw q hq]
   exact hr
  have os:((Ms st').map (·.2)).reverse.size<=sizeLine + 1:=by
   rw[Array.size_reverse,<-g_,Kb,op.length_eq]
   lia
  refine Mi (QA ho6 rfl ?_)
  refine Mi (PV ho6 rfl ?_ (F' _) os)
  rw[hf]
  simp only[bne_self_eq_false,HY,if_false]
  obtain⟨c,hc⟩:∃ c,(h1.update a (MN fun _=>((Ms st').map (·.2)).reverse)).get? a=some (MK "list" ((Ms st').toList.map (·.2)).reverse.toArray c):=by
   have:=Pb ho6 fun _=>((Ms st').map (·.2)).reverse
   rw[show((Ms st').toList.map (·.2)).reverse.toArray=((Ms st').map (·.2)).reverse by rw[<-Kb,<-IF]]
   exact⟨_,this⟩
  refine Mn (h _ c _ ((LH _).trans op) (List.pairwise_reverse.mpr osr) (fun b u hb e=>?_) hc)
  rw[NM _ _ _ _ hb]
  exact k3 b u hb e
 have zr:(vs.toArray.zip vs.toArray).reverse.toList=vs.reverse.map fun v=>(v,v):=by rw[IF,dM,List.map_reverse]
 have zp:(vs.toArray.zip vs.toArray).reverse.Perm (vs.toArray.zip vs.toArray):=Ir.mpr (by rw[IF];exact LH _)
 refine Mi (NQ ?_)
 by_cases h2:vs.toArray.size < 2
 ·rw[if_pos h2,if_pos h2]
  refine Mi (Mn ?_)
  rw[R9]
  refine Mi (Mn ?_)
  refine fin (NF general' (vs.toArray.zip vs.toArray).reverse #[] 7 none) zp ?_ rfl
  show Srt rk (vs.toArray.zip vs.toArray).reverse.toList
  rw[zr]
  have h3:vs.reverse.length < 2:=by rw[List.length_reverse];exact h2
  generalize vs.reverse=ws at h3
  clear fin h lt kind hS ho
  match ws,h3 with
  | [],_=>exact .nil
  | [v],_=>exact J1 _ _
  | _::_::_,h3=>exact absurd h3 (by rw[k_,k_];lia)
 rw[if_neg h2,if_neg h2]
 refine Mi (kind h1 k3 (fun z=>by rw[z]at h2;simp at h2) ?_)
 refine Mi (MP (iN (st:=NF kd (vs.toArray.zip vs.toArray).reverse #[] 7 none) (Q:=fun _ st'=>(Ms st').Perm (vs.toArray.zip vs.toArray).reverse/\M1 st'=none/\Srt rk (Ms st').toList) (lt h1 k3) (fun p hp=>?_) (fun x=>NQ rfl) rfl rfl rfl fun st' a1 a2 a3=>⟨a1,a2,a3⟩) ?_ fun _ _ e=>e)
 ·rw[show(Ms (NF kd (vs.toArray.zip vs.toArray).reverse #[] 7 none))=(vs.toArray.zip vs.toArray).reverse from rfl,zr]at hp
  obtain⟨v,hv,e⟩:=m_.mp hp
  rw[<-e]
  exact hS v (KU.mp hv)
 rintro⟨⟨⟩,st'⟩ s' ⟨rfl,hp,hf,hs⟩
 exact fin st' (hp.trans zp) hs hf
theorem qQ{l:Ml}{vs:List Mj}{kd:Ng}{rk:Mq->Nat}{S:Mq->Prop}{Q:Mj->Mm->Prop}(hl:s.heap.IsList l vs.toArray)(hz:vs.length<=sizeLine)(hS:∀ v∈vs,S (v,v))
  (kind:∀ h',(∀ b o,s.heap.get? b=some o->h'.get? b=some o)->∀ {Q:Ng->Mm->Prop} {E:Mj->Mm->Prop},vs≠[]->Q kd { s with heap:=h' }->Mr (Mw prog w) A.in1.in1 (O1 vs.toArray) Q E { s with heap:=h' })
  (lt:∀ h' E,(∀ b o,s.heap.get? b=some o->h'.get? b=some o)->bV (Mw prog w) A.in1.in1 E { s with heap:=h' } kd rk S)
  (h:∀(o:List Mj) a c h',o.Perm vs->o.Pairwise (fun x y=>rk (y,y)<=rk (x,x))->s.heap.objs.size<=a->(∀ b u,s.heap.get? b=some u->h'.get? b=some u)->h'.get? a=some (MK "list" o.toArray c)->Q (.ref a) { s with heap:=h' }) :
  Mr (Mw prog w) A (call (.builtin "sorted") [.ref l] [(Nf "reverse",.bool true)]) Q E s:=by
 refine call_function_entry_kw QB Qe Qf (args_sorted_rev _ _) ?_
 unfold Nu.«sorted»
 refine Mi (m:=QZ "sorted" 1 1 _) (Mn ?_)
 refine Mi (TN hl ?_ hz)
 refine Mi (NY ?_ hz)
 have hsz:((s.heap.push (MK "list" #[] 0)).update s.heap.objs.size (MN (·++vs.toArray))).objs.size=s.heap.objs.size + 1:=by rw[RT,size_push']
 have hoL:(((s.heap.push (MK "list" #[] 0)).update s.heap.objs.size (MN (·++vs.toArray))).push (MK "list" vs.toArray 0)).get? (s.heap.objs.size + 1)=some (MK "list" vs.toArray 0):=by rw[<-hsz];exact Mt _ rfl
 have keep:∀ b o,s.heap.get? b=some o->(((s.heap.push (MK "list" #[] 0)).update s.heap.objs.size (MN (·++vs.toArray))).push (MK "list" vs.toArray 0)).get? b=some o:=fun b o q=>by
  have hlt:b < s.heap.objs.size:=Mu q
  rw[OP _ _ _ (by rw[hsz];exact u_ (IV hlt)),NM _ _ _ _ (u_ hlt),OP _ _ _ (u_ hlt)]
  exact q
 show Mr _ _ _ _ _ { s with heap:=((s.heap.push (MK "list" #[] 0)).update s.heap.objs.size (MN (·++vs.toArray))).push (MK "list" vs.toArray 0) }
 rw[hsz]
 generalize ((s.heap.push (MK "list" #[] 0)).update s.heap.objs.size (MN (·++vs.toArray))).push (MK "list" vs.toArray 0)=h1 at hoL keep ⊢
 have ne:∀ b o,s.heap.get? b=some o->b≠s.heap.objs.size + 1:=fun b o e=>u_ (IV (Mu e))
 refine Mi (MM (wpAny_call_entry_kw Po ⟨_,hoL,rfl⟩ Pc ?body (args_list_sort_rev _ _)))
 case body=>
  refine vj (s:={ s with heap:=h1 }) (kd:=kd) (rk:=rk) (S:=S) hoL hz hS (fun h' k {Q} hne q=>kind h' (fun b o e=>k b o (ne b o e) (keep b o e)) hne q) (fun h' k=>lt h' _ fun b o e=>k b o (ne b o e) (keep b o e)) fun o c h' g1 g2 g3 g4=>?_
  exact⟨_,rfl,Mn ⟨_,rfl,h o _ c h' g1 g2 (Jv _) (fun b u e=>g3 b u (ne b u e) (keep b u e)) g4⟩⟩
end
end ZS
namespace L2
open PySem PySem.Spec PyProof.Rows
section
variable{X:Cx}
theorem n9{e:MB}{te:TE}{p1 pos1 kp vp:Pos}{kn:Nat}(hg1:Gl X "sorted")(hm1:X.mg "sorted"=none)(he:PE X e te)
  (hs1:ME [e] X.env=[(false,MQ e X.env)]:=by rfl) :
  PE X (.Call (.Name "sorted" p1) [e] [⟨some "reverse",(.Constant (.bool true) kn vp),kp⟩] pos1) (fun σ H Q=>te σ H fun x H1=>∃ l ys ks,x=.ref l/\SqL X.K H1 l ys/\eR X.K H1 ys ks/\∀ zs ls,eR X.K H1 zs ls->(∀ v∈zs,v∈ys)->ls.Perm ks->ls.Pairwise (fun x y=>ZS.ltL x y=false)->(∀ b xs ys,SqT X.K H1 b xs->SqT X.K H1 b ys->xs=ys)->New (.lst zs) H1 Q):=by
 intro pins s σ H Q I h
 refine Np (cL I hg1 hm1 Uj (callWith_kw ?_ (by rw[hs1];rfl) (by rw[hs1];rfl) rfl rfl))
 rw[hs1]
 refine Oi (thn (he pins s σ H _ I h) ?_)
 rintro u s1 ⟨x,H1,I1,r1,l,ys,ks,ex,hl,hr,q⟩
 subst ex
 cases r1
 refine Mn ?_
 refine kws_cons (SH (kws_nil ?_))
 show Mr _ _ (call (.builtin "sorted") [.ref l] [(Nf "reverse",.bool true)]) _ _ s1
 obtain⟨its,rv,pl,hz⟩:=I1.list hl
 have hlen:=rv.length
 obtain⟨f1,f2⟩:=fS I1 rv hr
 refine ZS.qQ (kd:=Rt true) (rk:=fun x=>ZS.rnk ZS.ltL ks (ZS.cM s1.heap x.1)) (S:=fun x=>x.1∈its) pl.isList (by lia) (fun v hv=>hv) (fun h' kp {Q} {E} hne q=>ZS.kj (h0:=s1.heap) (fun v hv=>(f1 v hv).1) (fun b o e _=>kp b o e) hne q)
  (fun h' E kp=>ZS.jj (h0:=s1.heap) (ks:=ks) (fun x hx=>⟨(f1 _ hx).1,by rw[<-f2];exact F_ hx⟩) fun b o e _=>kp b o e) fun o a c h' op os ha kp e=>?_
 have mem:∀ v∈o,v∈its:=fun v hv=>op.mem_iff.mp hv
 have mk:∀(l:List Mj),(∀ v∈l,v∈its)->∃ zs,Vals zs l/\eR X.K H1 zs (l.map (ZS.cM s1.heap))/\zs.length=l.length/\∀ v∈zs,v∈ys:=by
  intro l
  induction l with
  | nil=>exact fun _=>⟨[],.nil,.nil,rfl,fun v hv=>(by cases hv)⟩
  | cons v t ih=>
   intro hl
   obtain⟨zs,k1,k2,k3,k6⟩:=ih fun v hv=>hl v (.tail _ hv)
   obtain⟨_,b,e,k4,k5⟩:=f1 v (hl v (.head _))
   refine⟨.ref b::zs,.cons e k1,.cons ⟨k4,b,rfl,k5⟩ k2,by rw[k_,k_,k3],fun w hw=>?_⟩
   rcases o_.mp hw with rfl | hw
   ·exact hC rv (hl v (.head _)) e
   exact k6 w hw
 obtain⟨zs,k1,k2,k3,k6⟩:=mk o mem
 refine⟨.ref a,_,I1.laid (t':=s1.toks) kp ha (show b9 X.prog X.w _ h' _ (.lst zs)from⟨by rw[k3,op.length_eq];lia,o,c,k1,e⟩),rfl,(q zs _ k2 k6 ?_ ?_ fun b xs ys g1 g2=>I1.d8 g1 g2).at (I1.hok.fresh ha)⟩
 ·rw[<-f2]
  exact op.map _
 rw[E_]
 refine HZ (fun{x y} hx hy hxy=>?_) os
 cases z:ZS.ltL (ZS.cM s1.heap x) (ZS.cM s1.heap y)
 ·rfl
 have:=ZS.hZ ZS.rC (ks:=ks) (by rw[<-f2];exact F_ (mem x hx)) z
 exact absurd this (Kj.mpr hxy)
end
end L2
namespace PL
open PySem PySem.Spec PyProof.Rows L2
section
variable{X:Cx}
noncomputable def GV:T->(T->Prop)->Prop
 | .lst _ ts,k=>got (intsOf ts) fun ns=>ns.length < 4095/\∀ ms:List Int,ms.Pairwise (· < ·)->(∀ z,z∈ms↔z∈ns)->k (.lst true (ms.map T.int))
 | _,_=>False
theorem fU{e:MB}{fe:PF}{p1 p2 pos1 pos2:Pos}(hc:X.calm=true)(hg1:Gl X "sorted")(hm1:X.mg "sorted"=none)(hg2:Gl X "set")(hm2:X.mg "set"=none)(he:GE X e fe)
  (hs1:ME [e] X.env=[(false,MQ e X.env)]:=by rfl) (hs2:ME [.Call (.Name "set" p2) [e] [] pos2] X.env=[(false,MQ (.Call (.Name "set" p2) [e] [] pos2) X.env)]:=by rfl) :
  GE X (.Call (.Name "sorted" p1) [.Call (.Name "set" p2) [e] [] pos2] [] pos1) (fUn GV fe):=by
 refine PE.imp (vt hc hg1 hm1 hg2 hm2 he hs1 hs2) ?_
 rintro σ H Q ⟨env,Fr,k,rs,q,c⟩
 refine⟨env,Fr,_,rs,q,fun t env1 v H1 q1 rs1=>?_⟩
 cases t <;> first | exact MI q1 | skip
 obtain⟨ns,en,z,g⟩:=aI q1
 have et:=cf en
 subst et
 obtain⟨a,vs,rfl,hq,l,rp⟩:=aB rfl rs1.head
 have ev:=cA l rp
 subst ev
 exact⟨a,ns,rfl,hq,z,fun ms h1 h2 p H' hp g' e=>c _ _ _ _ (g ms h1 h2) (.of rs1.1 (cY (iY ms rs1.drop.2) (by rw[a_,a_]) hp g' e))⟩
noncomputable def Fu:T->(T->Prop)->Prop
 | .lst _ ts,k=>got (rowsOf ts) fun ks=>∀ ls:List (List Int),ls.Perm ks->ls.Pairwise (fun x y=>ZS.ltL x y=false)->k (.lst true (ls.map iT))
 | _,_=>False
theorem mW{e:MB}{fe:PF}{p1 pos1 kp vp:Pos}{kn:Nat}(hg1:Gl X "sorted")(hm1:X.mg "sorted"=none)(he:GE X e fe)(hs1:ME [e] X.env=[(false,MQ e X.env)]:=by rfl) :
  GE X (.Call (.Name "sorted" p1) [e] [⟨some "reverse",.Constant (.bool true) kn vp,kp⟩] pos1) (fUn Fu fe):=by
 refine PE.imp (n9 hg1 hm1 he hs1) ?_
 rintro σ H Q ⟨env,Fr,k,rs,q,c⟩
 refine⟨env,Fr,_,rs,q,fun t env1 v H1 q1 rs1=>?_⟩
 cases t <;> first | exact MI q1 | skip
 obtain⟨ks,ek,g⟩:=aI q1
 obtain⟨et,ne⟩:=ij ek
 subst et
 obtain⟨a,vs,rfl,hq,l,rp⟩:=aB rfl rs1.head
 obtain⟨rv,ex⟩:=kc ne l rp
 refine⟨a,vs,ks,rfl,hq,rv,fun zs ls rz mem pm sm inj p H' hp g' e'=>c _ _ _ _ (g ls pm sm) (.of rs1.1 ?_)⟩
 have rH:=mM (fun v hv b eb xs hs=>by
  obtain⟨b',k',e1,e2⟩:=ex v (mem v hv)
  rw[eb]at e1
  cases e1
  rw[e2,inj _ _ _ hs (SqT.of e2)]) rz
 obtain⟨rp3,l3⟩:=fy rH rs1.drop.2
 exact cY rp3 l3 hp g' e'
theorem tT{o:Bool}{ts:List T}{k:T->Prop}:GV (.lst o ts) k=cI (intsOf ts) (k:=⟨fun ns=>ns.length < 4095/\∀ ms:List Int,ms.Pairwise (· < ·)->(∀ z,z∈ms↔z∈ns)->k (.lst true (ms.map T.int))⟩):=rfl
theorem tV{o:Bool}{ts:List T}{k:T->Prop}:Fu (.lst o ts) k=cI (rowsOf ts) (k:=⟨fun ks=>∀ ls:List (List Int),ls.Perm ks->ls.Pairwise (fun x y=>ZS.ltL x y=false)->k (.lst true (ls.map iT))⟩):=rfl
noncomputable def lr2:P1s
 | [.int i,.int j],k=>(-(2 ^ 62)<=i/\i < 2 ^ 62/\-(2 ^ 62)<=j/\j < 2 ^ 62/\j - i<=2 ^ 24)/\k (.lst true (eN i (j - i).toNat))
 | _,_=>False
theorem wV{i j:Int}{k:T->Prop}:lr2 [.int i,.int j] k=((-(2 ^ 62)<=i/\i < 2 ^ 62/\-(2 ^ 62)<=j/\j < 2 ^ 62/\j - i<=2 ^ 24)/\k (.lst true (eN i (j - i).toNat))):=rfl
def Fl(fr:PFs):PF:=fCl lr2 fr
theorem tf{fr:PFs}{env:Ev}{k:T->Ev->Prop}:Fl fr env k=fr env fun ts env1=>lr2 ts fun t=>k t env1:=rfl
theorem kC{a b:MB}{fr:PFs}{p1 p2 pos1 pos2:Pos}(hc:X.calm=true)(hg1:Gl X "list")(hm1:X.mg "list"=none)(hg2:Gl X "range")(hm2:X.mg "range"=none)(ha:GA X [a,b] fr)
  (hs1:ME [a,b] X.env=[(false,MQ a X.env),(false,MQ b X.env)]:=by rfl) (hs2:ME [.Call (.Name "range" p2) [a,b] [] pos2] X.env=[(false,MQ (.Call (.Name "range" p2) [a,b] [] pos2) X.env)]:=by rfl) (hs3:ME [b] X.env=[(false,MQ b X.env)]:=by rfl) :
  GE X (.Call (.Name "list" p1) [.Call (.Name "range" p2) [a,b] [] pos2] [] pos1) (Fl fr):=by
 rintro pins s σ H Q I ⟨env,Fr,k,rs,q,c⟩
 refine Np (cL I hg1 hm1 boot_list (callWith_type1 ?_ (by rw[hs2];rfl) rfl))
 rw[hs2]
 refine Oi ?_
 refine Np (cL I hg2 hm2 RW (callWith_type1 ?_ (by rw[hs1,hs3]) (by rw[hs3];rfl)))
 refine thn (ha pos2 pins s σ H (fun vs H1=>∃ ts env1,(lr2 ts fun t=>k t env1)/\ts.length=vs.length/\Rs X.K H1 env1 σ (zz ts vs++Fr)) I ⟨env,Fr,_,rs,q,fun ts env1 vs H1 q1 l rs1=>⟨ts,env1,q1,l,rs1⟩⟩) fun us s1 ⟨vs,H1,I1,r1,ts,env1,q1,l,rs1⟩=>?_
 match ts,vs,l,q1 with
 | [.int i,.int j],[v,w],l,q1=>
  have rs1:Rs X.K H1 env1 σ ((.int i,some v)::(.int j,some w)::Fr):=rs1
  have ev:=aK rs1.head
  have ew:=aK rs1.drop.head
  subst ev ew
  cases r1 with
  | cons r rr=>
   cases rr with
   | cons r' rr=>
    cases rr
    obtain⟨t,rfl⟩:=r
    obtain⟨u,rfl⟩:=r'
    refine Ti ?_
    refine Rx ?_
    obtain⟨⟨h1,h2,h3,h4,h5⟩,q1⟩:=q1
    refine iU I1 hc h1 h2 h3 h4 (Int.toNat_le.mpr h5) fun p H' hp g e=>c _ _ _ _ q1 (.of rs1.1 ?_)
    have rp2:=iY ((y_ (j - i).toNat).map fun(n:Nat)=>i + (n:Int)) rs1.drop.drop.2
    have er:eN i (j - i).toNat=((y_ (j - i).toNat).map fun(n:Nat)=>i + (n:Int)).map T.int:=by rw[D'];rfl
    rw[er]
    exact cY rp2 (by simp only[a_]) hp g e
end
end PL
namespace Mp
open PySem L2
noncomputable def top(i:Nat):M3:=PySem.Challenge.pw_millpath_k09_areas_whatever_the_size.main.body.getD i (.Pass ⟨0,0,0,0⟩)
abbrev gu:M3:=top 1
abbrev cV:M3:=top 2
abbrev dX:M3:=top 3
abbrev cJ:M3:=top 4
abbrev j6:M3:=top 6
abbrev mU:M3:=top 7
abbrev gX:M3:=top 8
abbrev s_same:M3:=top 9
abbrev qu:M3:=top 10
abbrev gU:M3:=top 11
abbrev fm:M3:=top 12
abbrev mR:M3:=top 13
abbrev mB:M3:=top 14
abbrev iu:M3:=top 15
abbrev f7:M3:=top 16
abbrev cU:M3:=top 17
abbrev dF:M3:=top 18
theorem p0{kvs:List (Key × V)}{k:Key}{v:V}:cH ((k,v)::kvs) k=some v:=by
 unfold cH
 rw[IA,show(decide ((k,v).1=k))=true from decide_eq_true rfl]
 rfl
theorem kZ{kvs:List (Key × V)}{k k':Key}{v:V}(h:¬ k=k'):cH ((k,v)::kvs) k'=cH kvs k':=by
 unfold cH
 rw[IA,show(decide ((k,v).1=k'))=false from decide_eq_false h]
theorem key_ne:¬((MO ("cells":Str):Key)=MO ("turn":Str)):=by decide +kernel
def stK(c:Ml)(t:Int):List (Key × V):=[(MO ("cells":Str),V.ref c),(MO ("turn":Str),V.int t)]
theorem o8(c:Ml)(t:Int):cH (stK c t) (MO ("cells":Str))=some (.ref c):=p0
theorem rR(c:Ml)(t:Int):cH (stK c t) (MO ("turn":Str))=some (.int t):=by
 unfold stK
 rw[kZ key_ne]
 exact p0
theorem DE(c:Ml)(t u:Int):putK (stK c t) (MO ("turn":Str)) (.int u)=stK c u:=by
 have e:((stK c t).any fun kv=>decide (kv.1=(MO ("turn":Str):Key)))=true:=by
  rw[fO,rR];rfl
 unfold putK
 rw[if_pos e]
 show [(if(MO ("cells":Str):Key)=MO ("turn":Str)then _ else _),(if(MO ("turn":Str):Key)=MO ("turn":Str)then _ else _)]=stK c u
 rw[if_neg key_ne,if_pos rfl]
 rfl
structure StAt (H:Hp) (st c:Ml) (cs:List Int) (t:Int):Prop where
 d:H st=some (.dK (stK c t))
 l:H c=some (.lst (cs.map V.int))
 pos:0 < cs.length
 len:cs.length<=63
theorem StAt.ne {H:Hp}{st c:Ml}{cs:List Int}{t:Int}(S:StAt H st c cs t):st≠c:=BF S.d S.l (by intro z;cases z)
theorem StAt.same {H H':Hp}{st c:Ml}{cs:List Int}{t:Int}(S:StAt H st c cs t)(e:aS H H'):StAt H' st c cs t:=⟨e _ _ S.d,e _ _ S.l,S.pos,S.len⟩
structure Txt (mg:Str->Option Mj):Prop where
 len:mg "len"=none
 list:mg "list"=none
 divmod:mg "divmod"=none
 isinstance:mg "isinstance"=none
 dict:mg "dict"=none
 tuple:mg "tuple"=none
 str:mg "str"=none
 int:mg "int"=none
 bool:mg "bool"=none
 all:mg "all"=none
 any:mg "any"=none
 zip:mg "zip"=none
 range:mg "range"=none
 max:mg "max"=none
 min:mg "min"=none
 abs:mg "abs"=none
 sum:mg "sum"=none
 sorted:mg "sorted"=none
 enumerate:mg "enumerate"=none
 set:mg "set"=none
 reversed:mg "reversed"=none
noncomputable def Ag(K:Mk):Sp:=fun vs H Q _=>∃(a:Ml) (ns:List Int),vs=[.ref a]/\SqL K H a (ns.map V.int)/\ns.length<=63/\∀(st c:Ml) (cs:List Int) (H':Hp),H st=none->H c=none->StAt H' st c cs 0->aS H H'->Q (.ref st) H'
noncomputable def DS:Sp:=fun vs H Q _=>∃(st c:Ml) (cs:List Int) (t m:Int),vs=[.ref st,.int m]/\StAt H st c cs t/\0<=t/\t < 2 ^ 40/\0 < m/\m < 1073741824/\
 ∀(r:Int) (cs':List Int) (H':Hp),0<=r->r < m->StAt H' st c cs' (t + 1)->Kp st c H H'->Q (.int r) H'
section
variable{P:MA}{w:MC}{K:Mk}{mg:Str->Option Mj}{base:MD}
theorem scB:FnScope ["_law_script","_law_cells"] ["_law_script"] (av j6):=⟨rfl,rfl,rfl,by decide +kernel,rfl,by decide +kernel,by decide +kernel⟩
theorem x8{f:Ml}{fd:MR}(F:Fun K "_law_begin" "_law_begin" j6 f fd)(T:Txt mg):FnOk P w K mg base CX0 1 f fd ["_law_script"] (Ag K):=by
 refine F.ok scB (fun vs H Q E h=>?_) (fun cdv A outer s H vs Q E hr h=>?_)
 ·obtain⟨a,ns,rfl,_⟩:=h
  rfl
 obtain⟨a,ns,rfl,hS,h63,q⟩:=h
 have sc:=@scB
 refine⟨_,(aR (dY (i:=1) sc.nd rfl (c_ rfl) (lG mN (by rfl) T.list (by decide +kernel) (ax (pR tj (pv 0) sE (ui bG)) bc)))
  (aR (fE (eE xc (pv 1) (x9 bc) (bP _)) (bY (dY (i:=1) sc.nd rfl (c_ rfl) (x9 (ax bG bc)))) cy)
  (bY (cW (B3 (oK eW (pv 1) (oK eW bG AH)) rfl rfl (by intro z;cases z) (by decide)))))),?_⟩
 refine⟨_,rfl,_,rfl,a,_,rfl,hS,fun p hp=>⟨p,_,rfl,.inl (SqL.of aE),fun l hl=>?_⟩⟩
 obtain⟨zs,ez,lz⟩:∃ zs:List Int,dG (ns.map V.int) none (some 63)=zs.map V.int/\zs.length<=63:=by
  refine⟨_,by unfold dG;rw[<-Lo,<-L5],?_⟩
  exact v_ (List.length_take_le' _ _) (v_ (by rw[HL];omega) h63)
 have hp0:H p=none:=hp
 have hl0:H l=none:=(bg hp _).none hl
 have g1:aS H (upd (upd H p (.lst (dG (ns.map V.int) none (some 63)))) l (.lst (dG (ns.map V.int) none (some 63)))):=(bg hp _).trans' (bg hl _)
 refine⟨_,rfl,(by show 0<=sizeLine;decide),fun e he=>?_⟩
 have hul:∀ o,upd (upd (upd H p (.lst (dG (ns.map V.int) none (some 63)))) l (.lst (dG (ns.map V.int) none (some 63)))) e o l=some (.lst (zs.map V.int)):=fun o=>by
  rw[aG (bz aE he),aE,ez]
 have he0:H e=none:=g1.none he
 have g2:=g1.trans' (bg he (.lst []))
 refine⟨.lst (di zs),.lst (di []),oV (SqL.of (hul _)),oV (SqL.of aE),?_,_,rfl,?_⟩
 ·have:=l5 hr
  rw[dpt,lQ]
  exact this
 have fin:∀(c:Ml) (cs:List Int) (H2:Hp),H c=none->aS H H2->H2 c=some (.lst (cs.map V.int))->0 < cs.length->cs.length<=63->∀ p,H2 p=none->StAt (upd (upd H2 p (.dK [])) p (.dK (dw [] [(MO ("cells":Str),V.ref c),(MO ("turn":Str),V.int 0)]))) p c cs 0/\aS H (upd (upd H2 p (.dK [])) p (.dK (dw [] [(MO ("cells":Str),V.ref c),(MO ("turn":Str),V.int 0)]))):=fun c cs H2 hc g h1 h2 h3 p hp=>by
  have em:dw [] [((MO ("cells":Str):Key),V.ref c),(MO ("turn":Str),V.int 0)]=stK c 0:=by
   show putK (putK ([]:List (Key × V)) (MO ("cells":Str)) (V.ref c)) (MO ("turn":Str)) (V.int 0)=stK c 0
   rw[qg _ (show cH ([]:List (Key × V)) (MO ("cells":Str))=none from rfl),Kk,qg _ (show cH [((MO ("cells":Str):Key),V.ref c)] (MO ("turn":Str))=none by rw[kZ key_ne];rfl)]
   rfl
  rw[em,As]
  exact⟨⟨aE,by rw[aG (bz h1 hp)];exact h1,h2,h3⟩,g.trans' (bg hp _)⟩
 refine G1 (fun c=>?_) (fun c=>?_)
 ·
  refine⟨(by show 1<=sizeLine;decide),fun c7 h7=>?_⟩
  have g3:=g2.trans' (bg h7 (.lst [V.int 7]))
  intro p' hp'
  obtain⟨S,g4⟩:=fin c7 [7] _ (g2.none h7) g3 aE (by decide) (by decide) p' hp'
  refine⟨_,rfl,?_,[(MO ("cells":Str),V.ref c7),(MO ("turn":Str),V.int 0)],rfl,(by show 2<=15;decide),?_⟩
  ·exact aE
  exact q p' c7 [7] _ (g3.none hp') (g2.none h7) S g4
 have c0:0 < zs.length:=by
  cases zs with
  | nil=>rw[fH]at c;cases c
  | cons a r=>exact Nat.succ_pos _
 intro p' hp'
 obtain⟨S,g4⟩:=fin l zs _ hl0 g2 (hul _) c0 lz p' hp'
 refine⟨_,rfl,?_,[(MO ("cells":Str),V.ref l),(MO ("turn":Str),V.int 0)],rfl,(by show 2<=15;decide),?_⟩
 ·exact aE
 exact q p' l zs _ (g2.none hp') hl0 S g4
theorem scT:FnScope ["_law_state","_law_many","_law_turn","_law_place","_law_cell","_law_digit","_law_mixed"] ["_law_state","_law_many"] (av mU):=⟨rfl,rfl,rfl,by decide +kernel,rfl,by decide +kernel,by decide +kernel⟩
theorem Az{f:Ml}{fd:MR}(F:Fun K "_law_take" "_law_take" mU f fd)(T:Txt mg):FnOk P w K mg base CX0 1 f fd ["_law_state","_law_many"] DS:=by
 refine F.ok scT (fun vs H Q E h=>?_) (fun cdv A outer s H vs Q E hr h=>?_)
 ·obtain⟨st,c,cs,t,m,rfl,_⟩:=h
  rfl
 obtain⟨st,c,cs,t,m,rfl,S,ht0,ht,hm0,hm1,q⟩:=h
 have sc:=@scT
 have hu:=l5 hr
 refine⟨_,(aR (dY (i:=2) sc.nd rfl (c_ rfl) (bU k7 (iX hu (pv 0) eW (fun _ _=>rfl)) bG))
  (aR (Af hu (pv 0) eW (pv 2) rfl)
  (aR (dY (i:=3) sc.nd rfl (c_ rfl) (bU gP (pv 2) (aX cB (by rfl) T.len (by decide +kernel) (ax (iX hu (pv 0) eW (fun _ _=>rfl)) bc))))
  (aR (dY (i:=4) sc.nd rfl (c_ rfl) (BQ sJ (iX hu (pv 0) eW (fun _ _=>rfl)) (pv 3) (fun _ _=>rfl)))
  (aR (fE (eE Cb (pv 4) (bU yi bG bG) (bP _)) (aR (wb (aX o7 (by rfl) T.divmod (by decide +kernel) (ax (pv 4) (ax (pv 1) bc))) (rj rfl (dA (yp (iX hu (pv 0) eW (fun _ _=>rfl)) (pv 3) set_list) (dA (j4 (i:=5) sc.nd rfl (c_ rfl)) mH))))
  (bY (cW (pv 5)))) cy)
  (aR (dY (i:=6) sc.nd rfl (c_ rfl) (bU gP (bU f9 (bU k7 (bU k7 (bU gP (pv 4) bG) (bU f9 (bU f9 (pv 2) (pv 2)) bG)) bG) bG) bG))
  (aR (dY (i:=6) sc.nd rfl (c_ rfl) (bU gP (bU f9 (pv 6) (pv 6)) bG))
  (bY (cW (bU gP (bU t7 (bU gP (bU f9 (bU k7 (pv 6) (bU f9 (pv 2) bG)) bG) bG) bG) (pv 1))))))))))),?_⟩
 have D0:iR H st (.str ("turn":Str)) (some (.int t)):=by rw[<-rR c t];exact iR.k (k:=MO ("turn":Str)) S.d
 refine⟨_,rfl,st,_,rfl,D0,_,_,rfl,rfl,?_⟩
 have hP:vK H st (.str ("turn":Str)) (.int (t + 1)) (upd H st (.dK (stK c (t + 1)))):=by
  rw[<-DE c t (t + 1)]
  exact vK.k (k:=MO ("turn":Str)) S.d (by show 2 < sizeLine;decide)
 refine⟨_,rfl,_,rfl,st,_,rfl,hP,?_⟩
 have S1:StAt (upd H st (.dK (stK c (t + 1)))) st c cs (t + 1):=⟨aE,by rw[aG S.ne.symm];exact S.l,S.pos,S.len⟩
 have K1:Kp st c H (upd H st (.dK (stK c (t + 1)))):=fun b o e n1 n2=>by rw[aG n1];exact e
 generalize upd H st (.dK (stK c (t + 1)))=H1 at S1 K1 ⊢
 have D1:iR H1 st (.str ("cells":Str)) (some (.ref c)):=by rw[<-o8 c (t + 1)];exact iR.k (k:=MO ("cells":Str)) S1.d
 have hl:(cs.map V.int).length=cs.length:=a_ _
 have hpos:(0:Int) < (((cs.map V.int).length:Nat):Int):=by rw[hl];have:=S.pos;omega
 refine⟨_,rfl,_,rfl,st,_,rfl,D1,c,_,rfl,.inl (SqL.of S1.l),_,_,rfl,rfl,hpos,?_⟩
 have j0:0<=(t + 1) % (((cs.map V.int).length:Nat):Int):=Km _ (by omega)
 have j1:(t + 1) % (((cs.map V.int).length:Nat):Int) < (cs.length:Int):=by
  have:=JV (t + 1) hpos
  rw[hl]at this ⊢
  exact this
 obtain⟨v,hat⟩:∃ v:Int,atI (cs.map V.int) ((t + 1) % (((cs.map V.int).length:Nat):Int))=some (.int v):=⟨_,vX j0 j1⟩
 refine⟨_,rfl,st,_,rfl,D1,_,rfl,c,_,_,_,rfl,rfl,SqL.of S1.l,hat,?_⟩
 refine⟨_,rfl,_,_,rfl,rfl,⟨by decide,by decide,by decide⟩,_,_,rfl,rfl,_,rfl,?_⟩
 refine G1 (fun hc=>?_) (fun hc=>?_)
 ·
  refine⟨_,rfl,_,rfl,_,_,rfl,⟨hm0,hm1⟩,fun p hp=>?_⟩
  have g:=bg hp (.tup [.int (v / m),.int (v % m)])
  have S2:=S1.same g
  have D2:iR (upd H1 p (.tup [.int (v / m),.int (v % m)])) st (.str ("cells":Str)) (some (.ref c)):=by rw[<-o8 c (t + 1)];exact iR.k (k:=MO ("cells":Str)) S2.d
  refine⟨p,_,rfl,SqT.of aE,rfl,_,_,rfl,?_⟩
  refine⟨_,rfl,st,_,rfl,D2,_,rfl,c,_,_,((t + 1) % (((cs.map V.int).length:Nat):Int)).toNat,rfl,rfl,S2.l,sM j0 (by rw[hl];rw[hl]at j1;exact j1),?_⟩
  refine⟨_,_,rfl,rfl,?_⟩
  refine⟨_,rfl,?_⟩
  have es:∀ j:Nat,(cs.map V.int).set j (.int (v / m))=(cs.set j (v / m)).map V.int:=fun j=>by rw[List.map_set]
  refine q (v % m) (cs.set ((t + 1) % (((cs.map V.int).length:Nat):Int)).toNat (v / m)) _ (Km _ (by omega)) (JV _ hm0) ⟨?_,?_,?_,?_⟩ ?_
  ·rw[aG S2.ne];exact S2.d
  ·rw[aE,es]
  ·rw[HV];exact S.pos
  ·rw[HV];exact S.len
  intro b o e n1 n2
  rw[aG n2]
  exact g b o (K1 b o e n1 n2)
 
 have mulR:∀(x y:Int),-(2 ^ 64) < y->y < 2 ^ 64->mC x y:=fun x y h1 h2=>.inr ⟨h1,h2⟩
 refine⟨_,rfl,_,_,rfl,rfl,(by show(0:Int) < 2147483629;decide),_,rfl,_,rfl,_,_,rfl,rfl,mulR _ _ (by omega) (by omega),_,_,rfl,rfl,mulR _ _ (by decide) (by decide),_,_,rfl,rfl,_,_,rfl,rfl,_,_,rfl,rfl,mulR _ _ (by decide) (by decide),_,_,rfl,rfl,(by show(0:Int) < 2147483647;decide),?_⟩
 generalize hM:(v % 2147483629 + (t + 1) * (t + 1) * 7919 + 11) * 48271 % 2147483647=M
 have m0:0<=M:=by rw[<-hM];exact Km _ (by decide)
 have m1:M < 2147483647:=by rw[<-hM];exact JV _ (by decide)
 refine⟨_,rfl,_,rfl,_,_,rfl,rfl,mulR _ _ (by omega) (by omega),_,_,rfl,rfl,(by show(0:Int) < 2147483587;decide),?_⟩
 refine⟨_,rfl,_,rfl,_,_,rfl,rfl,mulR _ _ (by decide) (by decide),_,_,rfl,rfl,_,_,rfl,rfl,mulR _ _ (by decide) (by decide),_,_,rfl,rfl,(by show(0:Int) < 2147483629;decide),_,_,rfl,rfl,⟨by decide,by decide⟩,_,rfl,_,_,rfl,rfl,hm0,?_⟩
 exact q _ cs H1 (Km _ (by omega)) (JV _ hm0) S1 K1
end
mutual
def gd:Dt->Bool
 | .bl _=>false
 | .lst ds=>decide (ds.length<=100000) && gdL ds
 | .tup ds=>decide (ds.length<=100000) && gdL ds
 | _=>true
def gdL:List Dt->Bool
 | []=>true
 | d::r=>gd d && gdL r
end
theorem nk:∀ {ds:List Dt} {i:Nat} {d:Dt},gdL ds=true->ds[i]?=some d->gd d=true
 | [],i,d,_,e=>by simp at e
 | c::r,0,d,h,e=>by
  rw[gdL,HP]at h
  simp at e
  subst e
  exact h.1
 | c::r,i + 1,d,h,e=>by
  rw[gdL,HP]at h
  exact nk h.2 (i:=i) (by simpa using e)
noncomputable def gv(K:Mk)(n:Nat):Sp:=fun vs H Q _=>∃(x y:V) (d:Dt),vs=[x,y]/\Has K H d x/\Has K H d y/\gd d=true/\dpt d < n/\∀ H',aS H H'->Q (.bl true) H'
theorem pV{α:Type}(n:Nat)(c:α):(y_ n).map (fun _=>c)=Iw n c:=by
 induction n with
 | zero=>rfl
 | succ n ih=>rw[IS,t_,ih,List.map_singleton,List.replicate_succ']
theorem iG(n:Nat):(y_ n).filter (fun _=>true)=y_ n:=by simp
section
variable{P:MA}{w:MC}{K:Mk}{mg:Str->Option Mj}{base:MD}
theorem scS:FnScope ["_law_found","_law_due"] ["_law_found","_law_due"] (av s_same):=⟨rfl,rfl,rfl,by decide +kernel,rfl,by decide +kernel,by decide +kernel⟩
set_option maxHeartbeats 1000000 in
theorem Bj{n:Nat}{f:Ml}{fd:MR}(F:Fun K "_law_same" "_law_same" s_same f fd)(T:Txt mg)(G_same:Cal P w K mg base n "_law_same" ["_law_found","_law_due"] (gv K n)) :
  FnOk P w K mg base CX0 (n + 1) f fd ["_law_found","_law_due"] (gv K (n + 1)):=by
 refine F.ok scS (fun vs H Q E h=>?_) (fun cdv A outer s H vs Q E hr h=>?_)
 ·obtain⟨x,y,d,rfl,_⟩:=h
  rfl
 obtain⟨x,y,d,rfl,hx,hy,hg,hd,q⟩:=h
 have sc:=@scS
 have nd2:(["_law_one","_law_other"]:List Str).Nodup:=by decide +kernel
 refine⟨_,(aR (fE (Dx (yt (pv 1))) (bY (cW (Ed (yt (pv 0))))) cy)
  (aR (fE (mD (aX aW (by rfl) T.isinstance (by decide +kernel) (ax (pv 1) (ax (bS (v:=.ty (Ty.nm .dct)) (by rfl) T.dict (by decide +kernel) rfl) bc)))) vP cy)
  (aR (fE (PW.pt (BY (mD (aX aW (by rfl) T.isinstance (by decide +kernel) (ax (pv 1) (ax (bS (v:=.ty (Ty.nm .lst)) (by rfl) T.list (by decide +kernel) rfl) bc)))) (yT (mD (aX aW (by rfl) T.isinstance (by decide +kernel) (ax (pv 1) (ax (bS (v:=.ty (Ty.nm .tup)) (by rfl) T.tuple (by decide +kernel) rfl) bc)))))))
   (aR (fE (eE w9 (aX aW (by rfl) T.isinstance (by decide +kernel) (ax (pv 0) (ax (bS (v:=.ty (Ty.nm .lst)) (by rfl) T.list (by decide +kernel) rfl) bc))) (aX aW (by rfl) T.isinstance (by decide +kernel) (ax (pv 1) (ax (bS (v:=.ty (Ty.nm .lst)) (by rfl) T.list (by decide +kernel) rfl) bc))) (bP _)) (bY (cW wL)) cy)
   (aR (fE (PW.pt (BY (eE w9 (aX aW (by rfl) T.isinstance (by decide +kernel) (ax (pv 0) (ax (bS (v:=.ty (Ty.nm .tup)) (by rfl) T.tuple (by decide +kernel) rfl) bc))) (aX aW (by rfl) T.isinstance (by decide +kernel) (ax (pv 1) (ax (bS (v:=.ty (Ty.nm .tup)) (by rfl) T.tuple (by decide +kernel) rfl) bc))) (bP _)) (yT (eE w9 (aX cB (by rfl) T.len (by decide +kernel) (ax (pv 0) bc)) (aX cB (by rfl) T.len (by decide +kernel) (ax (pv 1) bc)) (bP _))))) (bY (cW wL)) cy)
   (bY (cW (aX (oR rfl) (by rfl) T.all (by decide +kernel) (ax (qc sc ["_law_one","_law_other"] [none,none] nd2 (by decide +kernel) (xY (by rfl) T.zip (ax (pv 0) (ax (pv 1) bc))) (fun _ _ _=>(rj rfl (dA (j4 (i:=0) nd2 rfl (c_ rfl) (b_ rfl)) (dA (j4 (i:=1) nd2 rfl (c_ rfl) (b_ rfl)) mH)))) (fun _ _ _=>rM) (fun _ _ _=>(wH G_same hr (by rfl) (ax (pv 0) (ax (pv 1) bc))))) bc)))))) cy)
  (aR (fE (mD (aX aW (by rfl) T.isinstance (by decide +kernel) (ax (pv 1) (ax (bS (v:=.ty (Ty.nm .str)) (by rfl) T.str (by decide +kernel) rfl) bc)))) (bY (cW (mz (aX aW (by rfl) T.isinstance (by decide +kernel) (ax (pv 0) (ax (bS (v:=.ty (Ty.nm .str)) (by rfl) T.str (by decide +kernel) rfl) bc))) (rn (u7 C9 (pv 0) (pv 1) (bP _)))))) cy)
  (bY (cW (mz (aX aW (by rfl) T.isinstance (by decide +kernel) (ax (pv 0) (ax (bS (v:=.ty (Ty.nm .int)) (by rfl) T.int (by decide +kernel) rfl) bc))) (mz (DR (aX aW (by rfl) T.isinstance (by decide +kernel) (ax (pv 0) (ax (bS (v:=.ty (Ty.nm .bl)) (by rfl) T.bool (by decide +kernel) rfl) bc)))) (rn (u7 C9 (pv 0) (pv 1) (bP _))))))))))),?_⟩
 cases d with
 | bl b=>simp[gd]at hg
 | non=>
  rw[Has]at hx hy
  subst hx hy
  refine⟨_,rfl,_,rfl,jU (by decide) ⟨_,rfl,?_⟩⟩
  exact oA (by decide) (q H .bD)
 | int i=>
  rw[Has]at hx hy
  subst hx hy
  refine⟨_,rfl,_,rfl,bQ (by simp) ?_⟩
  refine⟨_,rfl,_,_,.int,[.dct],rfl,.int i,.inl ⟨_,rfl,rfl⟩,_,rfl,bQ (by decide) ?_⟩
  refine⟨_,rfl,_,_,.int,[.lst],rfl,.int i,.inl ⟨_,rfl,rfl⟩,_,rfl,bQ (by decide) ?_⟩
  refine⟨_,rfl,_,_,.int,[.tup],rfl,.int i,.inl ⟨_,rfl,rfl⟩,_,rfl,bQ (by decide) ?_⟩
  refine⟨_,rfl,_,_,.int,[.str],rfl,.int i,.inl ⟨_,rfl,rfl⟩,_,rfl,bQ (by decide) ?_⟩
  refine⟨_,rfl,_,_,.int,[.int],rfl,.int i,.inl ⟨_,rfl,rfl⟩,_,rfl,jU (by decide) ?_⟩
  refine⟨_,rfl,_,_,.int,[.bl],rfl,.int i,.inl ⟨_,rfl,rfl⟩,_,rfl,_,rfl,jU (by decide) ?_⟩
  refine⟨_,rfl,_,rfl,rfl,?_⟩
  exact oA (by simp) (q H .bD)
 | str i=>
  rw[Has]at hx hy
  subst hx hy
  refine⟨_,rfl,_,rfl,bQ (by simp) ?_⟩
  refine⟨_,rfl,_,_,.str,[.dct],rfl,.str i,.inl ⟨_,rfl,rfl⟩,_,rfl,bQ (by decide) ?_⟩
  refine⟨_,rfl,_,_,.str,[.lst],rfl,.str i,.inl ⟨_,rfl,rfl⟩,_,rfl,bQ (by decide) ?_⟩
  refine⟨_,rfl,_,_,.str,[.tup],rfl,.str i,.inl ⟨_,rfl,rfl⟩,_,rfl,bQ (by decide) ?_⟩
  refine⟨_,rfl,_,_,.str,[.str],rfl,.str i,.inl ⟨_,rfl,rfl⟩,_,rfl,jU (by decide) ?_⟩
  refine⟨_,rfl,_,_,.str,[.str],rfl,.str i,.inl ⟨_,rfl,rfl⟩,_,rfl,jU (by decide) ?_⟩
  refine⟨_,rfl,_,rfl,rfl,?_⟩
  exact oA (by simp) (q H .bD)
 | lst ds=>
  rw[Has]at hx hy
  obtain⟨a,xs,rfl,s1,l1⟩:=hx
  obtain⟨b,ys,rfl,s2,l2⟩:=hy
  have m1:=l1.len
  have m2:=l2.len
  have hg2:ds.length<=100000/\gdL ds=true:=by simpa[gd]using hg
  have hd2:cX ds < n:=by rw[dpt]at hd;omega
  refine⟨_,rfl,_,rfl,bQ (by simp) ?_⟩
  refine⟨_,rfl,_,_,.lst,[.dct],rfl,.lst s2,.inl ⟨_,rfl,rfl⟩,_,rfl,bQ (by decide) ?_⟩
  refine⟨_,rfl,_,_,.lst,[.lst],rfl,.lst s2,.inl ⟨_,rfl,rfl⟩,_,rfl,jU (by decide) ?_⟩
  refine⟨_,rfl,_,_,.lst,[.lst],rfl,.lst s1,.inl ⟨_,rfl,rfl⟩,_,rfl,_,_,.lst,[.lst],rfl,.lst s2,.inl ⟨_,rfl,rfl⟩,rfl,_,rfl,bQ (by simp) ?_⟩
  refine⟨_,rfl,_,_,.lst,[.tup],rfl,.lst s1,.inl ⟨_,rfl,rfl⟩,_,rfl,_,_,.lst,[.tup],rfl,.lst s2,.inl ⟨_,rfl,rfl⟩,rfl,_,rfl,bQ (by simp) ?_⟩
  refine⟨_,rfl,a,_,rfl,.inl s1,_,rfl,b,_,rfl,.inl s2,rfl,_,rfl,bQ (by rw[<-m1,<-m2];simp) ?_⟩
  refine⟨_,rfl,_,rfl,false,a,false,b,rfl,⟨xs,s1⟩,⟨ys,s2⟩,p9 (K:=K) (fun σ'=>σ'.length=2) ds.length (by have:=hg2.1;show ds.length < 2 ^ 24;omega) (fun _=>.bl true) (fun _=>true) (fun _=>by simp[qf]) rfl
   (yc (b1:=false) (b2:=false) s1 s2 m1.symm m2.symm) (oP (b1:=false) (b2:=false) s1 s2 m1.symm m2.symm) ?_ ?_⟩
  ·intro s3 H3' fp i σ' H' hi ok sm x H2 hy Nx Ap _ hA
   obtain⟨p',u,v,rfl,sm2,hp',hu,hv⟩:=rX (b1:=false) (b2:=false) s1 s2 sm hy
   obtain⟨z0,z1,rfl⟩:∃ z0 z1,σ'=[z0,z1]:=by
    match σ',ok with
    | [z0,z1],_=>exact⟨z0,z1,rfl⟩
   have sm3:=sm.trans' sm2
   refine⟨p',_,rfl,SqT.of hp',rfl,u,[v],rfl,v,[],rfl,rfl,?_⟩
   refine oO ?_
   refine⟨_,rfl,_,rfl,u,v,ds[i],rfl,Has.same sm3 (l1.get (d_ hi) hu),Has.same sm3 (l2.get (d_ hi) hv),nk hg2.2 (d_ hi),Ij (gf (d_ hi)) hd2,fun H5 s5=>?_⟩
   exact hA rfl _ _ H5 rfl (sm2.trans' s5) (by rw[Has])
  ·intro p acc H' hp sm hacc hl
   have e:((y_ ds.length).filter fun _=>true).map (fun _=>Dt.bl true)=(Iw ds.length true).map Dt.bl:=by rw[iG,pV,Lz]
   rw[e]at hl
   have hb:=eT hl
   rw[hb]at hacc
   refine⟨p,_,rfl,SqL.of hacc,?_⟩
   exact oA (by simp) (q H' sm)
 | tup ds=>
  rw[Has]at hx hy
  obtain⟨a,xs,rfl,s1,l1⟩:=hx
  obtain⟨b,ys,rfl,s2,l2⟩:=hy
  have m1:=l1.len
  have m2:=l2.len
  have hg2:ds.length<=100000/\gdL ds=true:=by simpa[gd]using hg
  have hd2:cX ds < n:=by rw[dpt]at hd;omega
  refine⟨_,rfl,_,rfl,bQ (by simp) ?_⟩
  refine⟨_,rfl,_,_,.tup,[.dct],rfl,.tup s2,.inl ⟨_,rfl,rfl⟩,_,rfl,bQ (by decide) ?_⟩
  refine⟨_,rfl,_,_,.tup,[.lst],rfl,.tup s2,.inl ⟨_,rfl,rfl⟩,_,rfl,bQ (by decide) ?_⟩
  refine⟨_,rfl,_,_,.tup,[.tup],rfl,.tup s2,.inl ⟨_,rfl,rfl⟩,_,rfl,jU (by decide) ?_⟩
  refine⟨_,rfl,_,_,.tup,[.lst],rfl,.tup s1,.inl ⟨_,rfl,rfl⟩,_,rfl,_,_,.tup,[.lst],rfl,.tup s2,.inl ⟨_,rfl,rfl⟩,rfl,_,rfl,bQ (by simp) ?_⟩
  refine⟨_,rfl,_,_,.tup,[.tup],rfl,.tup s1,.inl ⟨_,rfl,rfl⟩,_,rfl,_,_,.tup,[.tup],rfl,.tup s2,.inl ⟨_,rfl,rfl⟩,rfl,_,rfl,bQ (by simp) ?_⟩
  refine⟨_,rfl,a,_,rfl,.inr s1,_,rfl,b,_,rfl,.inr s2,rfl,_,rfl,bQ (by rw[<-m1,<-m2];simp) ?_⟩
  refine⟨_,rfl,_,rfl,true,a,true,b,rfl,⟨xs,s1⟩,⟨ys,s2⟩,p9 (K:=K) (fun σ'=>σ'.length=2) ds.length (by have:=hg2.1;show ds.length < 2 ^ 24;omega) (fun _=>.bl true) (fun _=>true) (fun _=>by simp[qf]) rfl
   (yc (b1:=true) (b2:=true) s1 s2 m1.symm m2.symm) (oP (b1:=true) (b2:=true) s1 s2 m1.symm m2.symm) ?_ ?_⟩
  ·intro s3 H3' fp i σ' H' hi ok sm x H2 hy Nx Ap _ hA
   obtain⟨p',u,v,rfl,sm2,hp',hu,hv⟩:=rX (b1:=true) (b2:=true) s1 s2 sm hy
   obtain⟨z0,z1,rfl⟩:∃ z0 z1,σ'=[z0,z1]:=by
    match σ',ok with
    | [z0,z1],_=>exact⟨z0,z1,rfl⟩
   have sm3:=sm.trans' sm2
   refine⟨p',_,rfl,SqT.of hp',rfl,u,[v],rfl,v,[],rfl,rfl,?_⟩
   refine oO ?_
   refine⟨_,rfl,_,rfl,u,v,ds[i],rfl,Has.same sm3 (l1.get (d_ hi) hu),Has.same sm3 (l2.get (d_ hi) hv),nk hg2.2 (d_ hi),Ij (gf (d_ hi)) hd2,fun H5 s5=>?_⟩
   exact hA rfl _ _ H5 rfl (sm2.trans' s5) (by rw[Has])
  intro p acc H' hp sm hacc hl
  have e:((y_ ds.length).filter fun _=>true).map (fun _=>Dt.bl true)=(Iw ds.length true).map Dt.bl:=by rw[iG,pV,Lz]
  rw[e]at hl
  have hb:=eT hl
  rw[hb]at hacc
  refine⟨p,_,rfl,SqL.of hacc,?_⟩
  exact oA (by simp) (q H' sm)
theorem same_none{f:Ml}{fd:MR}:FnOk P w K mg base CX0 0 f fd ["_law_found","_law_due"] (gv K 0):=by
 have no:∀ vs H Q E,¬ gv K 0 vs H Q E:=fun vs H Q E h=>by
  obtain⟨x,y,d,_,_,_,_,h,_⟩:=h
  omega
 exact⟨fun vs H Q E h=>absurd h (no vs H Q E),fun A outer s H args us vs Q E _ _ _ _ h=>absurd h (no vs H Q E)⟩
theorem pJ(D:Dfn K mg "_law_same" s_same ["_law_found","_law_due"])(T:Txt mg):∀ n,Cal P w K mg base n "_law_same" ["_law_found","_law_due"] (gv K n)
 | 0=>D.cal fun _ _ _=>same_none
 | n + 1=>D.cal fun _ _ F=>Bj F T (pJ D T n)
end
open PySem L2 PL
structure Cells where
 cs:List Int
 pos:0 < cs.length
 len:cs.length<=63
noncomputable def stT(c:Cells)(n:Nat):T:=.dK true [(MO ("cells":Str),.lst true (c.cs.map T.int)),(MO ("turn":Str),.int (n:Int))]
theorem rT{c:Cells}{n:Nat}:isAny (stT c n)=false:=rfl
noncomputable def Scr(K:Mk)(t:T)(ns:List Int):Prop:=t=.lst false (ns.map T.int)\/∃ a,t=.hole (.ref a)/\∀ H,SqL K H a (ns.map V.int)
noncomputable def mZ(K:Mk):FP:=fun ts k=>∃ t,∃ ns:List Int,ts=[t]/\Scr K t ns/\ns.length<=63/\∀ c,k (stT c 0) ts
noncomputable def gM:FP:=fun ts k=>∃ c n m,ts=[stT c n,.int m]/\n < 2 ^ 40/\0 < m/\m < 1073741824/\∀ r c',0<=r->r < m->k (.int r) [stT c' (n + 1),.int m]
noncomputable def gI(n:Nat):FP:=fun ts k=>∃ f d,ts=[f,d]/\isD f=true/\isD d=true/\dt f=dt d/\gd (dt d)=true/\dpt (dt d) < n/\k (.bl true) ts
section
variable{P:MA}{w:MC}{K:Mk}{mg:Str->Option Mj}{base:MD}
theorem nN{α β:Type}{l:List (α × β)}{a b:α}(h:[a,b]=l.map (·.1)):∃ v w,l=[(a,v),(b,w)]:=by
 cases l with
 | nil=>cases h
 | cons x l=>
  cases l with
  | nil=>cases h
  | cons y l=>
   cases l with
   | nil=>
    have h1:=(Jf h).1
    have h2:=(Jf (Jf h).2).1
    exact⟨x.2,y.2,by rw[h1,h2]⟩
   | cons z l=>cases (Jf (Jf h).2).2
theorem nV{H:Hp}{a:Ml}{o:HO}(h:H a=some o):Put H a o H:=⟨h,fun _ _=>rfl⟩
theorem Gb{H:Hp}{Γ:Fm}{c:Cells}{n:Nat}{v:V}(h:Rp K H ((stT c n,some v)::Γ)):∃ st l,v=.ref st/\StAt H st l c.cs n/\Rp K H ((.bare,some (.ref st))::(.bare,some (.ref l))::Γ):=by
 obtain⟨st,kvs,ev,hs,ek,h2⟩:=qa h
 cases ev
 obtain⟨v1,v2,rfl⟩:=nN ek
 have h2:Rp K H ((.bare,some (.ref st))::(.lst true (c.cs.map T.int),some v1)::(.int (n:Int),some v2)::Γ):=h2
 have e2:v2=.int n:=aK h2.tail.tail
 subst e2
 have h3:=h2.perm (.swap _ _ _)
 obtain⟨l,vs,el,hl,ll,h4⟩:=dj h3
 cases el
 have ev:vs=c.cs.map V.int:=cA ll h4.tail
 subst ev
 refine⟨st,l,rfl,⟨hs,hl,c.pos,c.len⟩,?_⟩
 have h5:Rp K H ((.bare,some (.ref l))::(.bare,some (.ref st))::(.int (n:Int),some (.int n))::Γ):=by
  have:Rp K H (zz (c.cs.map T.int) (c.cs.map V.int)++((.bare,some (.ref l))::(.bare,some (.ref st))::(.int (n:Int),some (.int n))::Γ)):=h4.perm j_.symm
  exact this.part
 exact(h5.perm (by
  refine C' (.cons _ (.swap _ _ _)) ?_
  refine C' (.swap _ _ _) ?_
  exact .cons _ (.swap _ _ _))).tail
theorem pG{H:Hp}{Γ:Fm}:∀(ns:List Int),Rp K H Γ->Rp K H (zz (ns.map T.int) (ns.map V.int)++Γ)
 | [],h=>h
 | n::r,h=>bO (pG r h) fun _=>.int
theorem xB{H:Hp}{Γ:Fm}{cs:List Int}{n:Nat}{st l:Ml}(S:StAt H st l cs n)(h:Rp K H ((.bare,some (.ref st))::(.bare,some (.ref l))::Γ)):∃ c,Rp K H ((stT c n,some (.ref st))::Γ):=by
 refine⟨⟨cs,S.pos,S.len⟩,?_⟩
 have h1:Rp K H ((.bare,some (.ref l))::(zz (cs.map T.int) (cs.map V.int)++((.bare,some (.ref st))::Γ))):=(pG cs (h.perm (.swap _ _ _))).perm j_
 have h2:=d3 h1 (by rw[a_,a_]) (nV S.l)
 have h3:Rp K H ((.bare,some (.ref st))::((.lst true (cs.map T.int),some (.ref l))::(.int (n:Int),some (.int n))::Γ)):=by
  refine(bO (t:=.int (n:Int)) h2 fun _=>.int).perm ?_
  refine C' (.swap _ _ _) ?_
  refine C' (.cons _ (.swap _ _ _)) ?_
  exact .swap _ _ _
 exact lV (ts:=[(MO ("cells":Str),.lst true (cs.map T.int)),(MO ("turn":Str),.int (n:Int))]) (vs:=stK l n) h3 rfl (nV S.d)
theorem EO{H H':Hp}{a c:Ml}{Γ:Fm}(h:Rp K H ((.bare,some (.ref a))::(.bare,some (.ref c))::Γ))(k:Kp a c H H')(ha:∃ u,H' a=some u/\∀ xs,u≠.tup xs)(hc:∃ u,H' c=some u/\∀ xs,u≠.tup xs):Rp K H' ((.bare,some (.ref a))::(.bare,some (.ref c))::Γ):=by
 obtain⟨ua,ea,na⟩:=ha
 obtain⟨uc,ec,nc⟩:=hc
 obtain⟨Hz,N,h,nd,g,d⟩:=h
 cases h with
 | cons e1 h1 c1=>
  cases c1 with
  | cons e2 h2 c2=>
   rcases h1 with⟨z,_⟩ | ⟨v1,ev1,h1⟩
   ·cases z
   rcases h2 with⟨z,_⟩ | ⟨v2,ev2,h2⟩
   ·cases z
   cases ev1;cases ev2
   cases h1;cases h2
   rename_i M u1 hu1 nt1 u2 hu2 nt2
   subst e2;subst e1
   have nd':(a::c::M).Nodup:=nd
   rw[G_,G_]at nd'
   have keep:∀ b o,H b=some o->b≠a->b≠c->H' b=some o:=k
   have tk:TK H H':=fun b xs r=>keep b _ r (fun z=>nt1 xs (z ▸ r)) (fun z=>nt2 xs (z ▸ r))
   have za:Hz a=none:=d a s_
   have zc:Hz c=none:=d c (r_ _ s_)
   have g':Gr Hz H':=fun b u r=>by
    obtain⟨w',q⟩:=Rd.some r
    have b1:b≠a:=fun z=>by rw[z,za]at q;cases q
    have b2:b≠c:=fun z=>by rw[z,zc]at q;cases q
    rcases g b u r with r | ⟨o,r⟩
    ·exact .inl (keep b _ r b1 b2)
    exact .inr ⟨o,keep b _ r b1 b2⟩
   refine⟨Hz,[a]++([c]++M),.cons rfl (.inr ⟨_,rfl,.bare ea fun xs z=>?_⟩) (.cons rfl (.inr ⟨_,rfl,.bare ec fun xs z=>?_⟩) (c2.move tk .bD fun b m u e=>?_)),nd,g',d⟩
   ·rw[ea]at z;exact na xs (HU z)
   ·rw[ec]at z;exact nc xs (HU z)
   have b1:b≠a:=fun z=>nd'.1 (by rw[<-z];exact r_ _ m)
   have b2:b≠c:=fun z=>nd'.2.1 (by rw[<-z];exact m)
   exact⟨keep b u e b1 b2,fun nt xs r=>nt xs (by rw[keep b u e b1 b2]at r;exact e.trans r)⟩
theorem zX{H H':Hp}{a c:Ml}{Γ:Fm}(h:Rp K H Γ)(ha:H a=none)(hc:H c=none)(ne:a≠c)(s:aS H H')(ea:∃ u,H' a=some u/\∀ xs,u≠.tup xs)(ec:∃ u,H' c=some u/\∀ xs,u≠.tup xs):Rp K H' ((.bare,some (.ref a))::(.bare,some (.ref c))::Γ):=by
 obtain⟨ua,ea,na⟩:=ea
 obtain⟨uc,ec,nc⟩:=ec
 obtain⟨Hz,N,h,nd,g,d⟩:=h
 have n1:a ∉ N:=fun m=>by
  obtain⟨⟨u,e⟩,_⟩:=h.there a m
  rw[ha]at e;cases e
 have n2:c ∉ N:=fun m=>by
  obtain⟨⟨u,e⟩,_⟩:=h.there c m
  rw[hc]at e;cases e
 refine⟨Hz,[a]++([c]++N),.cons rfl (.inr ⟨_,rfl,.bare ea fun xs z=>?_⟩) (.cons rfl (.inr ⟨_,rfl,.bare ec fun xs z=>?_⟩) (h.move (aS.tk s) .bD fun b m u e=>eI s b u e)),?_,g.trans (.of s),?_⟩
 ·rw[ea]at z;exact na xs (HU z)
 ·rw[ec]at z;exact nc xs (HU z)
 ·show(a::c::N).Nodup
  rw[G_,G_]
  exact⟨fun m=>(o_.mp m).elim (fun z=>ne z) n1,n2,nd⟩
 intro b m
 have m:b∈a::c::N:=m
 rcases o_.mp m with rfl | m
 ·exact g.none ha
 rcases o_.mp m with rfl | m
 ·exact g.none hc
 exact d b m
theorem yZ(D:Dfn K mg "_law_take" mU ["_law_state","_law_many"])(TX:Txt mg):Cal P w K mg base 1 "_law_take" ["_law_state","_law_many"] (b8 K 2 gM):=by
 refine(D.cal fun _ _ F=>Az F TX).imp ?_
 rintro vs H Q E ⟨ts,Fr,k,l,hn,rp,⟨c,n,m,rfl,h1,h2,h3,pk⟩,q⟩
 obtain⟨x,y,rfl⟩:=zz2 l rfl
 have rp:Rp K H ((stT c n,some x)::(.int m,some y)::Fr):=rp
 have ey:=aK rp.tail
 subst ey
 obtain⟨st,lc,rfl,S,rp2⟩:=Gb rp
 refine⟨st,lc,c.cs,n,m,rfl,S,by omega,by omega,h2,h3,fun r cs' H' hr0 hr1 S' kp=>?_⟩
 have rp3:=EO rp2 kp ⟨_,S'.d,fun _ z=>by cases z⟩ ⟨_,S'.l,fun _ z=>by cases z⟩
 have S'':StAt H' st lc cs' ((n + 1:Nat):Int):=by push_cast;exact S'
 obtain⟨c',rp4⟩:=xB S'' rp3
 exact q _ _ _ _ (pk r c' hr0 hr1) (bO rp4 fun _=>.int)
theorem qw{H:Hp}{Γ:Fm}{w y:V}(h:Rp K H ((.hole w,some y)::Γ)):y=w:=by
 obtain⟨_,_,r,_⟩:=fg h rfl
 cases r
 rfl
theorem uX(D:Dfn K mg "_law_begin" j6 ["_law_script"])(TX:Txt mg):Cal P w K mg base 1 "_law_begin" ["_law_script"] (b8 K 1 (mZ K)):=by
 refine(D.cal fun _ _ F=>x8 F TX).imp ?_
 rintro vs H Q E ⟨ts,Fr,k,l,hn,rp,⟨t,ns,rfl,hs,h1,pk⟩,q⟩
 obtain⟨x,rfl⟩:=zz1 l rfl
 have rp:Rp K H ((t,some x)::Fr):=rp
 obtain⟨a,rfl,hq⟩:∃ a,x=.ref a/\SqL K H a (ns.map V.int):=by
  rcases hs with rfl | ⟨a,rfl,hs⟩
  ·obtain⟨a,us,rfl,hq,l2,rp2⟩:=aB rfl rp
   have eu:=cA l2 rp2
   subst eu
   exact⟨a,rfl,hq⟩
  exact⟨a,qw rp,hs H⟩
 refine⟨a,ns,rfl,hq,h1,fun st lc cs H' hs hl S g=>?_⟩
 have rp3:=zX rp hs hl S.ne g ⟨_,S.d,fun _ z=>by cases z⟩ ⟨_,S.l,fun _ z=>by cases z⟩
 obtain⟨c,rp4⟩:=xB (n:=0) S rp3
 exact q _ _ _ _ (pk c) rp4
noncomputable def wa(K:Mk):FP:=fun ts k=>∃ t,∃ ns:List Int,ts=[t]/\Scr K t ns/\ns.length<=63/\∀ z,k (.bl true) [z]
noncomputable def sD(K:Mk):Sp:=fun vs H Q _=>∃(a:Ml) (ns:List Int),vs=[.ref a]/\SqL K H a (ns.map V.int)/\ns.length<=63/\∀ H',Q (.bl true) H'
theorem pz{Hz H:Hp}:∀(ns:List Int),RepTs K Hz H (ns.map T.int) (ns.map V.int) []
 | []=>.nil
 | _::r=>.cons rfl .int (pz r)
theorem Ep{k:Nat}{f:Ml}{fd:MR}(F:FnOk P w K mg base CX0 k f fd ["_law_script"] (b8 K 1 (wa K))):FnOk P w K mg base CX0 k f fd ["_law_script"] (sD K):=by
 refine F.imp ?_
 rintro vs H Q E ⟨a,ns,rfl,hq,h1,q⟩
 have key:∀ t,Scr K t ns->(∀ Hz,RepT K H Hz t (.ref a) [])->b8 K 1 (wa K) [.ref a] H Q E:=fun t sc ht=>
  ⟨[t],[],fun t _=>t=.bl true,rfl,rfl,⟨H,[],.cons rfl (.inr ⟨_,rfl,ht H⟩) .nil,IZ,.bD,fun _ m=>by cases m⟩,⟨t,ns,rfl,sc,h1,fun _=>rfl⟩,fun t ts' v H' e rp=>by
   subst e
   rw[l6 rp]
   exact q H'⟩
 rcases hq with hq | hq
 ·exact key _ (.inl rfl) fun Hz=>.lstZ hq (pz ns)
 exact key _ (.inr ⟨a,rfl,fun H=>.inr hq⟩) fun Hz=>.hole
theorem xA{x y:Str}(D:Dfn K mg "_law_same" s_same [x,y])(n:Nat)(C:Cal P w K mg base n "_law_same" [x,y] (gv K n)):Cal P w K mg base n "_law_same" [x,y] (b8 K 2 (gI n)):=by
 refine C.imp ?_
 rintro vs H Q E ⟨ts,Fr,k,l,hn,rp,⟨f,d,rfl,h1,h2,h3,h4,h5,pk⟩,q⟩
 obtain⟨u,v,rfl⟩:=zz2 l rfl
 have rp:Rp K H ((f,some u)::(d,some v)::Fr):=rp
 have r1:=mX rp h1
 rw[h3]at r1
 exact⟨u,v,dt d,rfl,r1,mX rp.tail h2,h4,h5,fun H' g=>q _ _ _ _ pk (bO (rp.same g) fun _=>.bl)⟩
end
open PySem L2 PL
noncomputable def EU:=h_ @PL.Cs (h_ @PL.Bu (h_ @PL.DQ (h_ @PL.Cy (h_ @PL.CG (h_ @PL.Ay (h_ @PL.Ad (h_ @PL.vn (h_ @PL.xI (h_ @PL.wC (h_ @PL.Al (h_ @PL.Ci (h_ @PL.zu (h_ @PL.zR (h_ @PL.yx (h_ @PL.CI (h_ @PL.Bp (h_ @PL.Bf (h_ @PL.zj (h_ @PL.x5 (h_ @PL.DT (h_ @PL.zL (h_ @PL.Ec (h_ @PL.zB (h_ @PL.B8 (h_ @PL.va (h_ @PL.Bh (h_ @PL.AR (h_ @PL.AY (h_ @PL.vV (h_ @PL.DU (h_ @PL.CP (h_ @PL.Ex (h_ @PL.Dn (h_ @PL.Df (h_ @PL.Au (h_ @PL.Aa (h_ @PL.AN (h_ @PL.yv (h_ @PL.Ea (h_ @PL.Ey (h_ @PL.Ce (h_ @PL.Eg (h_ @PL.CM (h_ @PL.Dv (h_ @PL.zI (h_ @PL.yU (h_ @PL.Aw (h_ @PL.Dp (h_ @PL.DY (h_ @PL.EH (h_ @PL.DO (h_ @PL.Dq (h_ @PL.wK (h_ @PL.Cg (h_ @PL.FW (h_ @PL.Eu (h_ @PL.Es (h_ @PL.qv (h_ @PL.qr (h_ @PL.Ak (@PL.Ax)))))))))))))))))))))))))))))))))))))))))))))))))))))))))))))
noncomputable def FK:=h_ @PL.E3 (h_ @PL.Bt (h_ @PL.yW (h_ @PL.xX (h_ @PL.EX (h_ @PL.Fv (h_ @PL.Fo (h_ @PL.F4 (h_ @PL.Fx (h_ @PL.GP (h_ @PL.Gv (h_ @PL.GL (h_ @PL.o6 (h_ @PL.lP (h_ @PL.B1 (h_ @PL.fw (h_ @PL.zD (h_ @PL.rA (h_ @PL.qX (h_ @PL.bT (h_ @PL.eC (h_ @PL.uN (h_ @PL.yF (h_ @PL.xC (h_ @PL.Bb (h_ @j'.{0,0} (h_ @Ja.{0,0} (h_ @a_.{0,0} (h_ @List.zipWith_nil_right.{0,0,0} (h_ @decide_eq_true_eq (h_ @Ll (h_ @Lf (h_ @JM (h_ @Bool.and_self (h_ @true_and (h_ @Option.map_some.{0,0} (h_ @JT (h_ @JA (@PySem.sizeLine_eq))))))))))))))))))))))))))))))))))))))
theorem sF{α:Type}{l:List α}{i:Int}(h0:0<=i)(h1:i < l.length):∃ x,x∈l/\atI l i=some x:=by
 have h:i.toNat < l.length:=by lia
 refine⟨l[i.toNat],IC h,?_⟩
 have:=cz (xs:=l) (j:=i.toNat) (d_ h)
 rwa[Lr h0]at this
theorem eB(P:Int->Prop){ns:List Int}{i:Int}(h0:0<=i)(h1:i < ns.length)(hp:∀ x∈ns,P x):∃ v,atI (ns.map T.int) i=some (.int v)/\P v:=by
 obtain⟨t,m,e⟩:=sF (l:=ns.map T.int) h0 (by rw[a_];exact h1)
 obtain⟨v,mv,rfl⟩:=m_.mp m
 exact⟨v,e,hp v mv⟩
theorem Du{K:Mk}{t:T}{ns:List Int}(h:Scr K t ns):er t=t/\isAny t=false:=by
 rcases h with rfl | ⟨a,rfl,_⟩
 ·exact⟨by simp only[er,fw],rfl⟩
 exact⟨rfl,rfl⟩
theorem jB{c:Cells}{n:Nat}:cG (stT c n)=true:=by simp only[stT,cG,jy,eC,yF,JM,L6]
theorem map_take{α β:Type}{g:α->β}{l:List α}{i:Nat}{x:α}(h:l[i]?=some x):Ib g (l.take (i + 1))=Ib g (l.take i)++[g x]:=by rw[Im,h,t_];rfl
theorem lF{α β:Type}{g:α->β}{p:α->Bool}{l:List α}{i:Nat}{x:α}(h:l[i]?=some x):Ib g ((l.take (i + 1)).filter p)=Ib g ((l.take i).filter p)++(if p x then [g x]else []):=by
 rw[Im,h,Kz,t_]
 congr 1
 show Ib g (List.filter p [x])=_
 rw[K6]
 cases p x <;> rfl
theorem wk{i:Int}:isD (.int i)=true:=rfl
theorem xK:i5 []=true:=rfl
theorem yy{i:Int}{ts:List T}:i5 (.int i::ts)=i5 ts:=by rw[i5,wk,JM]
theorem rW{a b:Int}:(cX (dtL [.int a,.int b]) < 180)=True:=eq_true (by simp[dt,dtL,dpt,cX])
def Gd(t:T)(n:Nat):Prop:=isD t=true/\gd (dt t)=true/\dpt (dt t)<=n
def GdL(ts:List T)(n:Nat):Prop:=i5 ts=true/\gdL (dtL ts)=true/\cX (dtL ts)<=n
theorem zA{i:Int}{n:Nat}:Gd (.int i) n:=⟨rfl,rfl,by rw[dt,dpt.eq_def];exact F' _⟩
theorem A9{n:Nat}:GdL [] n:=⟨rfl,by simp only[dtL,gdL],by simp only[dtL,cX,F']⟩
theorem pN{t:T}{ts:List T}{n:Nat}(h:Gd t n)(r:GdL ts n):GdL (t::ts) n:=
 ⟨by rw[i5,h.1,r.1];rfl,by rw[dtL,gdL,h.2.1,r.2.1];rfl,by rw[dtL,cX];exact Nat.max_le.mpr ⟨h.2.2,r.2.2⟩⟩
theorem Hl{o:Bool}{ts:List T}{n:Nat}(h:GdL ts n)(hl:ts.length<=100000):Gd (.lst o ts) (n + 1):=
 ⟨by rw[isD];exact h.1,by rw[dt,gd,h.2.1,decide_eq_true (by rw[CV,a_];exact hl)];rfl,by rw[dt,dpt];exact LL h.2.2⟩
theorem B6{f d:T}{n m:Nat}{k:T->List T->Prop}(h:Gd d n)(hn:n < m)(hi:isD f=true)(e:dt f=dt d)(q:k (.bl true) [f,d]):gI m [f,d] k:=⟨f,d,rfl,hi,h.1,e,h.2.1,Ij h.2.2 hn,q⟩
theorem same_self{d:T}{n m:Nat}{k:T->List T->Prop}(h:Gd d n)(hn:n < m)(q:k (.bl true) [d,d]):gI m [d,d] k:=B6 h hn h.1 rfl q
structure Oc where
 a:Int
 b:Int
 c:Int
 d:Int
 e:Int
 f:Int
 g:Int
 h:Int
def Sm(f:Int->Int)(a:Int):Nat->Int
 | 0=>0
 | n + 1=>Sm f a n + f (a + n)
theorem aQ{f g:Int->Int}{a:Int}:∀ {n:Nat},(∀ x,a<=x->x < a + n->f x=g x)->Sm f a n=Sm g a n
 | 0,_=>rfl
 | n + 1,h=>by
  rw[Sm,Sm,aQ fun x h1 h2=>h x h1 (by lia),h (a + n) (by lia) (by lia)]
theorem dm{f g:Int->Int}{a:Int}:∀ {n:Nat},Sm (fun x=>f x + g x) a n=Sm f a n + Sm g a n
 | 0=>rfl
 | n + 1=>by rw[Sm,Sm,Sm,dm];lia
theorem eV{f:Int->Int}{a:Int}{n:Nat}:∀ {m:Nat},Sm f a (n + m)=Sm f a n + Sm f (a + n) m
 | 0=>by rw[Ki,Sm,JW]
 | m + 1=>by
  rw[<-JL,Sm,Sm,eV,show a + ((n + m:Nat):Int)=a + n + m by lia]
  lia
theorem cj{f:Int->Int}{a:Int}{n:Nat}(h:∀ x,a<=x->x < a + n->f x=0):Sm f a n=0:=by
 induction n with
 | zero=>rfl
 | succ n ih=>rw[Sm,ih fun x h1 h2=>h x h1 (by lia),h (a + n) (by lia) (by lia)];rfl
theorem wj{f:Int->Int}{a b:Int}{n m:Nat}(h1:a<=b)(h2:b + m<=a + n)(z:∀ x,x < b\/b + m<=x->f x=0):Sm f a n=Sm f b m:=by
 obtain⟨p,rfl⟩:∃ p:Nat,b=a + p:=⟨(b - a).toNat,by lia⟩
 obtain⟨q,rfl⟩:∃ q:Nat,n=p + m + q:=⟨n - (p + m),by lia⟩
 rw[eV,eV,cj (n:=p) fun x g1 g2=>z x (.inl g2),cj (n:=q) fun x g1 g2=>z x (.inr (by lia))]
 lia
theorem n5{f:Int->Int}{a:Int}:∀ {n:Nat},Sm f (2 * a) (2 * n)=Sm (fun x=>f (2 * x) + f (2 * x + 1)) a n
 | 0=>rfl
 | n + 1=>by
  rw[show 2 * (n + 1)=2 * n + 1 + 1 by lia,Sm,Sm,Sm,n5,show 2 * a + ((2 * n:Nat):Int)=2 * (a + n) by lia,show 2 * a + ((2 * n + 1:Nat):Int)=2 * (a + n) + 1 by lia]
  lia
theorem uD{f:Int->Int}{a:Int}{n:Nat}:Sm f (4 * a) (4 * n)=Sm (fun x=>f (4 * x) + f (4 * x + 1) + (f (4 * x + 2) + f (4 * x + 3))) a n:=by
 rw[show 4 * a=2 * (2 * a) by lia,show 4 * n=2 * (2 * n) by lia,n5,n5]
 refine aQ fun x _ _=>?_
 rw[show 2 * (2 * x)=4 * x by lia,show 2 * (2 * x + 1)=4 * x + 2 by lia,show 4 * x + 2 + 1=4 * x + 3 by lia]
theorem mK{α β l:Int}:∀ {n:Nat},Sm (fun j=>α + β * (2 * j + 1)) l n=n * (α + β * (l + (l + n)))
 | 0=>by rw[Sm];lia
 | n + 1=>by
  rw[Sm,mK]
  push_cast
  grind
def bi(p:Prop)[Decidable p]:Int:=if p then 1 else 0
theorem lJ{p q:Prop}[Decidable p][Decidable q](h:p↔q):bi p=bi q:=by
 unfold bi
 by_cases c:p
 ·rw[if_pos c,if_pos (h.mp c)]
 rw[if_neg c,if_neg fun z=>c (h.mpr z)]
theorem xF{l h a:Int}{n:Nat}(h1:a<=l)(h2:l<=h)(h3:h<=a + n):Sm (fun y=>bi (l<=y/\y < h)) a n=h - l:=by
 rw[wj (f:=fun y=>bi (l<=y/\y < h)) (b:=l) (m:=(h - l).toNat) h1 (by lia) fun x hx=>if_neg (by lia)]
 have:∀ m:Nat,(m:Int)<=h - l->Sm (fun y=>bi (l<=y/\y < h)) l m=m:=by
  intro m
  induction m with
  | zero=>exact fun _=>rfl
  | succ m ih=>
   intro hm
   rw[Sm,ih (by lia)]
   rw[show bi (l<=l + m/\l + m < h)=1 from if_pos (by lia)]
   rfl
 rw[this _ (by lia)]
 lia
noncomputable def sw(t:Int):List (Int × Int)->Int
 | []=>0
 | p::r=>if t < p.2 then p.2 - max p.1 t + sw p.2 r else sw t r
def Cv(r:List (Int × Int))(y:Int):Prop:=∃ p∈r,p.1<=y/\y < p.2
instance (r:List (Int × Int)) (y:Int):Decidable (Cv r y):=by unfold Cv;infer_instance
theorem jS{a:Int}{n:Nat}:∀ {r:List (Int × Int)} {t:Int},r.Pairwise (fun p q=>p.1<=q.1)->(∀ p∈r,p.1<=p.2/\a<=p.1/\p.2<=a + n)->a<=t->Sm (fun y=>bi (t<=y/\Cv r y)) a n=sw t r
 | [],t,_,_,_=>by
  rw[sw]
  exact cj fun x _ _=>if_neg fun z=>by obtain⟨_,p,hp,_⟩:=z;cases hp
 | p::r,t,ho,hb,ht=>by
  rw[sw]
  obtain⟨o1,o2⟩:=Ip.mp ho
  obtain⟨b1,b2,b3⟩:=hb p s_
  have hb':∀ p∈r,p.1<=p.2/\a<=p.1/\p.2<=a + n:=fun q hq=>hb q (r_ _ hq)
  by_cases c:t < p.2
  ·rw[if_pos c,<-jS o2 hb' (show a<=p.2 by lia),<-xF (l:=max p.1 t) (h:=p.2) (a:=a) (n:=n) (by lia) (by lia) b3,<-dm]
   refine aQ fun y _ _=>?_
   unfold bi
   by_cases y1:y < p.2
   ·rw[if_neg (fun z=>by lia:¬(p.2<=y/\Cv r y)),JW]
    by_cases y2:max p.1 t<=y
    ·rw[if_pos ⟨by lia,p,s_,by lia,y1⟩,if_pos ⟨y2,y1⟩]
    rw[if_neg,if_neg fun z=>y2 z.1]
    rintro⟨g1,q,hq,g2,g3⟩
    rcases o_.mp hq with rfl | hq
    ·lia
    have:=o1 q hq
    lia
   rw[if_neg (fun z=>y1 z.2:¬(max p.1 t<=y/\y < p.2)),JX]
   by_cases y2:Cv r y
   ·obtain⟨q,hq,g⟩:=y2
    rw[if_pos ⟨by lia,q,r_ _ hq,g⟩,if_pos ⟨by lia,q,hq,g⟩]
   rw[if_neg,if_neg fun z=>y2 z.2]
   rintro⟨g1,q,hq,g2,g3⟩
   rcases o_.mp hq with rfl | hq
   ·lia
   exact y2 ⟨q,hq,g2,g3⟩
  rw[if_neg c,<-jS o2 hb' ht]
  refine aQ fun y _ _=>lJ ⟨?_,?_⟩
  ·rintro⟨g1,q,hq,g2,g3⟩
   rcases o_.mp hq with rfl | hq
   ·lia
   exact⟨g1,q,hq,g2,g3⟩
  rintro⟨g1,q,hq,g⟩
  exact⟨g1,q,r_ _ hq,g⟩
abbrev Ln:=Int × Int
def Ln.at (f:Ln)(m:Int):Int:=f.1 + f.2 * m
noncomputable def Sg(F:Ln->Prop)(u v M:Int):Prop:=∀ f g,F f->F g->f.at M<=g.at M->∀ m,u<=m->m<=v->f.at m<=g.at m
theorem mh{F:Ln->Prop}{u v M:Int}(sg:Sg F u v M):∀ {r:List (Ln × Ln)} {t:Ln},F t->(∀ p∈r,F p.1/\F p.2/\p.1.at M<=p.2.at M)->∃ α β:Int,∀ m,u<=m->m<=v->sw (t.at m) (r.map fun p=>(p.1.at m,p.2.at m))=α + β * m
 | [],t,_,_=>⟨0,0,fun m _ _=>by rw[Ja,sw];lia⟩
 | p::r,t,ht,hr=>by
  obtain⟨f1,f2,le⟩:=hr p s_
  have hr':=fun q hq=>hr q (r_ p hq)
  by_cases c:t.at M < p.2.at M
  ·obtain⟨α,β,e⟩:=mh sg f2 hr'
   have mx:∃ k:Ln,∀ m,u<=m->m<=v->max (p.1.at m) (t.at m)=k.at m:=by
    by_cases d:p.1.at M<=t.at M
    ·exact⟨t,fun m h1 h2=>by have:=sg _ _ f1 ht d m h1 h2;lia⟩
    exact⟨p.1,fun m h1 h2=>by have:=sg _ _ ht f1 (by lia) m h1 h2;lia⟩
   obtain⟨k,hk⟩:=mx
   refine⟨p.2.1 - k.1 + α,p.2.2 - k.2 + β,fun m h1 h2=>?_⟩
   rw[j',sw]
   have g1:=sg _ _ ht f2 (by lia) m h1 h2
   have g2:=sg _ _ f1 f2 le m h1 h2
   have g3:=hk m h1 h2
   have g4:=e m h1 h2
   have fin:p.2.at m - k.at m + (α + β * m)=p.2.1 - k.1 + α + (p.2.2 - k.2 + β) * m:=by
    unfold Ln.at
    rw[Kx,Me]
    lia
   by_cases s:t.at m < p.2.at m
   ·rw[if_pos s,g3,g4]
    exact fin
   rw[if_neg s,show t.at m=p.2.at m by lia,g4,<-fin]
   lia
  obtain⟨α,β,e⟩:=mh sg ht hr'
  refine⟨α,β,fun m h1 h2=>?_⟩
  rw[j',sw,if_neg (by have:=sg _ _ f2 ht (by lia) m h1 h2;show ¬ t.at m < p.2.at m;lia)]
  exact e m h1 h2
noncomputable def Vo(o:Oc):Prop:=(o.a<=o.b/\o.c<=o.d)/\(o.e<=o.f/\o.g<=o.h)/\(o.b + o.c<=o.f/\o.g + o.c<=o.a)/\(o.e<=o.a + o.d/\o.e + o.g<=2 * o.a)/\o.b<=o.h + o.d/\2 * o.b<=o.f + o.h
def loM(o:Oc)(m:Int):Int:=max (max (4 * o.c) (4 * o.e - m)) (m - 4 * o.h)
def hiM(o:Oc)(m:Int):Int:=min (min (4 * o.d) (4 * o.f - m)) (m - 4 * o.g)
theorem yo{o:Oc}{m:Int}(h:Vo o)(h1:4 * o.a<=m)(h2:m<=4 * o.b):loM o m<=hiM o m:=by
 obtain⟨⟨_,_⟩,⟨_,_⟩,⟨_,_⟩,⟨_,_⟩,_,_⟩:=h
 unfold loM hiM
 omega
def Co(o:Oc)(m y:Int):Prop:=(4 * o.a<=m/\m<=4 * o.b)/\loM o m<=y/\y < hiM o m
instance (o:Oc) (m y:Int):Decidable (Co o m y):=by unfold Co;infer_instance
def Cu(os:List Oc)(m y:Int):Prop:=∃ o∈os,Co o m y
instance (os:List Oc) (m y:Int):Decidable (Cu os m y):=by unfold Cu;infer_instance
def Lm(B:Nat)(os:List Oc)(m:Int):Int:=Sm (fun y=>bi (Cu os m y)) (-(8 * B:Nat)) (16 * B)
def Ar(B:Nat)(os:List Oc):Int:=Sm (fun j=>Lm B os (2 * j + 1)) (-(2 * B:Nat)) (4 * B)
def Bd(B:Int)(o:Oc):Prop:=(-B<=o.a/\o.b<=B)/\-B<=o.c/\o.d<=B
noncomputable def Fam(os:List Oc)(f:Ln):Prop:=∃ o∈os,f=(4 * o.c,0)\/f=(4 * o.d,0)\/f=(4 * o.e,-1)\/f=(4 * o.f,-1)\/f=(-(4 * o.g),1)\/f=(-(4 * o.h),1)
noncomputable def Nc(os:List Oc)(l r:Int):Prop:=(∀ o∈os,(2 * o.a<=l\/r<=2 * o.a)/\(2 * o.b<=l\/r<=2 * o.b))/\∀ o∈os,∀ t,t=o.c\/t=o.d->∀ o'∈os,∀ u,u=o'.e\/u=o'.f->∀ o''∈os,∀ v,v=o''.g\/v=o''.h->(2 * (u - t)<=l\/r<=2 * (u - t))/\(2 * (v + t)<=l\/r<=2 * (v + t))/\(u + v<=l\/r<=u + v)
theorem pQ{os:List Oc}{f:Ln}(h:Fam os f):∃ o∈os,(∃ t,(t=o.c\/t=o.d)/\∀ m,f.at m=4 * t)\/(∃ u,(u=o.e\/u=o.f)/\∀ m,f.at m=4 * u - m)\/(∃ v,(v=o.g\/v=o.h)/\∀ m,f.at m=m - 4 * v):=by
 obtain⟨o,ho,h⟩:=h
 refine⟨o,ho,?_⟩
 unfold Ln.at
 rcases h with rfl | rfl | rfl | rfl | rfl | rfl
 ·exact .inl ⟨_,.inl rfl,fun m=>by dsimp only;lia⟩
 ·exact .inl ⟨_,.inr rfl,fun m=>by dsimp only;lia⟩
 ·exact .inr (.inl ⟨_,.inl rfl,fun m=>by dsimp only;lia⟩)
 ·exact .inr (.inl ⟨_,.inr rfl,fun m=>by dsimp only;lia⟩)
 ·exact .inr (.inr ⟨_,.inl rfl,fun m=>by dsimp only;lia⟩)
 exact .inr (.inr ⟨_,.inr rfl,fun m=>by dsimp only;lia⟩)
theorem EG{os:List Oc}{l r:Int}(h:l < r)(nc:Nc os l r):Sg (Fam os) (2 * l) (2 * r) (l + r):=by
 intro f g hf hg hM m h1 h2
 obtain⟨o,ho,kf⟩:=pQ hf
 obtain⟨o',ho',kg⟩:=pQ hg
 rcases kf with⟨t,et,ef⟩ | ⟨t,et,ef⟩ | ⟨t,et,ef⟩ <;> rcases kg with⟨u,eu,eg⟩ | ⟨u,eu,eg⟩ | ⟨u,eu,eg⟩ <;> rw[ef,eg]at hM ⊢
 ·exact hM
 ·have:=(nc.2 o ho t et o' ho' u eu o ho _ (.inl rfl)).1
  lia
 ·have:=(nc.2 o ho t et o ho _ (.inl rfl) o' ho' u eu).2.1
  lia
 ·have:=(nc.2 o' ho' u eu o ho t et o ho _ (.inl rfl)).1
  lia
 ·lia
 ·have:=(nc.2 o ho _ (.inl rfl) o ho t et o' ho' u eu).2.2
  lia
 ·have:=(nc.2 o' ho' u eu o ho _ (.inl rfl) o ho t et).2.1
  lia
 ·have:=(nc.2 o ho _ (.inl rfl) o' ho' u eu o ho t et).2.2
  lia
 lia
theorem Ao{os:List Oc}{o:Oc}{l r:Int}(sg:Sg (Fam os) (2 * l) (2 * r) (l + r))(ho:o∈os):∃ f,Fam os f/\f.at (l + r)=loM o (l + r)/\∀ m,2 * l<=m->m<=2 * r->loM o m=f.at m:=by
 have F1:Fam os (4 * o.c,0):=⟨o,ho,.inl rfl⟩
 have F2:Fam os (4 * o.e,-1):=⟨o,ho,.inr (.inr (.inl rfl))⟩
 have F3:Fam os (-(4 * o.h),1):=⟨o,ho,.inr (.inr (.inr (.inr (.inr rfl))))⟩
 have e1:∀ m,Ln.at (4 * o.c,0) m=4 * o.c:=fun m=>by unfold Ln.at;dsimp only;lia
 have e2:∀ m,Ln.at (4 * o.e,-1) m=4 * o.e - m:=fun m=>by unfold Ln.at;dsimp only;lia
 have e3:∀ m,Ln.at (-(4 * o.h),1) m=m - 4 * o.h:=fun m=>by unfold Ln.at;dsimp only;lia
 have key:∀ f,Fam os f->Ln.at (4 * o.c,0) (l + r)<=f.at (l + r)->Ln.at (4 * o.e,-1) (l + r)<=f.at (l + r)->Ln.at (-(4 * o.h),1) (l + r)<=f.at (l + r)->(f=(4 * o.c,0)\/f=(4 * o.e,-1)\/f=(-(4 * o.h),1))->∃ f,Fam os f/\f.at (l + r)=loM o (l + r)/\∀ m,2 * l<=m->m<=2 * r->loM o m=f.at m:=by
  intro f hf g1 g2 g3 hk
  refine⟨f,hf,?_,fun m h1 h2=>?_⟩
  ·rw[e1]at g1;rw[e2]at g2;rw[e3]at g3
   unfold loM
   rcases hk with rfl | rfl | rfl
   ·rw[e1]at *;omega
   ·rw[e2]at *;lia
   rw[e3]at *;lia
  have k1:=sg _ _ F1 hf g1 m h1 h2
  have k2:=sg _ _ F2 hf g2 m h1 h2
  have k3:=sg _ _ F3 hf g3 m h1 h2
  rw[e1]at k1;rw[e2]at k2;rw[e3]at k3
  unfold loM
  rcases hk with rfl | rfl | rfl
  ·rw[e1]at *;lia
  ·rw[e2]at *;lia
  rw[e3]at *;lia
 have c1:=e1 (l + r);have c2:=e2 (l + r);have c3:=e3 (l + r)
 by_cases x:4 * o.c>=4 * o.e - (l + r)/\4 * o.c>=l + r - 4 * o.h
 ·exact key _ F1 (by lia) (by lia) (by lia) (.inl rfl)
 by_cases y:4 * o.e - (l + r)>=l + r - 4 * o.h
 ·exact key _ F2 (by lia) (by lia) (by lia) (.inr (.inl rfl))
 exact key _ F3 (by lia) (by lia) (by lia) (.inr (.inr rfl))
theorem B9{os:List Oc}{o:Oc}{l r:Int}(sg:Sg (Fam os) (2 * l) (2 * r) (l + r))(ho:o∈os):∃ f,Fam os f/\f.at (l + r)=hiM o (l + r)/\∀ m,2 * l<=m->m<=2 * r->hiM o m=f.at m:=by
 have F1:Fam os (4 * o.d,0):=⟨o,ho,.inr (.inl rfl)⟩
 have F2:Fam os (4 * o.f,-1):=⟨o,ho,.inr (.inr (.inr (.inl rfl)))⟩
 have F3:Fam os (-(4 * o.g),1):=⟨o,ho,.inr (.inr (.inr (.inr (.inl rfl))))⟩
 have e1:∀ m,Ln.at (4 * o.d,0) m=4 * o.d:=fun m=>by unfold Ln.at;dsimp only;lia
 have e2:∀ m,Ln.at (4 * o.f,-1) m=4 * o.f - m:=fun m=>by unfold Ln.at;dsimp only;lia
 have e3:∀ m,Ln.at (-(4 * o.g),1) m=m - 4 * o.g:=fun m=>by unfold Ln.at;dsimp only;lia
 have key:∀ f,Fam os f->f.at (l + r)<=Ln.at (4 * o.d,0) (l + r)->f.at (l + r)<=Ln.at (4 * o.f,-1) (l + r)->f.at (l + r)<=Ln.at (-(4 * o.g),1) (l + r)->(f=(4 * o.d,0)\/f=(4 * o.f,-1)\/f=(-(4 * o.g),1))->∃ f,Fam os f/\f.at (l + r)=hiM o (l + r)/\∀ m,2 * l<=m->m<=2 * r->hiM o m=f.at m:=by
  intro f hf g1 g2 g3 hk
  refine⟨f,hf,?_,fun m h1 h2=>?_⟩
  ·rw[e1]at g1;rw[e2]at g2;rw[e3]at g3
   unfold hiM
   rcases hk with rfl | rfl | rfl
   ·rw[e1]at *;lia
   ·rw[e2]at *;lia
   rw[e3]at *;lia
  have k1:=sg _ _ hf F1 g1 m h1 h2
  have k2:=sg _ _ hf F2 g2 m h1 h2
  have k3:=sg _ _ hf F3 g3 m h1 h2
  rw[e1]at k1;rw[e2]at k2;rw[e3]at k3
  unfold hiM
  rcases hk with rfl | rfl | rfl
  ·rw[e1]at *;lia
  ·rw[e2]at *;lia
  rw[e3]at *;lia
 have c1:=e1 (l + r);have c2:=e2 (l + r);have c3:=e3 (l + r)
 by_cases x:4 * o.d<=4 * o.f - (l + r)/\4 * o.d<=l + r - 4 * o.g
 ·exact key _ F1 (by lia) (by lia) (by lia) (.inl rfl)
 by_cases y:4 * o.f - (l + r)<=l + r - 4 * o.g
 ·exact key _ F2 (by lia) (by lia) (by lia) (.inr (.inl rfl))
 exact key _ F3 (by lia) (by lia) (by lia) (.inr (.inr rfl))
theorem lines{os:List Oc}{l r:Int}(h:l < r)(sg:Sg (Fam os) (2 * l) (2 * r) (l + r)):∀ {T:List Oc},(∀ o∈T,o∈os/\loM o (l + r)<=hiM o (l + r))->∃ ps:List (Ln × Ln),(∀ p∈ps,Fam os p.1/\Fam os p.2/\p.1.at (l + r)<=p.2.at (l + r))/\∀ m,2 * l<=m->m<=2 * r->T.map (fun o=>(loM o m,hiM o m))=ps.map fun p=>(p.1.at m,p.2.at m)
 | [],_=>⟨[],fun p hp=>(nomatch hp),fun m _ _=>rfl⟩
 | o::T,k=>by
  obtain⟨ps,k1,k2⟩:=lines h sg fun o' ho'=>k o' (r_ o ho')
  obtain⟨ho,le⟩:=k o s_
  obtain⟨f,f1,f2,f3⟩:=Ao sg ho
  obtain⟨g,g1,g2,g3⟩:=B9 sg ho
  refine⟨(f,g)::ps,fun p hp=>?_,fun m h1 h2=>by rw[j',j',k2 m h1 h2,f3 m h1 h2,g3 m h1 h2]⟩
  rcases o_.mp hp with rfl | hp
  ·exact⟨f1,g1,by show f.at _<=g.at _;lia⟩
  exact k1 p hp
def spn(T:List Oc)(m:Int):List (Int × Int):=T.map fun o=>(loM o m,hiM o m)
def rG:List (Int × Int)->Int
 | []=>0
 | p::_=>p.1
theorem jm{B:Nat}{os T:List Oc}{l r:Int}(h:l < r)(nc:Nc os l r)(vo:∀ o∈os,Vo o)(bd:∀ o∈os,Bd B o)(mem:∀ o,o∈T↔o∈os/\2 * o.a<=l/\r<=2 * o.b)(so:(spn T (l + r)).Pairwise fun p q=>p.1<=q.1) :
  (r - l) * sw (rG (spn T (l + r))) (spn T (l + r))=Sm (fun j=>Lm B os (2 * j + 1)) l (r - l).toNat:=by
 have sg:=EG h nc
 obtain⟨ps,k1,k2⟩:=lines h sg (T:=T) fun o ho=>by
  obtain⟨a1,a2,a3⟩:=(mem o).mp ho
  exact⟨a1,yo (vo o a1) (by lia) (by lia)⟩
 have so2:ps.Pairwise fun p q=>p.1.at (l + r)<=q.1.at (l + r):=by
  unfold spn at so
  rw[k2 (l + r) (by lia) (by lia),E_]at so
  exact so
 have act:∀ j o,l<=j->j < r->o∈os->(o∈T↔4 * o.a<=2 * j + 1/\2 * j + 1<=4 * o.b):=fun j o h1 h2 ho=>by
  have:=nc.1 o ho
  rw[mem o]
  exact⟨fun z=>by lia,fun z=>⟨ho,by lia⟩⟩
 have ln:∃ α β:Int,∀ m,2 * l<=m->m<=2 * r->sw (rG (spn T m)) (spn T m)=α + β * m:=by
  cases ps with
  | nil=>exact⟨0,0,fun m h1 h2=>by unfold spn;rw[k2 m h1 h2,Ja];show 0=_;lia⟩
  | cons p ps=>
   obtain⟨α,β,e⟩:=mh sg (k1 p s_).1 k1
   exact⟨α,β,fun m h1 h2=>by unfold spn;rw[k2 m h1 h2];exact e m h1 h2⟩
 obtain⟨α,β,e⟩:=ln
 have cnt:∀ j,l<=j->j < l + (r - l).toNat->Lm B os (2 * j + 1)=α + β * (2 * j + 1):=fun j h1 h2=>by
  rw[<-e (2 * j + 1) (by lia) (by lia)]
  have so3:(spn T (2 * j + 1)).Pairwise fun p q=>p.1<=q.1:=by
   unfold spn
   rw[k2 _ (by lia) (by lia),E_]
   refine HZ (fun{p q} hp hq hpq=>?_) so2
   exact sg _ _ (k1 p hp).1 (k1 q hq).1 hpq _ (by lia) (by lia)
  have bb:∀ p∈spn T (2 * j + 1),p.1<=p.2/\-(8 * B:Nat)<=p.1/\p.2<=-(8 * B:Nat) + ((16 * B:Nat):Int):=fun p hp=>by
   obtain⟨o,ho,rfl⟩:=m_.mp hp
   obtain⟨a1,a2,a3⟩:=(mem o).mp ho
   obtain⟨_,b3,b4⟩:=bd o a1
   refine⟨yo (vo o a1) (by lia) (by lia),?_,?_⟩
   ·show _<=loM o _
    unfold loM
    lia
   show hiM o _<=_
   unfold hiM
   lia
  have t0:∀ p∈spn T (2 * j + 1),rG (spn T (2 * j + 1))<=p.1:=fun p hp=>by
   generalize spn T (2 * j + 1)=sp at so3 hp
   cases sp with
   | nil=>cases hp
   | cons q sp=>
    rcases o_.mp hp with rfl | hp
    ·exact J9 _
    exact(Ip.mp so3).1 p hp
  by_cases ne:spn T (2 * j + 1)=[]
  ·have nT:T=[]:=IH.mp ne
   rw[ne]
   show _=0
   refine cj fun y _ _=>if_neg ?_
   rintro⟨o,ho,c,_⟩
   have:=(act j o h1 (by lia) ho).mpr c
   rw[nT]at this
   cases this
  have lo:-(8 * B:Nat)<=rG (spn T (2 * j + 1)):=by
   generalize spn T (2 * j + 1)=sp at ne bb
   cases sp with
   | nil=>exact absurd rfl ne
   | cons q sp=>exact(bb q s_).2.1
  rw[<-jS so3 bb lo]
  refine aQ fun y _ _=>lJ ⟨?_,?_⟩
  ·rintro⟨o,ho,c,c1,c2⟩
   have hT:=(act j o h1 (by lia) ho).mpr c
   have hp:(loM o (2 * j + 1),hiM o (2 * j + 1))∈spn T (2 * j + 1):=m_.mpr ⟨o,hT,rfl⟩
   have:=t0 _ hp
   exact⟨by dsimp only at this;lia,_,hp,c1,c2⟩
  rintro⟨_,p,hp,c1,c2⟩
  obtain⟨o,hT,rfl⟩:=m_.mp hp
  have ho:=((mem o).mp hT).1
  exact⟨o,ho,(act j o h1 (by lia) ho).mp hT,c1,c2⟩
 rw[aQ cnt,mK,e (l + r) (by lia) (by lia),show((r - l).toNat:Int)=r - l by lia,show l + (l + (r - l))=l + r by lia]
theorem pg{B:Nat}{os:List Oc}{w e:Int}(h1:∀ o∈os,w<=2 * o.a)(h2:∀ o∈os,2 * o.b<=e)(h3:w<=e)(h4:-(2 * B:Nat)<=w)(h5:e<=(2 * B:Nat)):Sm (fun j=>Lm B os (2 * j + 1)) w (e - w).toNat=Ar B os:=by
 refine(wj h4 (by lia) fun x hx=>?_).symm
 refine cj fun y _ _=>if_neg ?_
 rintro⟨o,ho,c,_⟩
 have:=h1 o ho
 have:=h2 o ho
 lia
abbrev Qt:=Int × Int × Nat
def px(s:Nat):Int:=[6,4,2,4].getD s 0
def py(s:Nat):Int:=[5,7,3,1].getD s 0
noncomputable def inL(o:Oc)(q:Qt):Prop:=((8 * o.a<=8 * q.1 + px q.2.2/\8 * q.1 + px q.2.2<=8 * o.b)/\8 * o.c<=8 * q.2.1 + py q.2.2/\8 * q.2.1 + py q.2.2<=8 * o.d)/\(8 * o.e<=8 * q.1 + px q.2.2 + (8 * q.2.1 + py q.2.2)/\8 * q.1 + px q.2.2 + (8 * q.2.1 + py q.2.2)<=8 * o.f)/\8 * o.g<=8 * q.1 + px q.2.2 - (8 * q.2.1 + py q.2.2)/\8 * q.1 + px q.2.2 - (8 * q.2.1 + py q.2.2)<=8 * o.h
instance (o:Oc) (q:Qt):Decidable (inL o q):=by unfold inL;infer_instance
def inU(os:List Oc)(q:Qt):Prop:=∃ o∈os,inL o q
instance (os:List Oc) (q:Qt):Decidable (inU os q):=by unfold inU;infer_instance
theorem Fi{o:Oc}{X Y:Int}{i:Int}{j s:Nat}(h:(i,j,s)∈[((1:Int),0,3),(3,0,3),(1,1,2),(1,2,2),(3,1,0),(3,2,0),(1,3,1),(3,3,1)]):Co o (4 * X + i) (4 * Y + j)↔inL o (X,Y,s):=by
 unfold Co inL loM hiM
 simp only[o_,Prod.mk.injEq,Ic,or_false]at h
 rcases h with⟨rfl,rfl,rfl⟩ | ⟨rfl,rfl,rfl⟩ | ⟨rfl,rfl,rfl⟩ | ⟨rfl,rfl,rfl⟩ | ⟨rfl,rfl,rfl⟩ | ⟨rfl,rfl,rfl⟩ | ⟨rfl,rfl,rfl⟩ | ⟨rfl,rfl,rfl⟩ <;> simp only[px,py,List.getD_cons_zero,List.getD_cons_succ,Int.max_le,Int.lt_min] <;> lia
def cl4(p:Nat->Prop)[DecidablePred p](x y:Int):List Qt:=((y_ 4).filter p).map fun s=>(x,y,s)
theorem A5{p:Nat->Prop}[DecidablePred p]{x y:Int}:((cl4 p x y).length:Int)=bi (p 0) + bi (p 1) + (bi (p 2) + bi (p 3)):=by
 unfold cl4
 rw[a_,show y_ 4=[0,1,2,3]from rfl]
 unfold bi
 by_cases h0:p 0 <;> by_cases h1:p 1 <;> by_cases h2:p 2 <;> by_cases h3:p 3 <;> simp[h0,h1,h2,h3]
def cx{α:Type}(f:Int->List α)(a:Int)(n:Nat):List α:=(y_ n).flatMap fun(j:Nat)=>f (a + j)
theorem d6{α:Type}{f:Int->List α}{a:Int}{n:Nat}:cx f a (n + 1)=cx f a n++f (a + n):=by
 unfold cx
 rw[IS,Kt,List.flatMap_singleton]
theorem bH{α:Type}{f:Int->List α}{a:Int}{n:Nat}{x:α}:x∈cx f a n↔∃ i,a<=i/\i < a + n/\x∈f i:=by
 unfold cx
 rw[List.mem_flatMap]
 constructor
 ·rintro⟨j,m,e⟩
  have:=IE.mp m
  exact⟨_,by lia,by lia,e⟩
 rintro⟨i,h1,h2,e⟩
 exact⟨(i - a).toNat,IE.mpr (by lia),by rw[show a + ((i - a).toNat:Int)=i by lia];exact e⟩
theorem qd{α:Type}{f:Int->List α}{g:Int->Int}{a:Int}(h:∀ i,((f i).length:Int)=g i)(n:Nat):((cx f a n).length:Int)=Sm g a n:=by
 induction n with
 | zero=>rfl
 | succ n ih=>rw[d6,f',Sm,<-ih,<-h];lia
theorem sW{α:Type}{f:Int->List α}{a:Int}{n:Nat}(hp:∀ y,(f y).Nodup)(hR:∀ y y',y≠y'->∀ u∈f y,u ∉ f y'):(cx f a n).Nodup:=by
 induction n with
 | zero=>exact IZ
 | succ n ih=>
  rw[d6,IW]
  refine⟨ih,hp _,fun u mu v mv e=>?_⟩
  obtain⟨i,h1,h2,mi⟩:=bH.mp mu
  subst e
  exact hR i (a + n) (by lia) u mi mv
theorem cv{p:Nat->Prop}[DecidablePred p]{x y:Int}{q:Qt}:q∈cl4 p x y↔q.1=x/\q.2.1=y/\q.2.2 < 4/\p q.2.2:=by
 unfold cl4
 rw[m_]
 constructor
 ·rintro⟨s,m,rfl⟩
  rw[Io]at m
  exact⟨rfl,rfl,IE.mp m.1,of_decide_eq_true m.2⟩
 rintro⟨rfl,rfl,h1,h2⟩
 exact⟨q.2.2,Io.mpr ⟨IE.mpr h1,decide_eq_true h2⟩,rfl⟩
noncomputable def qsU(B:Nat)(os:List Oc):List Qt:=cx (fun X=>cx (fun Y=>cl4 (fun s=>inU os (X,Y,s)) X Y) (-(2 * B:Nat)) (4 * B)) (-(B:Nat)) (2 * B)
theorem qT{f:Int->Int}{a:Int}:∀ {n:Nat},Sm (fun x=>2 * f x) a n=2 * Sm f a n
 | 0=>rfl
 | n + 1=>by rw[Sm,Sm,qT];lia
theorem oq{os:List Oc}{X Y:Int}{i:Int}{j s:Nat}(h:(i,j,s)∈[((1:Int),0,3),(3,0,3),(1,1,2),(1,2,2),(3,1,0),(3,2,0),(1,3,1),(3,3,1)]):bi (Cu os (4 * X + i) (4 * Y + j))=bi (inU os (X,Y,s)):=
 lJ ⟨fun⟨o,ho,c⟩=>⟨o,ho,(Fi h).mp c⟩,fun⟨o,ho,c⟩=>⟨o,ho,(Fi h).mpr c⟩⟩
theorem yA(B:Nat)(os:List Oc):Ar B os=2 * ((qsU B os).length:Int):=by
 unfold Ar qsU
 rw[show -((2 * B:Nat):Int)=2 * -(B:Int) by lia,show 4 * B=2 * (2 * B) by lia,n5,qd (g:=fun X=>Sm (fun Y=>bi (inU os (X,Y,0)) + bi (inU os (X,Y,1)) + (bi (inU os (X,Y,2)) + bi (inU os (X,Y,3)))) (2 * -(B:Int)) (2 * (2 * B))) (fun X=>qd (fun Y=>A5) _),<-qT]
 refine aQ fun X _ _=>?_
 unfold Lm
 rw[show -((8 * B:Nat):Int)=4 * (2 * -(B:Int)) by lia,show 16 * B=4 * (2 * (2 * B)) by lia,uD,uD,<-dm,<-qT]
 refine aQ fun Y _ _=>?_
 rw[show 2 * (2 * X) + 1=4 * X + 1 by lia,show 2 * (2 * X + 1) + 1=4 * X + 3 by lia]
 have e1:=oq (os:=os) (X:=X) (Y:=Y) (i:=1) (j:=0) (s:=3) (by decide)
 have e2:=oq (os:=os) (X:=X) (Y:=Y) (i:=3) (j:=0) (s:=3) (by decide)
 have e3:=oq (os:=os) (X:=X) (Y:=Y) (i:=1) (j:=1) (s:=2) (by decide)
 have e4:=oq (os:=os) (X:=X) (Y:=Y) (i:=1) (j:=2) (s:=2) (by decide)
 have e5:=oq (os:=os) (X:=X) (Y:=Y) (i:=3) (j:=1) (s:=0) (by decide)
 have e6:=oq (os:=os) (X:=X) (Y:=Y) (i:=3) (j:=2) (s:=0) (by decide)
 have e7:=oq (os:=os) (X:=X) (Y:=Y) (i:=1) (j:=3) (s:=1) (by decide)
 have e8:=oq (os:=os) (X:=X) (Y:=Y) (i:=3) (j:=3) (s:=1) (by decide)
 rw[show((0:Nat):Int)=0 from rfl,JW]at e1 e2
 rw[e1,e2]
 have e3:bi (Cu os (4 * X + 1) (4 * Y + 1))=_:=e3
 have e4:bi (Cu os (4 * X + 1) (4 * Y + 2))=_:=e4
 have e5:bi (Cu os (4 * X + 3) (4 * Y + 1))=_:=e5
 have e6:bi (Cu os (4 * X + 3) (4 * Y + 2))=_:=e6
 have e7:bi (Cu os (4 * X + 1) (4 * Y + 3))=_:=e7
 have e8:bi (Cu os (4 * X + 3) (4 * Y + 3))=_:=e8
 rw[e3,e4,e5,e6,e7,e8]
 lia
theorem xq{B:Nat}{os:List Oc}:(qsU B os).Nodup:=by
 unfold qsU
 refine sW (fun X=>sW (fun Y=>?_) fun y y' ne u h1 h2=>ne ((cv.mp h1).2.1.symm.trans (cv.mp h2).2.1)) fun y y' ne u h1 h2=>?_
 ·unfold cl4
  refine E_.mpr (LG (fun{a b} ne e=>ne ?_) (List.Pairwise.filter _ List.nodup_range))
  exact congrArg (fun q:Qt=>q.2.2) e
 obtain⟨_,_,_,g1⟩:=bH.mp h1
 obtain⟨_,_,_,g2⟩:=bH.mp h2
 exact ne ((cv.mp g1).1.symm.trans (cv.mp g2).1)
theorem fC{B:Nat}{os:List Oc}(bd:∀ o∈os,Bd B o){q:Qt}:q∈qsU B os↔q.2.2 < 4/\inU os q:=by
 unfold qsU
 rw[bH]
 constructor
 ·rintro⟨X,_,_,h⟩
  obtain⟨Y,_,_,h⟩:=bH.mp h
  obtain⟨rfl,rfl,h1,h2⟩:=cv.mp h
  exact⟨h1,h2⟩
 rintro⟨h1,o,ho,h2⟩
 obtain⟨⟨b1,b2⟩,b3,b4⟩:=bd o ho
 have h3:=h2
 obtain⟨⟨⟨i1,i2⟩,i3,i4⟩,_⟩:=h2
 have hx:px q.2.2 < 8/\0 < px q.2.2/\0 < py q.2.2/\py q.2.2 < 8:=by
  match q.2.2,h1 with
  | 0,_=>decide
  | 1,_=>decide
  | 2,_=>decide
  | 3,_=>decide
 exact⟨q.1,by lia,by lia,bH.mpr ⟨q.2.1,by lia,by lia,cv.mpr ⟨rfl,rfl,h1,o,ho,h3⟩⟩⟩
theorem sj{B:Nat}{os:List Oc}(bd:∀ o∈os,Bd B o){qs:List Qt}(nd:qs.Nodup)(mem:∀ q,q∈qs↔q.2.2 < 4/\inU os q):2 * (qs.length:Int)=Ar B os:=by
 rw[yA,((List.perm_ext_iff_of_nodup nd xq).mpr fun q=>(mem q).trans (fC bd).symm).length_eq]
theorem yS{B:Nat}{os os':List Oc}(h:∀ o,o∈os↔o∈os'):Ar B os=Ar B os':=by
 unfold Ar Lm
 refine aQ fun j _ _=>aQ fun y _ _=>lJ ⟨fun⟨o,ho,c⟩=>⟨o,(h o).mp ho,c⟩,fun⟨o,ho,c⟩=>⟨o,(h o).mpr ho,c⟩⟩
theorem r6{α:Type}[DecidableEq α]{l:List α}:∀ {m:List α},l.Nodup->(∀ x∈l,x∈m)->l.length<=m.length:=by
 induction l with
 | nil=>exact fun _ _=>F' _
 | cons x l ih=>
  intro m nd h
  obtain⟨n1,n2⟩:=G_.mp nd
  have hx:=h x s_
  have:=ih (m:=m.erase x) n2 fun y hy=>(List.mem_erase_of_ne (fun e:y=x=>n1 (by rw[<-e];exact hy))).mpr (h y (r_ _ hy))
  rw[List.length_erase_of_mem hx]at this
  have:=List.length_pos_of_mem hx
  rw[k_]
  lia
theorem BX{l:List Int}(h:l.Pairwise (· < ·)):l.Nodup:=h.imp fun{a b} h e=>by lia
noncomputable def Cd(os:List Oc)(c:Int->Prop):Prop:=(∀ o∈os,c (2 * o.a)/\c (2 * o.b))/\∀ o∈os,∀ t,t=o.c\/t=o.d->∀ o'∈os,∀ u,u=o'.e\/u=o'.f->∀ o''∈os,∀ v,v=o''.g\/v=o''.h->c (2 * (u - t))/\c (2 * (v + t))/\c (u + v)
noncomputable def iS(B:Nat)(os:List Oc):Prop:=os.length<=64/\B < 2 ^ 50/\(os.length<=14\/B<=800)/\(∀ o∈os,Vo o)/\∀ o∈os,Bd B o
noncomputable def Sds(B:Nat)(os:List Oc)(S:List Int):Prop:=S.Pairwise (· < ·)/\S.length < 100000/\(os=[]->S=[])/\(os≠[]->∃ w e:Int,S[0]?=some w/\S[S.length - 1]?=some e/\-((2 * B:Nat):Int)<=w/\w<=e/\e<=((2 * B:Nat):Int)/\∀ o∈os,w<=2 * o.a/\2 * o.b<=e)/\∀(i:Nat) (l r:Int),S[i]?=some l->S[i + 1]?=some r->Nc os l r
theorem Gw{os:List Oc}{c:Int->Prop}{l r:Int}(cd:Cd os c)(h:∀ z,c z->z<=l\/r<=z):Nc os l r:=
 ⟨fun o ho=>⟨h _ (cd.1 o ho).1,h _ (cd.1 o ho).2⟩,fun o ho t et o' ho' u eu o'' ho'' v ev=>⟨h _ (cd.2 o ho t et o' ho' u eu o'' ho'' v ev).1,h _ (cd.2 o ho t et o' ho' u eu o'' ho'' v ev).2.1,h _ (cd.2 o ho t et o' ho' u eu o'' ho'' v ev).2.2⟩⟩
theorem eZ{S:List Int}(h:S.Pairwise (· < ·)){i j:Nat}{x y:Int}(hi:S[i]?=some x)(hj:S[j]?=some y)(hij:i < j):x < y:=by
 obtain⟨a,rfl⟩:=gV.mp hi
 obtain⟨b,rfl⟩:=gV.mp hj
 exact Ji.mp h i j a b hij
theorem t6{B:Nat}{os:List Oc}{W E:Int}{S:List Int}{c:Int->Prop}(ne:os≠[])(vo:∀ o∈os,Vo o)(bd:∀ o∈os,Bd B o)(w1:∃ o∈os,W=o.a)(w2:∀ o∈os,W<=o.a)(e1:∃ o∈os,E=o.b)(e2:∀ o∈os,o.b<=E)(cd:Cd os c)
  (h1:S.Pairwise (· < ·)) (h2:∀ z,z∈S↔c z/\2 * W<=z/\z<=2 * E) (h3:S.length < 100000):Sds B os S:=by
 obtain⟨o1,m1,r1⟩:=w1
 obtain⟨o2,m2,r2⟩:=e1
 have hWE:W<=E:=by
  have g1:=(vo o1 m1).1.1
  have g2:=e2 o1 m1
  lia
 have iW:2 * W∈S:=(h2 _).mpr ⟨by rw[r1];exact(cd.1 o1 m1).1,by lia,by lia⟩
 have iE:2 * E∈S:=(h2 _).mpr ⟨by rw[r2];exact(cd.1 o2 m2).2,by lia,by lia⟩
 obtain⟨jW,lW,gW⟩:=HX.mp iW
 obtain⟨jE,lE,gE⟩:=HX.mp iE
 have gW':S[jW]?=some (2 * W):=by rw[d_ lW,gW]
 have gE':S[jE]?=some (2 * E):=by rw[d_ lE,gE]
 have s0:S[0]?=some (2 * W):=by
  by_cases z:jW=0
  ·rw[<-z];exact gW'
  have l0:0 < S.length:=by lia
  have e0:=d_ l0
  have:=eZ h1 e0 gW' (by lia)
  have:=((h2 _).mp (HW e0)).2
  lia
 have sl:S[S.length - 1]?=some (2 * E):=by
  by_cases z:jE=S.length - 1
  ·rw[<-z];exact gE'
  have l0:S.length - 1 < S.length:=by lia
  have e0:=d_ l0
  have:=eZ h1 gE' e0 (by lia)
  have:=((h2 _).mp (HW e0)).2
  lia
 refine⟨h1,h3,fun z=>absurd z ne,fun _=>⟨2 * W,2 * E,s0,sl,?_,by lia,?_,fun o ho=>?_⟩,fun i l r el er=>Gw cd fun z hz=>?_⟩
 ·have:=(bd o1 m1).1.1
  lia
 ·have:=(bd o2 m2).1.2
  lia
 ·have a:=w2 o ho
  have b:=e2 o ho
  lia
 have hl:=((h2 _).mp (HW el)).2
 have hr:=((h2 _).mp (HW er)).2
 by_cases g1:z < 2 * W
 ·exact .inl (by lia)
 by_cases g2:2 * E < z
 ·exact .inr (by lia)
 obtain⟨j,lj,gj⟩:=HX.mp ((h2 z).mpr ⟨hz,by lia,by lia⟩)
 have gj':S[j]?=some z:=by rw[d_ lj,gj]
 by_cases c1:j < i
 ·have:=eZ h1 gj' el c1
  exact .inl (by lia)
 by_cases c2:j=i
 ·subst c2
  rw[el]at gj'
  cases gj'
  exact .inl (J9 _)
 by_cases c3:j=i + 1
 ·subst c3
  rw[er]at gj'
  cases gj'
  exact .inr (J9 _)
 have:=eZ h1 er gj' (by lia)
 exact .inr (by lia)
theorem uO{B:Nat}{os:List Oc}{W E:Int}(ne:os≠[])(vo:∀ o∈os,Vo o)(bd:∀ o∈os,Bd B o)(w1:∃ o∈os,W=o.a)(w2:∀ o∈os,W<=o.a)(e1:∃ o∈os,E=o.b)(e2:∀ o∈os,o.b<=E)(hl:2 * E - 2 * W<=50000) :
  Sds B os ((y_ (2 * E + 1 - 2 * W).toNat).map fun(j:Nat)=>2 * W + (j:Int)):=by
 refine t6 (c:=fun _=>True) ne vo bd w1 w2 e1 e2 ⟨fun _ _=>⟨trivial,trivial⟩,fun _ _ _ _ _ _ _ _ _ _ _ _=>⟨trivial,trivial,trivial⟩⟩ ?_ (fun z=>?_) ?_
 ·rw[E_]
  exact J8.imp fun{a b} h=>by lia
 ·rw[m_]
  exact⟨fun⟨j,m,e⟩=>by have:=IE.mp m;exact⟨trivial,by lia,by lia⟩,fun⟨_,a,b⟩=>⟨(z - 2 * W).toNat,IE.mpr (by lia),by lia⟩⟩
 rw[a_,Iy]
 lia
theorem Ew{p q r:Prop}[Decidable p][Decidable q][Decidable r](h:p↔q\/r)(n:¬(q/\r)):bi p=bi q + bi r:=by
 unfold bi
 by_cases c:q
 ·rw[if_pos c,if_pos (h.mpr (.inl c)),if_neg fun z=>n ⟨c,z⟩];rfl
 by_cases d:r
 ·rw[if_neg c,if_pos d,if_pos (h.mpr (.inr d))];rfl
 rw[if_neg c,if_neg d,if_neg fun z=>(h.mp z).elim c d];rfl
theorem rE{os ps:List Oc}{m y:Int}:Cu (os++ps) m y↔Cu os m y\/Cu ps m y:=by
 unfold Cu
 constructor
 ·rintro⟨o,h,c⟩
  exact(z_.mp h).elim (fun h=>.inl ⟨o,h,c⟩) fun h=>.inr ⟨o,h,c⟩
 rintro(⟨o,h,c⟩ | ⟨o,h,c⟩)
 ·exact⟨o,w_ _ h,c⟩
 exact⟨o,n_ _ h,c⟩
theorem xv{B:Nat}{os ps:List Oc}(h:∀ o∈os,∀ p∈ps,o.b < p.a):Ar B (os++ps)=Ar B os + Ar B ps:=by
 unfold Ar
 rw[<-dm]
 refine aQ fun j _ _=>?_
 unfold Lm
 rw[<-dm]
 refine aQ fun y _ _=>Ew rE ?_
 rintro⟨⟨o,ho,⟨c1,c2⟩,_⟩,p,hp,⟨d1,d2⟩,_⟩
 have:=h o ho p hp
 lia
noncomputable def Wi(o p:Oc):Prop:=((p.a<=o.a/\o.b<=p.b)/\p.c<=o.c/\o.d<=p.d)/\(p.e<=o.e/\o.f<=p.f)/\p.g<=o.g/\o.h<=p.h
theorem GJ{o p:Oc}(h:Wi o p){m y:Int}(c:Co o m y):Co p m y:=by
 obtain⟨⟨⟨h1,h2⟩,h3,h4⟩,⟨h5,h6⟩,h7,h8⟩:=h
 unfold Co loM hiM at *
 omega
theorem FO{B:Nat}{os:List Oc}{o p:Oc}(hp:p∈os)(h:Wi o p):Ar B (os++[o])=Ar B os:=by
 unfold Ar Lm
 refine aQ fun j _ _=>aQ fun y _ _=>lJ ⟨fun c=>?_,fun c=>rE.mpr (.inl c)⟩
 rcases rE.mp c with c | ⟨x,hx,c⟩
 ·exact c
 rw[p_.mp hx]at c
 exact⟨p,hp,GJ h c⟩
theorem DC{B:Nat}{os:List Oc}{f:Oc->Oc}{φ ψ:Qt->Qt}(b1:∀ o∈os,Bd B o)(b2:∀ o∈os,Bd B (f o))(i1:∀ q:Qt,q.2.2 < 4->ψ (φ q)=q/\(φ q).2.2 < 4)(i2:∀ q:Qt,q.2.2 < 4->φ (ψ q)=q/\(ψ q).2.2 < 4)(e:∀(o:Oc) (q:Qt),q.2.2 < 4->(inL (f o) (φ q)↔inL o q)):Ar B (os.map f)=Ar B os:=by
 have nd:((qsU B os).map φ).Nodup:=by
  refine E_.mpr (HZ (fun{a b} ha hb ne z=>ne ?_) xq)
  rw[<-(i1 a ((fC b1).mp ha).1).1,z,(i1 b ((fC b1).mp hb).1).1]
 have:=sj (B:=B) (os:=os.map f) (qs:=(qsU B os).map φ) (fun o ho=>by obtain⟨x,hx,rfl⟩:=m_.mp ho;exact b2 x hx) nd fun q=>?_
 ·rw[<-this,a_,yA]
 rw[m_]
 constructor
 ·rintro⟨r,hr,rfl⟩
  obtain⟨h1,o,ho,h2⟩:=(fC b1).mp hr
  exact⟨(i1 r h1).2,f o,F_ ho,(e o r h1).mpr h2⟩
 rintro⟨h1,o',ho,h2⟩
 obtain⟨o,hx,rfl⟩:=m_.mp ho
 refine⟨ψ q,(fC b1).mpr ⟨(i2 q h1).2,o,hx,?_⟩,(i2 q h1).1⟩
 rw[<-e o (ψ q) (i2 q h1).2,(i2 q h1).1]
 exact h2
def qj(o:Oc):Oc:=⟨o.c,o.d,o.a,o.b,o.e,o.f,-o.h,-o.g⟩
noncomputable def mvO(x y:Int)(o:Oc):Oc:=⟨o.a + x,o.b + x,o.c + y,o.d + y,o.e + (x + y),o.f + (x + y),o.g + (x - y),o.h + (x - y)⟩
theorem ER{B:Nat}{os:List Oc}{u v:Int}(b1:∀ o∈os,Bd B o)(b2:∀ o∈os,Bd B (mvO u v o)):Ar B (os.map (mvO u v))=Ar B os:=by
 refine DC (φ:=fun q=>(q.1 + u,q.2.1 + v,q.2.2)) (ψ:=fun q=>(q.1 - u,q.2.1 - v,q.2.2)) b1 b2 (fun q h=>⟨Ku (by show q.1 + u - u=q.1;lia) (Ku (by show q.2.1 + v - v=q.2.1;lia) rfl),h⟩) (fun q h=>⟨Ku (by show q.1 - u + u=q.1;lia) (Ku (by show q.2.1 - v + v=q.2.1;lia) rfl),h⟩) fun o ⟨x,y,s⟩ h=>?_
 unfold inL mvO
 dsimp only
 lia
theorem CF{f:Int->Int}{a:Int}:Sm f a 1=f a:=by
 rw[Sm,Sm,JX]
 show f (a + ((0:Nat):Int))=_
 rw[show a + ((0:Nat):Int)=a by lia]
theorem qN{f:Int->Int}{c a:Int}:∀ {n:Nat},Sm (fun x=>c * f x) a n=c * Sm f a n
 | 0=>by rw[Sm,Sm,L_]
 | n + 1=>by rw[Sm,Sm,qN,Jw]
theorem lU{f:Int->Int}{x:Int}{t:Nat}{a:Int}:∀ {n:Nat},Sm f (x + t * a) (t * n)=Sm (fun j=>Sm f (x + t * j) t) a n
 | 0=>rfl
 | n + 1=>by
  rw[L',eV,lU,Sm]
  congr 2
  push_cast
  rw[Jw]
  lia
noncomputable def grO(t x y:Int)(o:Oc):Oc:=⟨o.a * t + x,o.b * t + x,o.c * t + y,o.d * t + y,o.e * t + (x + y),o.f * t + (x + y),o.g * t + (x - y),o.h * t + (x - y)⟩
theorem ze{t z:Int}(h:1<=t):∀ {r:List (Int × Int)} {u:Int},sw (t * u + z) (r.map fun p=>(t * p.1 + z,t * p.2 + z))=t * sw u r
 | [],u=>by rw[Ja,sw,sw,L_]
 | p::r,u=>by
  rw[j',sw,sw]
  dsimp only
  by_cases c:u < p.2
  ·have c':t * u < t * p.2:=Int.mul_lt_mul_of_pos_left c (by lia)
   rw[if_pos c,if_pos (by lia),ze h,Jw,Ky]
   have mx:t * max p.1 u=max (t * p.1) (t * u):=by
    by_cases d:p.1<=u
    ·have:=HR d (show 0<=t by lia)
     rw[Jn d,Jn this]
    have:=HR (show u<=p.1 by lia) (show 0<=t by lia)
    rw[Js (by lia),Js this]
   rw[mx]
   lia
  have c':t * p.2<=t * u:=HR (by lia) (by lia)
  rw[if_neg c,if_neg (by lia),ze h]
theorem vT{t a b c:Int}(h:1<=t):t * max (max a b) c=max (max (t * a) (t * b)) (t * c):=by
 have k:∀ {a b:Int},t * max a b=max (t * a) (t * b):=fun{a b}=>by
  by_cases d:a<=b
  ·rw[Jn d,Jn (HR d (by lia))]
  rw[Js (by lia),Js (HR (by lia) (by lia))]
 rw[k,k]
theorem wU{t a b c:Int}(h:1<=t):t * min (min a b) c=min (min (t * a) (t * b)) (t * c):=by
 have k:∀ {a b:Int},t * min a b=min (t * a) (t * b):=fun{a b}=>by
  by_cases d:a<=b
  ·rw[LZ d,LZ (HR d (by lia))]
  rw[LM (by lia),LM (HR (by lia) (by lia))]
 rw[k,k]
theorem Gi{t x y m:Int}{o:Oc}(h:1<=t):loM (grO t x y o) (4 * x + t * m)=t * loM o m + 4 * y:=by
 unfold loM
 rw[vT h,Ky,Ky,HK t 4 o.c,HK t 4 o.e,HK t 4 o.h]
 unfold grO
 dsimp only
 rw[Ik o.c t,Ik o.e t,Ik o.h t]
 lia
theorem Gy{t x y m:Int}{o:Oc}(h:1<=t):hiM (grO t x y o) (4 * x + t * m)=t * hiM o m + 4 * y:=by
 unfold hiM
 rw[wU h,Ky,Ky,HK t 4 o.d,HK t 4 o.f,HK t 4 o.g]
 unfold grO
 dsimp only
 rw[Ik o.d t,Ik o.f t,Ik o.g t]
 lia
theorem yh{t x y m:Int}{T:List Oc}(h:1<=t):spn (T.map (grO t x y)) (4 * x + t * m)=(spn T m).map fun p=>(t * p.1 + 4 * y,t * p.2 + 4 * y):=by
 unfold spn
 rw[D',D']
 refine IG fun o _=>?_
 show(loM (grO t x y o) _,hiM (grO t x y o) _)=(t * loM o m + 4 * y,t * hiM o m + 4 * y)
 rw[Gi h,Gy h]
theorem Dz(os:List Oc)(m:Int):∃ T:List Oc,T.Perm os/\(spn T m).Pairwise fun p q=>p.1<=q.1:=by
 refine⟨os.mergeSort fun a b=>decide (loM a m<=loM b m),List.mergeSort_perm ..,?_⟩
 unfold spn
 rw[E_]
 refine(List.pairwise_mergeSort (fun a b c h1 h2=>?_) (fun a b=>?_) os).imp fun{a b} h=>of_decide_eq_true h
 ·have:=of_decide_eq_true h1
  have:=of_decide_eq_true h2
  exact decide_eq_true (by lia)
 rw[Bool.or_eq_true,decide_eq_true_iff,decide_eq_true_iff]
 lia
theorem BD{t x y:Int}{o:Oc}(h:Vo o)(t0:1<=t):Vo (grO t x y o):=by
 obtain⟨⟨v1,v2⟩,⟨v3,v4⟩,⟨v5,v6⟩,⟨v7,v8⟩,v9,v10⟩:=h
 have le:∀ {a b:Int},a<=b->a * t<=b * t:=fun g=>Kn g (by lia)
 have m1:=le v1;have m2:=le v2;have m3:=le v3;have m4:=le v4;have m5:=le v5;have m6:=le v6;have m7:=le v7;have m8:=le v8;have m9:=le v9;have m10:=le v10
 rw[Kx]at m5 m6 m7 m8 m9 m10
 rw[IY]at m8 m10
 unfold Vo grO
 dsimp only
 lia
theorem Ff{B B':Nat}{os:List Oc}{t:Nat}{x y:Int}(t0:1<=t)(vo:∀ o∈os,Vo o)(bd:∀ o∈os,Bd B o)(bd':∀ o∈os,Bd B' (grO t x y o))(w1:-((2 * B':Nat):Int)<=2 * x + t * -((2 * B:Nat):Int))(w2:2 * x + t * ((2 * B:Nat):Int)<=((2 * B':Nat):Int)):Ar B' (os.map (grO t x y))=t * (t * Ar B os):=by
 have le:∀ {a b:Int},a<=b->t * a<=t * b:=fun g=>HR g (by lia)
 have e1:Ar B' (os.map (grO t x y))=Sm (fun j=>Lm B' (os.map (grO t x y)) (2 * j + 1)) (2 * x + t * -((2 * B:Nat):Int)) (t * (4 * B)):=by
  refine wj w1 ?_ fun j hj=>cj fun z _ _=>if_neg ?_
  ·have:((t * (4 * B):Nat):Int)=t * ((2 * B:Nat):Int) + t * ((2 * B:Nat):Int):=by push_cast;rw[<-Jw];congr 1;lia
   rw[LJ]at *
   lia
  rintro⟨o',ho',⟨c1,c2⟩,_⟩
  obtain⟨o,ho,rfl⟩:=m_.mp ho'
  obtain⟨⟨b1,b2⟩,_⟩:=bd o ho
  have g1:=le (show -(B:Int)<=o.a by omega)
  have g2:=le (show o.b<=(B:Int) by omega)
  have c1:4 * (o.a * t + x)<=2 * j + 1:=c1
  have c2:2 * j + 1<=4 * (o.b * t + x):=c2
  rw[Ik o.a t]at c1
  rw[Ik o.b t]at c2
  have q:((t * (4 * B):Nat):Int)=4 * (t * (B:Int)):=by push_cast;rw[HK]
  have q2:(t:Int) * -((2 * B:Nat):Int)=-(2 * (t * (B:Int))):=by push_cast;rw[LJ,HK]
  rw[q2,q]at hj
  rw[LJ]at g1
  lia
 rw[e1,lU]
 unfold Ar
 rw[<-qN,<-qN]
 refine aQ fun j _ _=>?_
 obtain⟨T,pT,sT⟩:=Dz (os.filter fun o=>decide (2 * o.a<=j/\j + 1<=2 * o.b)) (2 * j + 1)
 have mem:∀ o,o∈T↔o∈os/\2 * o.a<=j/\j + 1<=2 * o.b:=fun o=>by rw[pT.mem_iff,Io,decide_eq_true_iff]
 have nc:Nc os j (j + 1):=⟨fun o _=>⟨by lia,by lia⟩,fun o _ u _ o' _ v _ o'' _ w _=>⟨by lia,by lia,by lia⟩⟩
 have s1:=jm (B:=B) (T:=T) (l:=j) (r:=j + 1) (by lia) nc vo bd mem (by rw[show j + (j + 1)=2 * j + 1 by lia];exact sT)
 rw[show(j + 1 - j).toNat=1 by lia,CF,show j + 1 - j=1 by lia,Int.one_mul,show j + (j + 1)=2 * j + 1 by lia]at s1
 have cr:∀ p:Int,t * p + 2 * x<=2 * x + t * j\/2 * x + t * j + t<=t * p + 2 * x:=fun p=>by
  by_cases c:p<=j
  ·have:=le c
   exact .inl (by lia)
  have:=le (show j + 1<=p by lia)
  rw[Jw,Iu]at this
  exact .inr (by lia)
 have nc':Nc (os.map (grO t x y)) (2 * x + t * j) (2 * x + t * j + t):=by
  refine⟨fun o' ho'=>?_,fun o ho u hu o' ho' v hv o'' ho'' w hw=>?_⟩
  ·obtain⟨o,ho,rfl⟩:=m_.mp ho'
   have g1:=cr (2 * o.a)
   have g2:=cr (2 * o.b)
   rw[HK,Ik (t:Int)]at g1 g2
   rw[Ik (t:Int) j]at *
   unfold grO
   dsimp only
   lia
  obtain⟨o,mo,rfl⟩:=m_.mp ho
  obtain⟨o',mo',rfl⟩:=m_.mp ho'
  obtain⟨o'',mo'',rfl⟩:=m_.mp ho''
  obtain⟨u0,rfl⟩:∃ u0,u=u0 * t + y:=by rcases hu with rfl | rfl <;> exact⟨_,rfl⟩
  obtain⟨v0,rfl⟩:∃ v0,v=v0 * t + (x + y):=by rcases hv with rfl | rfl <;> exact⟨_,rfl⟩
  obtain⟨w0,rfl⟩:∃ w0,w=w0 * t + (x - y):=by rcases hw with rfl | rfl <;> exact⟨_,rfl⟩
  have g1:=cr (2 * (v0 - u0))
  have g2:=cr (2 * (w0 + u0))
  have g3:=cr (v0 + w0)
  rw[Ik (t:Int) (2 * (v0 - u0)),IY,Me]at g1
  rw[Ik (t:Int) (2 * (w0 + u0)),IY,Kx]at g2
  rw[Ik (t:Int) (v0 + w0),Kx]at g3
  lia
 have mem':∀ o,o∈T.map (grO t x y)↔o∈os.map (grO t x y)/\2 * o.a<=2 * x + t * j/\2 * x + t * j + t<=2 * o.b:=fun o'=>by
  rw[m_,m_]
  have inv:∀ o:Oc,(2 * o.a<=j/\j + 1<=2 * o.b)↔(2 * (grO t x y o).a<=2 * x + t * j/\2 * x + t * j + t<=2 * (grO t x y o).b):=fun o=>by
   show _↔(2 * (o.a * t + x)<=_/\_<=2 * (o.b * t + x))
   rw[Ik o.a t,Ik o.b t]
   have k:∀ {p q:Int},t * p<=t * q->p<=q:=fun{p q} h=>Int.le_of_mul_le_mul_left h (by lia)
   constructor
   ·rintro⟨h1,h2⟩
    have h1:=le h1
    have h2:=le h2
    rw[HK]at h1 h2
    rw[Jw,Iu]at h2
    lia
   rintro⟨h1,h2⟩
   refine⟨k ?_,k ?_⟩
   ·rw[HK];lia
   rw[HK,Jw,Iu];lia
  constructor
  ·rintro⟨o,ho,rfl⟩
   obtain⟨h1,h2⟩:=(mem o).mp ho
   exact⟨⟨o,h1,rfl⟩,(inv o).mp h2⟩
  rintro⟨⟨o,ho,rfl⟩,h⟩
  exact⟨o,(mem o).mpr ⟨ho,(inv o).mpr h⟩,rfl⟩
 have eM:2 * x + t * j + (2 * x + t * j + t)=4 * x + t * (2 * j + 1):=by rw[Jw,Iu,HK];lia
 have s2:=jm (B:=B') (T:=T.map (grO t x y)) (l:=2 * x + t * j) (r:=2 * x + t * j + t) (by lia) nc' (fun o' ho'=>by obtain⟨o,ho,rfl⟩:=m_.mp ho';exact BD (vo o ho) (by lia)) (fun o' ho'=>by obtain⟨o,ho,rfl⟩:=m_.mp ho';exact bd' o ho) mem' (by
  rw[eM,yh (by lia),E_]
  exact sT.imp fun{p q} h=>by have:=le h;dsimp only;lia)
 rw[eM,yh (by lia),show(2 * x + t * j + t - (2 * x + t * j)).toNat=t by lia,show 2 * x + (t:Int) * j + t - (2 * x + t * j)=t by lia]at s2
 rw[<-s2,<-s1]
 congr 1
 cases spn T (2 * j + 1)with
 | nil=>show 0=(t:Int) * 0;lia
 | cons p r=>exact ze (by lia) (u:=p.1) (r:=p::r)
theorem oI{k a:Int}:∀ {n:Nat},Sm (fun _=>k) a n=n * k
 | 0=>by rw[Sm];lia
 | n + 1=>by rw[Sm,oI];push_cast;rw[Kx];lia
theorem BR{a b u:Int}(h1:a<=u)(h2:u<=b):Sm (fun j=>max 0 (4 * u - (2 * j + 1))) (2 * a) (2 * b - 2 * a).toNat=4 * ((u - a) * (u - a)):=by
 rw[show(2 * b - 2 * a).toNat=(2 * u - 2 * a).toNat + (2 * b - 2 * u).toNat by lia,eV,cj (n:=(2 * b - 2 * u).toNat) fun j g1 g2=>by rw[Js (by lia)],JW,aQ (g:=fun j=>4 * u + -1 * (2 * j + 1)) fun j g1 g2=>by rw[Jn (by lia)];lia,mK,show((2 * u - 2 * a).toNat:Int)=2 * (u - a) by lia,show 4 * u + -1 * (2 * a + (2 * a + 2 * (u - a)))=2 * (u - a) by lia]
 grind
theorem Ca{a b v:Int}(h1:a<=v)(h2:v<=b):Sm (fun j=>max 0 (2 * j + 1 - 4 * v)) (2 * a) (2 * b - 2 * a).toNat=4 * ((b - v) * (b - v)):=by
 rw[show(2 * b - 2 * a).toNat=(2 * v - 2 * a).toNat + (2 * b - 2 * v).toNat by lia,eV,cj (n:=(2 * v - 2 * a).toNat) fun j g1 g2=>by rw[Js (by lia)],JX,show 2 * a + ((2 * v - 2 * a).toNat:Int)=2 * v by lia,aQ (g:=fun j=>-4 * v + 1 * (2 * j + 1)) fun j g1 g2=>by rw[Jn (by lia)];lia,mK,show((2 * b - 2 * v).toNat:Int)=2 * (b - v) by lia,show -4 * v + 1 * (2 * v + (2 * v + 2 * (b - v)))=2 * (b - v) by lia]
 grind
def Vz(o:Oc):Prop:=(o.a + o.c<=o.e/\o.f<=o.b + o.d)/\o.a - o.d<=o.g/\o.h<=o.b - o.c
theorem xN{B:Nat}{o:Oc}(v:Vo o)(v':Vo (qj o))(z:Vz o)(bd:Bd B o):Ar B [o]=2 * (4 * (o.b - o.a) * (o.d - o.c) - (2 * (o.e - o.a - o.c) * (o.e - o.a - o.c) + (2 * (o.b + o.d - o.f) * (o.b + o.d - o.f) + (2 * (o.g - o.a + o.d) * (o.g - o.a + o.d) + (2 * (o.b - o.c - o.h) * (o.b - o.c - o.h)))))):=by
 have vv:=v
 obtain⟨⟨v1,v2⟩,⟨v3,v4⟩,⟨v5,v6⟩,⟨v7,v8⟩,v9,v10⟩:=v
 obtain⟨_,_,⟨w1,w2⟩,⟨w3,w4⟩,w5,w6⟩:=v'
 dsimp only[qj]at w1 w2 w3 w4 w5 w6
 obtain⟨⟨z1,z2⟩,z3,z4⟩:=z
 obtain⟨⟨b1,b2⟩,b3,b4⟩:=bd
 rw[<-pg (B:=B) (os:=[o]) (w:=2 * o.a) (e:=2 * o.b) (fun x m=>by rw[p_.mp m];lia) (fun x m=>by rw[p_.mp m];lia) (by lia) (by lia) (by lia)]
 have e1:∀ j,2 * o.a<=j->j < 2 * o.a + (2 * o.b - 2 * o.a).toNat->Lm B [o] (2 * j + 1) + (max 0 (4 * (o.e - o.c) - (2 * j + 1)) + (max 0 (2 * j + 1 - 4 * (o.f - o.d)) + (max 0 (4 * (o.g + o.d) - (2 * j + 1)) + max 0 (2 * j + 1 - 4 * (o.h + o.c)))))=4 * (o.d - o.c):=fun j g1 g2=>by
  have le:=yo (m:=2 * j + 1) vv (by lia) (by lia)
  have el:Lm B [o] (2 * j + 1)=hiM o (2 * j + 1) - loM o (2 * j + 1):=by
   unfold Lm
   rw[<-xF (l:=loM o (2 * j + 1)) (h:=hiM o (2 * j + 1)) (a:=-((8 * B:Nat):Int)) (n:=16 * B) (by unfold loM;omega) le (by unfold hiM;omega)]
   refine aQ fun y _ _=>lJ ⟨fun⟨x,hx,_,c⟩=>by rw[p_.mp hx]at c;exact c,fun c=>⟨o,s_,⟨by lia,by lia⟩,c⟩⟩
  rw[el]
  unfold hiM loM
  lia
 have e2:=aQ e1
 rw[dm,dm,dm,dm,oI,BR (by lia) (by lia),Ca (by lia) (by lia),BR (by lia) (by lia),Ca (by lia) (by lia),show((2 * o.b - 2 * o.a).toNat:Int)=2 * (o.b - o.a) by lia]at e2
 rw[show o.e - o.c - o.a=o.e - o.a - o.c by lia,show o.b - (o.f - o.d)=o.b + o.d - o.f by lia,show o.g + o.d - o.a=o.g - o.a + o.d by lia,show o.b - (o.h + o.c)=o.b - o.c - o.h by lia]at e2
 generalize o.e - o.a - o.c=p1 at *
 generalize o.b + o.d - o.f=p2 at *
 generalize o.g - o.a + o.d=p3 at *
 generalize o.b - o.c - o.h=p4 at *
 generalize o.b - o.a=p5 at *
 generalize o.d - o.c=p6 at *
 rw[IY 2 p1,IY 2 p2,IY 2 p3,IY 2 p4,IY 4 p5]
 rw[IY 2 p5,HK p5 4]at e2
 lia
def ocT(o:Oc):T:=.tup [.int o.a,.int o.b,.int o.c,.int o.d,.int o.e,.int o.f,.int o.g,.int o.h]
theorem xT{o:Oc}:er (ocT o)=ocT o:=rfl
theorem pC{o:Oc}:cG (ocT o)=true:=rfl
theorem lY{o:Oc}:b7 (ocT o)=true:=rfl
theorem l7{o:Oc}:isAny (ocT o)=false:=rfl
def ocL(o:Oc):List Int:=[o.a,o.b,o.c,o.d,o.e,o.f,o.g,o.h]
theorem DK(o:Oc):ocT o=iT (ocL o):=rfl
def gA(i:Nat)(o:Oc):Int:=(ocL o).getD i 0
theorem xm{o:Oc}{i:Int}{k:T->Prop}:ixT (ocT o) (.int i) k=ixT (.tup [.int o.a,.int o.b,.int o.c,.int o.d,.int o.e,.int o.f,.int o.g,.int o.h]) (.int i) k:=rfl
theorem sN{o:Oc}{i:Nat}(h:i < 8):atI [T.int o.a,.int o.b,.int o.c,.int o.d,.int o.e,.int o.f,.int o.g,.int o.h] (i:Int)=some (.int (gA i o)):=by
 match i,h with
 | 0,_=>rfl
 | 1,_=>rfl
 | 2,_=>rfl
 | 3,_=>rfl
 | 4,_=>rfl
 | 5,_=>rfl
 | 6,_=>rfl
 | 7,_=>rfl
theorem sizeLine_eq:sizeLine=16777216:=rfl
theorem fF{α:Type}{ps:List α}{g:α->Int}:intsOf (ps.map fun p=>T.int (g p))=some (ps.map g):=by
 induction ps with
 | nil=>rfl
 | cons p ps ih=>rw[j',intsOf,ih];rfl
theorem uJ{α β:Type}{ps:List α}{qs:List β}{g:α->Int}{h:β->Int}:intsOf ((ps.map fun p=>T.int (g p))++qs.map fun p=>T.int (h p))=some (ps.map g++qs.map h):=by
 have e:(ps.map fun p=>T.int (g p))++(qs.map fun p=>T.int (h p))=(ps.map g++qs.map h).map fun x=>T.int x:=by rw[t_,D',D'];rfl
 rw[e,fF,Ly]
theorem pq{ns:List Int}:intsOf (ns.map T.int)=some ns:=by
 have:=fF (ps:=ns) (g:=fun x=>x)
 rwa[Ly]at this
theorem c2(x:Int):mC 2 x:=.inl ⟨by decide,by decide⟩
theorem c4(x:Int):mC 4 x:=.inl ⟨by decide,by decide⟩
theorem c8(x:Int):mC 8 x:=.inl ⟨by decide,by decide⟩
theorem ja{os:List Oc}{i:Nat}{ms:List Int}(h1:ms.Pairwise (· < ·))(h2:∀ z,z∈ms↔∃ o∈os,z=gA i o\/z=gA (i + 1) o):ms.length<=2 * os.length:=by
 have:=r6 (m:=os.map (gA i)++os.map (gA (i + 1))) (BX h1) fun z hz=>by
  obtain⟨o,m,e⟩:=(h2 z).mp hz
  rw[z_,m_,m_]
  exact e.elim (fun e=>.inl ⟨o,m,e.symm⟩) fun e=>.inr ⟨o,m,e.symm⟩
 rw[f',a_,a_]at this
 lia
abbrev Pt:=Int × Int
def ptP(p:Pt):T:=pt p.1 p.2
theorem xk{p:Pt}:er (ptP p)=ptP p:=rfl
theorem pM{p:Pt}:cG (ptP p)=true:=rfl
theorem lx{p:Pt}:b7 (ptP p)=true:=rfl
theorem rN{p:Pt}{k:T->Prop}:ixT (ptP p) (.int 0) k=k (.int p.1):=rfl
theorem uq{n:Nat}{gs:kx}{p:Pt}{env:Ev}{k:Ev->Prop}:gTp n gs (ptP p) env k=gTp n gs (.tup [.int p.1,.int p.2]) env k:=rfl
def fk(p:Pt):List Int:=[p.1,p.2]
theorem jJ{α β:Type}{f:α->β}{l m:List β}(p:l.Perm m):∀ {xs:List α},m=xs.map f->∃ ys:List α,ys.Perm xs/\l=ys.map f:=by
 induction p with
 | nil=>exact fun{xs} e=>⟨xs,.refl _,e⟩
 | cons x p ih=>
  intro xs e
  cases xs with
  | nil=>cases e
  | cons y xs=>
   obtain⟨e1,e2⟩:=Jf e
   obtain⟨ys,q,r⟩:=ih e2
   exact⟨y::ys,.cons y q,by rw[r,e1];rfl⟩
 | swap x y l=>
  intro xs e
  match xs,e with
  | a::b::xs,e=>
   obtain⟨e1,e2⟩:=Jf e
   obtain⟨e2,e3⟩:=Jf e2
   exact⟨b::a::xs,.swap _ _ _,by rw[e1,e2,e3];rfl⟩
 | trans p q ih jh=>
  intro xs e
  obtain⟨ys,y1,y2⟩:=jh e
  obtain⟨zs,z1,z2⟩:=ih y2
  exact⟨zs,z1.trans y1,z2⟩
def A6(l:List Pt):List Pt:=(ng (l.map fk)).map fun r=>(r.getD 0 0,r.getD 1 0)
theorem kH(l:List Pt):∃ ys:List Pt,ys.Perm l/\ng (l.map fk)=ys.map fk/\A6 l=ys:=by
 obtain⟨ys,y1,y2⟩:=jJ (gK (lt:=ZS.ltL) (l.map fk)) (f:=fk) (xs:=l) rfl
 refine⟨ys,y1,y2,?_⟩
 unfold A6
 rw[show ng (l.map fk)=ys.map fk from y2,D']
 exact Kw _
theorem wZ{o:Bool}{l:List Pt}{k:T->Prop}:mE [.lst o (l.map ptP)] k=k (.lst true ((A6 l).map ptP)):=by
 obtain⟨ys,y1,y2,y3⟩:=kH l
 rw[y3]
 cases l with
 | nil=>
  have:ys=[]:=List.perm_nil.mp y1
  rw[this]
  rfl
 | cons p l=>
  show got (rowsOf ((p::l).map ptP)) (fun ks=>k (.lst true ((ng ks).map iT)))=_
  have e:rowsOf ((p::l).map ptP)=some ((p::l).map fk):=iz ptP fk (fun x=>rfl) (fun x=>LN _ _) _
  rw[e]
  show k (.lst true ((ng ((p::l).map fk)).map iT))=_
  rw[y2,D']
  rfl
theorem Bn{os:List Oc}{m:Int}:∃ U:List Oc,U.Perm os/\A6 (spn os m)=spn U m/\(spn U m).Pairwise fun p q=>p.1<=q.1:=by
 obtain⟨ys,y1,y2,y3⟩:=kH (spn os m)
 obtain⟨U,p,r⟩:=jJ y1 (f:=fun o=>(loM o m,hiM o m)) (xs:=os) rfl
 refine⟨U,p,y3.trans r,?_⟩
 have s:=dS ZS.rC ((spn os m).map fk)
 rw[show qo ZS.ltL ((spn os m).map fk)=ys.map fk from y2,E_,r]at s
 refine s.imp fun{a b} h=>LO fun z=>?_
 have:ZS.ltL (fk b) (fk a)=true:=by
  show(if b.1=a.1 then _ else decide (b.1 < a.1))=true
  rw[if_neg (by lia)]
  exact decide_eq_true z
 rw[this]at h
 cases h
theorem wz{os:List Oc}{m:Int}{i:Nat}{x:Oc}(h:os[i]?=some x):spn (os.take (i + 1)) m=spn (os.take i) m++[(loM x m,hiM x m)]:=by
 unfold spn
 rw[Im,h,t_]
 rfl
def obT(b u:Bool)(o:Oc):T:=if b then .lst u ((ocL o).map T.int)else ocT o
noncomputable def ogT(c o b u:Bool)(os:List Oc):T:=if c then .tup (os.map (obT b u))else .lst o (os.map (obT b u))
theorem rK{b u:Bool}{o:Oc}:er (obT b u o)=obT b false o:=by cases b <;> rfl
theorem kU{b u:Bool}{o:Oc}:isAny (obT b u o)=false:=by cases b <;> rfl
theorem kL{b:Bool}{o:Oc}:b7 (obT b false o)=true:=by cases b <;> rfl
theorem tH{b u:Bool}{o:Oc}{k:T->Prop}:nA [obT b u o] k=k (ocT o):=by cases b <;> rfl
theorem yQ{b u:Bool}{os:List Oc}:erL (os.map (obT b u))=os.map (obT b false):=by
 rw[fw]
 exact IG fun k _=>rK
theorem qK{c o b u:Bool}{os:List Oc}:er (ogT c o b u os)=ogT c false b false os:=by
 cases c
 ·show er (.lst o (os.map (obT b u)))=.lst false (os.map (obT b false))
  rw[er,yQ]
 show er (.tup (os.map (obT b u)))=.tup (os.map (obT b false))
 rw[er,yQ]
theorem lC{c o b u:Bool}{os:List Oc}:items (ogT c o b u os)=some (os.map (obT b u)):=by cases c <;> rfl
theorem lg{c o b u:Bool}{os:List Oc}:isAny (ogT c o b u os)=false:=by cases c <;> rfl
theorem l9{c b:Bool}{os:List Oc}:b7 (ogT c false b false os)=true:=by
 have:er (ogT c false b false os)=ogT c false b false os:=qK
 rw[<-this]
 exact bT _
theorem zF{ws:List Oc}(h:(ws.map ocL).Pairwise fun x y=>ZS.ltL x y=false):ws.Pairwise fun x y=>y.a<=x.a:=by
 rw[E_]at h
 refine h.imp fun{x y} g=>LO fun z=>?_
 have:ZS.ltL (ocL x) (ocL y)=true:=by
  show(if x.a=y.a then _ else decide (x.a < y.a))=true
  rw[if_neg (by lia)]
  exact decide_eq_true z
 rw[this]at g
 cases g
theorem xV{B:Nat}{os ws:List Oc}(l:ws.length<=os.length)(m:∀ x∈ws,x∈os)(h:iS B os):iS B ws:=⟨v_ l h.1,h.2.1,h.2.2.1.elim (fun z=>.inl (v_ l z)) .inr,fun x hx=>h.2.2.2.1 x (m x hx),fun x hx=>h.2.2.2.2 x (m x hx)⟩
theorem Hv{ts:List T}:ig ts (some 1) none=ts.drop 1:=ve ts 1
theorem yf{S:List Int}:Ib (fun p:T × T=>T.tup [p.1,p.2]) ((Ib (fun x=>T.int x) S).zip (erL (List.drop 1 (Ib (fun x=>T.int x) S))))=(S.zip (S.drop 1)).map ptP:=by
 rw[<-Lo,fw,List.zip_map,D']
 rfl
theorem CQ{S:List Int}{i:Nat}{l r:Int}(h:(S.zip (S.drop 1))[i]?=some (l,r)):S[i]?=some l/\S[i + 1]?=some r:=by
 rw[KP]at h
 refine⟨h.1,?_⟩
 have:=h.2
 rw[Jb,Nat.add_comm]at this
 exact this
theorem A7(V:List Oc)(x:Oc):atI (Ib (fun x=>ocT x) (V.concat x)) (-1)=some (ocT x):=by
 have e:Ib (fun x=>ocT x) (V.concat x)=V.map ocT++[ocT x]:=by rw[Je,t_];rfl
 rw[e]
 unfold atI ixN
 rw[f',Ld,if_neg (by lia),if_pos (by lia)]
 show(V.map ocT++[ocT x])[_]?=_
 rw[show((-1:Int) + ((Ib ocT V).length + 1:Nat)).toNat=(V.map ocT).length by lia,H_ (f_ _),JA]
 rfl
theorem oj(V:List Oc)(x:Oc):(Ib ocT (V.concat x))[(V.concat x).length - 1]?=some (ocT x)/\(Ib ocT (V.concat x)).dropLast=V.map ocT:=by
 rw[LA,Je,t_,Nat.add_sub_cancel]
 refine⟨?_,Kl⟩
 rw[H_ (by rw[a_];exact f_ _),a_,JA]
 rfl
noncomputable def AK(ws:List Oc)(l:Int)(V th:List Oc):Prop:=(V.Pairwise fun x y=>y.a<=x.a)/\(∀ x∈V,x∈ws)/\(∀ x∈th,x∈ws/\2 * x.a<=l)/\(∀ x∈ws,x∈V\/x∈th\/2 * x.b < l)/\V.length + th.length<=ws.length
theorem Dj{ws:List Oc}{l:Int}{V th:List Oc}{x:Oc}(h:AK ws l (V.concat x) th)(g:2 * x.a<=l):AK ws l V (th++[x]):=by
 obtain⟨h1,h2,h3,h4,h5⟩:=h
 rw[Je]at h1 h2 h4 h5
 refine⟨(C_.mp h1).1,fun y m=>h2 y (w_ _ m),fun y m=>?_,fun y m=>?_,by rw[f']at h5 ⊢;exact(by lia)⟩
 ·rcases z_.mp m with m | m
  ·exact h3 y m
  rw[p_.mp m]
  exact⟨h2 x (n_ _ s_),g⟩
 rcases h4 y m with m | m | m
 ·rcases z_.mp m with m | m
  ·exact .inl m
  exact .inr (.inl (n_ _ m))
 ·exact .inr (.inl (w_ _ m))
 exact .inr (.inr m)
noncomputable def AJ(B:Nat)(ws:List Oc)(S:List Int)(i:Nat)(V th:List Oc)(D:Int):Prop:=(S=[]->D=0)/\∀ l,S[i]?=some l->AK ws l V th/\∀ w,S[0]?=some w->w<=l/\D=Sm (fun j=>Lm B ws (2 * j + 1)) w (l - w).toNat
theorem Hk{B:Nat}{ws:List Oc}{S:List Int}(h:ws.Pairwise fun x y=>y.a<=x.a):AJ B ws S 0 ws [] 0:=⟨fun _=>rfl,fun l e=>⟨⟨h,fun x m=>m,(fun x m=>by cases m),fun x m=>.inl m,by rw[Jp];lia⟩,fun w e'=>by
 rw[e]at e'
 cases e'
 exact⟨J9 _,by rw[show(l - l).toNat=0 by lia];rfl⟩⟩⟩
theorem yY{B:Nat}{ws:List Oc}{S:List Int}{i:Nat}{l r:Int}(hw:iS B ws)(hS:Sds B ws S)(sl:S[i]?=some l)(sr:S[i + 1]?=some r):l < r/\-(2 ^ 60) < l/\r < 2 ^ 60:=by
 obtain⟨u,_,n,s,_⟩:=hS
 have ne:ws≠[]:=fun z=>by rw[n z]at sl;cases sl
 obtain⟨w,e,s0,s1,b1,b2,b3,_⟩:=s ne
 have hB:=hw.2.1
 have lr:=eZ u sl sr (Jm i)
 have il:=(gV.mp sl).1
 have ir:=(gV.mp sr).1
 have g1:w<=l:=by
  by_cases z:i=0
  ·subst z;rw[s0]at sl;cases sl;exact J9 _
  exact Ma (eZ u s0 sl (by lia))
 have g2:r<=e:=by
  by_cases z:i + 1=S.length - 1
  ·rw[<-z,sr]at s1;cases s1;exact J9 _
  exact Ma (eZ u sr s1 (by omega))
 exact⟨lr,by lia,by lia⟩
theorem AS{B:Nat}{ws:List Oc}{S:List Int}{i:Nat}{V th U:List Oc}{D l r:Int}(hw:iS B ws)(hS:Sds B ws S)(sl:S[i]?=some l)(sr:S[i + 1]?=some r)(J0:∀ w,S[0]?=some w->w<=l/\D=Sm (fun j=>Lm B ws (2 * j + 1)) w (l - w).toNat)(K:AK ws l V th)(hV:∀ x∈V,l < 2 * x.a)(pU:U.Perm (th.filter fun x=>decide (r<=2 * x.b)))(sU:(spn U (l + r)).Pairwise fun p q=>p.1<=q.1) :
  AJ B ws S (i + 1) V (th.filter fun x=>decide (r<=2 * x.b)) (D + (r - l) * sw (rG (spn U (l + r))) (spn U (l + r))):=by
 obtain⟨lr,_⟩:=yY hw hS sl sr
 obtain⟨k1,k2,k3,k4,k5⟩:=K
 have fl:=IL (fun x:Oc=>decide (r<=2 * x.b)) th
 have mem:∀ x,x∈U↔x∈ws/\2 * x.a<=l/\r<=2 * x.b:=fun x=>by
  rw[pU.mem_iff,Io,decide_eq_true_iff]
  refine⟨fun⟨a,b⟩=>⟨(k3 x a).1,(k3 x a).2,b⟩,fun⟨a,b,c⟩=>⟨?_,c⟩⟩
  rcases k4 x a with m | m | m
  ·have:=hV x m
   lia
  ·exact m
  lia
 refine⟨fun z=>(by rw[z]at sl;cases sl),fun r' er=>?_⟩
 rw[sr]at er
 cases er
 refine⟨⟨k1,k2,fun x m=>?_,fun x m=>?_,by lia⟩,fun w ew=>?_⟩
 ·have:=(k3 x (Io.mp m).1)
  exact⟨this.1,by lia⟩
 ·rcases k4 x m with m' | m' | m'
  ·exact .inl m'
  ·by_cases c:r<=2 * x.b
   ·exact .inr (.inl (Io.mpr ⟨m',decide_eq_true c⟩))
   exact .inr (.inr (by lia))
  exact .inr (.inr (by lia))
 obtain⟨g1,g2⟩:=J0 w ew
 refine⟨by lia,?_⟩
 rw[g2,jm (B:=B) lr (hS.2.2.2.2 i l r sl sr) hw.2.2.2.1 hw.2.2.2.2 mem sU,show(r - w).toNat=(l - w).toNat + (r - l).toNat by lia,eV,show w + ((l - w).toNat:Int)=l by lia]
theorem CB{B:Nat}{ws:List Oc}{S:List Int}{V th:List Oc}{D:Int}(hw:iS B ws)(hS:Sds B ws S)(J:AJ B ws S ((S.zip (S.drop 1)).map ptP).length V th D):D=Ar B ws:=by
 rw[a_,LX,HL,show min S.length (S.length - 1)=S.length - 1 by lia]at J
 obtain⟨u,_,n,s,_⟩:=hS
 by_cases ne:ws=[]
 ·rw[J.1 (n ne),ne]
  unfold Ar Lm
  exact(cj fun j _ _=>cj fun y _ _=>if_neg fun⟨o,ho,_⟩=>by cases ho).symm
 obtain⟨w,e,s0,s1,b1,b2,b3,b4⟩:=s ne
 rw[((J.2 e s1).2 w s0).2]
 exact pg (fun x m=>(b4 x m).1) (fun x m=>(b4 x m).2) b2 b1 b3
def bdP(lo hi:Int)(p:Pt):Prop:=(lo<=p.1/\p.1<=hi)/\lo<=p.2/\p.2<=hi
def gO(j:Nat)(p:Pt):Int:=[p.1,p.2,p.1 + p.2,p.1 - p.2].getD j 0
noncomputable def rP(ps:List Pt)(o:Oc):Prop:=((d0 (ps.map (gO 0)) o.a/\d5 (ps.map (gO 0)) o.b)/\(d0 (ps.map (gO 1)) o.c/\d5 (ps.map (gO 1)) o.d))/\(d0 (ps.map (gO 2)) o.e/\d5 (ps.map (gO 2)) o.f)/\d0 (ps.map (gO 3)) o.g/\d5 (ps.map (gO 3)) o.h
def rw4(p:Pt):T:=.lst true [.int p.1,.int p.2,.int (p.1 + p.2),.int (p.1 - p.2)]
def fl2(f:Nat->Int × Int)(i:Nat):List Int:=(y_ i).flatMap fun j=>[(f j).1,(f j).2]
theorem Bs(f:Nat->Int × Int)(n:Nat):(fl2 f n).length=2 * n:=by
 unfold fl2
 induction n with
 | zero=>rfl
 | succ n ih=>rw[IS,Kt,f',ih];rfl
theorem zi{f:Nat->Int × Int}{m M:Int}{i:Nat}:fl2 (fun j=>if j=i then(m,M)else f j) (i + 1)=fl2 f i++[m,M]:=by
 unfold fl2
 rw[IS,Kt]
 have ec:(y_ i).flatMap (fun j=>[(if j=i then(m,M)else f j).1,(if j=i then(m,M)else f j).2])=(y_ i).flatMap fun j=>[(f j).1,(f j).2]:=by
  rw[LP,LP]
  refine congrArg List.flatten (IG fun j hj=>?_)
  have:=IE.mp hj
  rw[if_neg (by lia)]
 rw[ec]
 congr 1
 show [(if i=i then(m,M)else f i).1,(if i=i then(m,M)else f i).2]++[]=_
 rw[if_pos rfl]
 rfl
def vD(p:Pt):T:=.lst false [.int p.1,.int p.2,.int (p.1 + p.2),.int (p.1 - p.2)]
theorem xo{p:Pt}:er (rw4 p)=vD p:=rfl
theorem tU{p:Pt}:er (vD p)=vD p:=rfl
theorem jI{p:Pt}:b7 (vD p)=true:=rfl
theorem ji{p:Pt}:isAny (vD p)=false:=rfl
theorem tG{p:Pt}{i:Int}{k:T->Prop}:ixT (vD p) (.int i) k=ixT (.lst false [.int p.1,.int p.2,.int (p.1 + p.2),.int (p.1 - p.2)]) (.int i) k:=rfl
theorem BA{p:Pt}{i:Nat}(h:i < 4):atI [T.int p.1,.int p.2,.int (p.1 + p.2),.int (p.1 - p.2)] (i:Int)=some (.int (gO i p)):=by
 match i,h with
 | 0,_=>rfl
 | 1,_=>rfl
 | 2,_=>rfl
 | 3,_=>rfl
def qtT(q:Qt):T:=.tup [.int q.1,.int q.2.1,.int (q.2.2:Int)]
theorem xi{q:Qt}:er (qtT q)=qtT q:=rfl
theorem pI{q:Qt}:cG (qtT q)=true:=rfl
theorem lh{q:Qt}:isAny (qtT q)=false:=rfl
theorem FV{s:Nat}(h:s < 4):atI [T.int 6,.int 4,.int 2,.int 4] (s:Int)=some (.int (px s)):=by
 match s,h with
 | 0,_=>rfl
 | 1,_=>rfl
 | 2,_=>rfl
 | 3,_=>rfl
theorem Fh{s:Nat}(h:s < 4):atI [T.int 5,.int 7,.int 3,.int 1] (s:Int)=some (.int (py s)):=by
 match s,h with
 | 0,_=>rfl
 | 1,_=>rfl
 | 2,_=>rfl
 | 3,_=>rfl
noncomputable def spL(q:Qt):List Int:=[8 * q.1 + px q.2.2,8 * q.2.1 + py q.2.2,8 * q.1 + px q.2.2 + (8 * q.2.1 + py q.2.2),8 * q.1 + px q.2.2 - (8 * q.2.1 + py q.2.2)]
noncomputable def inB(o:Oc)(q:Qt)(i:Nat):Bool:=decide (8 * gA (2 * i) o<=(spL q).getD i 0/\(spL q).getD i 0<=8 * gA (2 * i + 1) o)
theorem GB{q:Qt}{i:Nat}(h:i < 4):atI [T.int (8 * q.1 + px q.2.2),.int (8 * q.2.1 + py q.2.2),.int (8 * q.1 + px q.2.2 + (8 * q.2.1 + py q.2.2)),.int (8 * q.1 + px q.2.2 - (8 * q.2.1 + py q.2.2))] (i:Int)=some (.int ((spL q).getD i 0)):=by
 match i,h with
 | 0,_=>rfl
 | 1,_=>rfl
 | 2,_=>rfl
 | 3,_=>rfl
theorem DZ{o:Oc}{q:Qt}:((y_ (IM 4)).map (inB o q)).all id=decide (inL o q):=by
 show(inB o q 0 && (inB o q 1 && (inB o q 2 && (inB o q 3 && true))))=_
 unfold inB
 rw[L6,<-La,<-La,<-La]
 refine decide_eq_decide.mpr ?_
 exact⟨fun⟨a,b,c,d⟩=>⟨⟨a,b⟩,c,d⟩,fun⟨⟨a,b⟩,c,d⟩=>⟨a,b,c,d⟩⟩
theorem vk(l:List Bool):boolsOf (l.map T.bl)=some l:=by
 induction l with
 | nil=>rfl
 | cons x l ih=>rw[j',boolsOf,ih]
noncomputable def qO(o:Oc):List Qt:=cx (fun X=>cx (fun Y=>cl4 (fun s=>inL o (X,Y,s)) X Y) o.c (o.d - o.c).toNat) o.a (o.b - o.a).toNat
theorem qV{p:Nat->Prop}[DecidablePred p]{x y:Int}:(cl4 p x y).length<=4:=by
 unfold cl4
 rw[a_]
 exact IL ..
theorem gn{α:Type}{f:Int->List α}{c:Nat}(h:∀ y,(f y).length<=c){a:Int}(n:Nat):(cx f a n).length<=c * n:=by
 induction n with
 | zero=>exact f_ _
 | succ n ih=>
  rw[d6,f',L']
  exact Nat.add_le_add ih (h _)
theorem pxy{s:Nat}(h:s < 4):(0 < px s/\px s < 8)/\0 < py s/\py s < 8:=by
 match s,h with
 | 0,_=>decide
 | 1,_=>decide
 | 2,_=>decide
 | 3,_=>decide
theorem yO{o:Oc}{q:Qt}:q∈qO o↔q.2.2 < 4/\inL o q:=by
 unfold qO
 rw[bH]
 constructor
 ·rintro⟨X,_,_,h⟩
  obtain⟨Y,_,_,h⟩:=bH.mp h
  obtain⟨rfl,rfl,h1,h2⟩:=cv.mp h
  exact⟨h1,h2⟩
 rintro⟨h1,h2⟩
 have h3:=h2
 obtain⟨⟨⟨i1,i2⟩,i3,i4⟩,_⟩:=h2
 obtain⟨⟨x1,x2⟩,x3,x4⟩:=pxy h1
 exact⟨q.1,by lia,by lia,bH.mpr ⟨q.2.1,by lia,by lia,cv.mpr ⟨rfl,rfl,h1,h3⟩⟩⟩
def G2(q:Qt):List Int:=[q.1,q.2.1,(q.2.2:Int)]
def kQ(q:Qt):List Key:=kI (G2 q)
theorem E4{q r:Qt}(h:kQ q=kQ r):q=r:=by
 have h:=DX h
 unfold G2 at h
 simp only[Jd,and_true]at h
 exact Ku h.1 (Ku h.2.1 (by have:=h.2.2;lia))
def dQ(qs:List Qt):List (List Key × T):=qs.map fun q=>(kQ q,T.bl true)
theorem E9{qs:List Qt}{q:Qt}:hJ (dQ qs) (kQ q) (.bl true)=dQ (if q∈qs then qs else qs++[q]):=by
 unfold hJ dQ
 by_cases m:q∈qs
 ·rw[if_pos m,if_pos]
  ·rw[D']
   refine IG fun r mr=>?_
   show(if kQ r=kQ q then(kQ r,T.bl true)else(kQ r,T.bl true))=_
   split <;> rfl
  exact Jl.mpr ⟨_,m_.mpr ⟨q,m,rfl⟩,decide_eq_true rfl⟩
 rw[if_neg m,if_neg]
 ·rw[t_]
  rfl
 intro g
 obtain⟨kv,mk,e⟩:=Jl.mp g
 obtain⟨a,ma,rfl⟩:=m_.mp mk
 exact m (E4 (of_decide_eq_true e) ▸ ma)
theorem yg(qs:List Qt):(dQ qs).length=qs.length:=a_ ..
theorem u6{kvs:List (List Key × T)}{q:Qt}{t:T}{k:T->Prop}:vg (.dT true kvs) (qtT q) t k=vg (.dT true kvs) (.tup [.int q.1,.int q.2.1,.int (q.2.2:Int)]) t k:=rfl
def addQ(qs:List Qt):List Qt->List Qt
 | []=>qs
 | q::r=>addQ (if q∈qs then qs else qs++[q]) r
theorem rQ:∀ {r qs:List Qt},qs.Nodup->(addQ qs r).Nodup
 | [],_,h=>h
 | q::r,qs,h=>by
  refine rQ (r:=r) ?_
  by_cases m:q∈qs
  ·rw[if_pos m];exact h
  rw[if_neg m,IW]
  exact⟨h,G_.mpr ⟨(nomatch ·),IZ⟩,fun a ha b hb e=>by rw[p_.mp hb]at e;exact m (e ▸ ha)⟩
theorem kh:∀ {r qs:List Qt} {x:Qt},x∈addQ qs r↔x∈qs\/x∈r
 | [],_,x=>⟨.inl,fun h=>h.elim id (nomatch ·)⟩
 | q::r,qs,x=>by
  show x∈addQ (if q∈qs then qs else qs++[q]) r↔_
  rw[kh,o_]
  by_cases m:q∈qs
  ·rw[if_pos m]
   exact⟨fun h=>h.elim .inl fun h=>.inr (.inr h),fun h=>h.elim .inl fun h=>h.elim (fun e=>.inl (e ▸ m)) .inr⟩
  rw[if_neg m,z_,p_]
  exact⟨fun h=>h.elim (fun h=>h.elim .inl fun h=>.inr (.inl h)) fun h=>.inr (.inr h),fun h=>h.elim (fun h=>.inl (.inl h)) fun h=>h.elim (fun h=>.inl (.inr h)) .inr⟩
theorem uZ{qs r:List Qt}{i:Nat}{q:Qt}(h:r[i]?=some q):addQ qs (r.take (i + 1))=if q∈addQ qs (r.take i)then addQ qs (r.take i)else addQ qs (r.take i)++[q]:=by
 rw[Im,h]
 generalize r.take i=s
 induction s generalizing qs with
 | nil=>rfl
 | cons a s ih=>exact ih
def A8(q:Qt):Prop:=(-200<=q.1/\q.1 < 200)/\(-200<=q.2.1/\q.2.1 < 200)/\q.2.2 < 4
theorem D4{qs:List Qt}(nd:qs.Nodup)(h:∀ q∈qs,A8 q):qs.length<=640000:=by
 refine v_ (r6 (m:=cx (fun X=>cx (fun Y=>cl4 (fun _=>True) X Y) (-200) 400) (-200) 400) nd fun q m=>?_) (v_ (gn (fun y=>gn (fun y=>qV) _) _) (by decide))
 obtain⟨⟨h1,h2⟩,⟨h3,h4⟩,h5⟩:=h q m
 exact bH.mpr ⟨q.1,h1,by lia,bH.mpr ⟨q.2.1,h3,by lia,cv.mpr ⟨rfl,rfl,h5,trivial⟩⟩⟩
theorem FN{o:Oc}{q:Qt}(b:Bd 200 o)(h:q∈qO o):A8 q:=by
 obtain⟨h1,⟨⟨i1,i2⟩,i3,i4⟩,_⟩:=yO.mp h
 obtain⟨⟨b1,b2⟩,b3,b4⟩:=b
 obtain⟨⟨x1,x2⟩,x3,x4⟩:=pxy h1
 exact⟨⟨by lia,by lia⟩,⟨by lia,by lia⟩,h1⟩
theorem mO{ps:List Pt}{o:Oc}{lo hi:Int}(h:rP ps o)(hb:∀ p∈ps,bdP lo hi p):(Vo o/\Vo (qj o)/\Vz o)/\(lo<=o.a/\o.b<=hi)/\lo<=o.c/\o.d<=hi:=by
 obtain⟨⟨⟨a,b⟩,c,d⟩,⟨e,f⟩,g,h⟩:=h
 have mn:∀ {j x},d0 (ps.map (gO j)) x->∀ p∈ps,x<=gO j p:=fun k p m=>k.2 _ (F_ m)
 have mx:∀ {j x},d5 (ps.map (gO j)) x->∀ p∈ps,gO j p<=x:=fun k p m=>k.2 _ (F_ m)
 obtain⟨p,mp,ep⟩:=m_.mp a.1
 obtain⟨q,mq,eq⟩:=m_.mp b.1
 obtain⟨u,mu,eu⟩:=m_.mp c.1
 obtain⟨v,mv,ev⟩:=m_.mp d.1
 have ep:p.1=o.a:=ep
 have eq:q.1=o.b:=eq
 have eu:u.2=o.c:=eu
 have ev:v.2=o.d:=ev
 have p1:=hb p mp;have q1:=hb q mq;have u1:=hb u mu;have v1:=hb v mv
 have h1:q.1 + q.2<=o.f:=mx f q mq
 have h2:o.c<=q.2:=mn c q mq
 have h3:o.g<=p.1 - p.2:=mn g p mp
 have h4:o.c<=p.2:=mn c p mp
 have h5:o.e<=p.1 + p.2:=mn e p mp
 have h6:p.2<=o.d:=mx d p mp
 have h7:q.1 - q.2<=o.h:=mx h q mq
 have h8:q.2<=o.d:=mx d q mq
 have h9:p.1<=o.b:=mx b p mp
 have h10:p.1 + p.2<=o.f:=mx f p mp
 have h11:p.1 - p.2<=o.h:=mx h p mp
 have u2:o.a<=u.1:=mn a u mu
 have u3:u.1<=o.b:=mx b u mu
 have u4:o.e<=u.1 + u.2:=mn e u mu
 have u5:u.1 - u.2<=o.h:=mx h u mu
 have v2:o.a<=v.1:=mn a v mv
 have v3:v.1<=o.b:=mx b v mv
 have v4:v.1 + v.2<=o.f:=mx f v mv
 have v5:o.g<=v.1 - v.2:=mn g v mv
 obtain⟨p5,mp5,ep5⟩:=m_.mp e.1
 obtain⟨p6,mp6,ep6⟩:=m_.mp f.1
 obtain⟨p7,mp7,ep7⟩:=m_.mp g.1
 obtain⟨p8,mp8,ep8⟩:=m_.mp h.1
 have ep5:p5.1 + p5.2=o.e:=ep5
 have ep6:p6.1 + p6.2=o.f:=ep6
 have ep7:p7.1 - p7.2=o.g:=ep7
 have ep8:p8.1 - p8.2=o.h:=ep8
 have y1:o.a<=p5.1:=mn a p5 mp5
 have y2:o.c<=p5.2:=mn c p5 mp5
 have y3:p6.1<=o.b:=mx b p6 mp6
 have y4:p6.2<=o.d:=mx d p6 mp6
 have y5:o.a<=p7.1:=mn a p7 mp7
 have y6:p7.2<=o.d:=mx d p7 mp7
 have y7:p8.1<=o.b:=mx b p8 mp8
 have y8:o.c<=p8.2:=mn c p8 mp8
 unfold bdP at p1 q1 u1 v1
 unfold Vo qj Vz
 dsimp only
 exact⟨⟨⟨⟨by lia,by lia⟩,⟨by lia,by lia⟩,⟨by lia,by lia⟩,⟨by lia,by lia⟩,by lia,by lia⟩,⟨⟨by lia,by lia⟩,⟨by lia,by lia⟩,⟨by lia,by lia⟩,⟨by lia,by lia⟩,by lia,by lia⟩,⟨by lia,by lia⟩,by lia,by lia⟩,⟨by lia,by lia⟩,by lia,by lia⟩
def okO(lo hi:Int)(o:Oc):Prop:=(Vo o/\Vo (qj o)/\Vz o)/\(lo<=o.a/\o.b<=hi)/\lo<=o.c/\o.d<=hi
noncomputable def nR(o:Oc):Int:=4 * (o.b - o.a) * (o.d - o.c) - (2 * (o.e - o.a - o.c) * (o.e - o.a - o.c) + (2 * (o.b + o.d - o.f) * (o.b + o.d - o.f) + (2 * (o.g - o.a + o.d) * (o.g - o.a + o.d) + (2 * (o.b - o.c - o.h) * (o.b - o.c - o.h)))))
theorem rL{n:Nat}{gs:kx}{o:Oc}{env:Ev}{k:Ev->Prop}:gTp n gs (ocT o) env k=gTp n gs (.tup [.int o.a,.int o.b,.int o.c,.int o.d,.int o.e,.int o.f,.int o.g,.int o.h]) env k:=rfl
theorem cpw(k:Int)(h:0<=k/\k<=8):B4 10 k:=⟨h.1,by lia,by decide⟩
theorem He{ts:List T}{i:Int}(h:0<=i):ig ts none (some i)=ts.take i.toNat:=by
 have:=vf ts i.toNat
 rwa[Lr h]at this
theorem D6{ps qs:List Pt}{o p:Oc}(h:rP ps o)(g:rP qs p)(s:∀ x∈qs,x∈ps):Wi p o:=by
 have mn:∀ {j x y},d0 (ps.map (gO j)) x->d0 (qs.map (gO j)) y->x<=y:=fun a b=>by
  obtain⟨u,mu,rfl⟩:=m_.mp b.1
  exact a.2 _ (F_ (s u mu))
 have mx:∀ {j x y},d5 (ps.map (gO j)) x->d5 (qs.map (gO j)) y->y<=x:=fun a b=>by
  obtain⟨u,mu,rfl⟩:=m_.mp b.1
  exact a.2 _ (F_ (s u mu))
 exact⟨⟨⟨mn h.1.1.1 g.1.1.1,mx h.1.1.2 g.1.1.2⟩,mn h.1.2.1 g.1.2.1,mx h.1.2.2 g.1.2.2⟩,⟨mn h.2.1.1 g.2.1.1,mx h.2.1.2 g.2.1.2⟩,mn h.2.2.1 g.2.2.1,mx h.2.2.2 g.2.2.2⟩
theorem FI{x y:Int}{o:Oc}:grO 1 x y o=mvO x y o:=by
 unfold grO mvO
 rw[Iu,Iu,Iu,Iu,Iu,Iu,Iu,Iu]
theorem FL{o:Oc}{x y:Int}(h:Vo o):Vo (mvO x y o):=by
 unfold Vo mvO at *
 dsimp only
 omega
theorem wM{B:Nat}{oc oi:Oc}{m r4 r5:Int}(k1:(Vo oc/\Vo (qj oc)/\Vz oc)/\(0<=oc.a/\oc.b<=m - 1)/\0<=oc.c/\oc.d<=m - 1)(k2:(Vo oi/\Vo (qj oi)/\Vz oi)/\(0<=oi.a/\oi.b<=m - 1)/\0<=oi.c/\oi.d<=m - 1)(wi:Wi oi oc)(hB:4 * m<=B)(hB2:B < 2 ^ 50)(a5:0<=r4)(b5:r4 < m)(a6:0<=r5)(b6:r5 < m) :
  (∀ l:List Oc,l.length<=14->(∀ x∈l,x=oc\/x=oi\/x=mvO (-2 * m - r4) r5 oi)->iS B l)/\Ar B [oc] / 2=nR oc/\Ar B [oi,oc,oi,oc] / 2=nR oc/\Ar B [mvO (-2 * m - r4) r5 oi,oc,oi] / 2=nR oc + nR oi:=by
 have g1:=k1.2.1.1;have g2:=k1.2.1.2;have g3:=k1.2.2.1;have g4:=k1.2.2.2
 have g5:=k2.2.1.1;have g6:=k2.2.1.2;have g7:=k2.2.2.1;have g8:=k2.2.2.2
 have hb3:Bd B (mvO (-2 * m - r4) r5 oi):=⟨⟨by show _<=oi.a + (-2 * m - r4);lia,by show oi.b + (-2 * m - r4)<=_;lia⟩,by show _<=oi.c + r5;lia,by show oi.d + r5<=_;lia⟩
 have bo3:Bd B oc:=⟨⟨by lia,by lia⟩,by lia,by lia⟩
 have bi3:Bd B oi:=⟨⟨by lia,by lia⟩,by lia,by lia⟩
 have A1:Ar B [oc] / 2=nR oc:=by rw[xN k1.1.1 k1.1.2.1 k1.1.2.2 bo3];unfold nR;lia
 have A2:Ar B [oi] / 2=nR oi:=by rw[xN k2.1.1 k2.1.2.1 k2.1.2.2 bi3];unfold nR;lia
 have w:=FO (B:=B) (os:=[oc]) s_ wi
 refine⟨fun l hl h=>⟨by lia,hB2,.inl hl,fun x mx=>?_,fun x mx=>?_⟩,A1,?_,?_⟩
 ·rcases h x mx with rfl | rfl | rfl
  ·exact k1.1.1
  ·exact k2.1.1
  exact FL k2.1.1
 ·rcases h x mx with rfl | rfl | rfl
  ·exact bo3
  ·exact bi3
  exact hb3
 ·rw[<-A1,<-w]
  rw[yS (os':=[oc]++[oi]) fun x=>by simp only[o_,z_,Ic,or_false];exact⟨fun h=>by rcases h with h | h | h | h <;> first | exact .inl h | exact .inr h,fun h=>h.elim (fun h=>.inr (.inl h)) .inl⟩]
 have e:=xv (B:=B) (os:=[mvO (-2 * m - r4) r5 oi]) (ps:=[oc]++[oi]) fun o ho p hp=>by
  rw[p_.mp ho]
  show oi.b + (-2 * m - r4) < p.a
  rcases z_.mp hp with hp | hp <;> rw[p_.mp hp] <;> lia
 have e2:=ER (B:=B) (os:=[oi]) (u:=-2 * m - r4) (v:=r5) (fun o ho=>by rw[p_.mp ho];exact bi3) (fun o ho=>by rw[p_.mp ho];exact hb3)
 rw[j',Ja]at e2
 rw[w,e2]at e
 have q1:=yA B [oc]
 have q2:=yA B [oi]
 rw[show [mvO (-2 * m - r4) r5 oi,oc,oi]=[mvO (-2 * m - r4) r5 oi]++([oc]++[oi])from rfl,e,<-A1,<-A2]
 lia
theorem BH{os:List Oc}(hl:os.length<=64)(h:∀ o∈os,okO (-40) 61 o):iS 200 os:=⟨hl,by decide,.inr (by decide),fun o m=>(h o m).1.1,fun o m=>by
 obtain⟨_,⟨a,b⟩,c,d⟩:=h o m
 exact⟨⟨by lia,by lia⟩,by lia,by lia⟩⟩
theorem CN{os:List Oc}{qs:List Qt}(h:iS 200 os)(nd:qs.Nodup)(mem:∀ q,q∈qs↔q.2.2 < 4/\inU os q):(qs.length:Int)=Ar 200 os / 2:=by
 have:=sj h.2.2.2.2 nd mem
 lia
theorem Cz{os:List Oc}{t:Nat}{x y:Int}(ho:∀ o∈os,okO (-40) 61 o)(t0:1<=t)(t1:t<=10000001)(hx:-50000000<=x/\x < 50000000)(hy:-100000000<=y/\y < 0):(os.length<=14->iS 10000000000 (os.map (grO t x y)))/\Ar 10000000000 (os.map (grO t x y)) / 2=Ar 200 os / 2 * t * t:=by
 have bd:∀ o∈os,Bd 10000000000 (grO t x y o):=fun o m=>by
  obtain⟨_,⟨a,b⟩,c,d⟩:=ho o m
  have le:∀ {p q:Int},p<=q->p * t<=q * t:=fun g=>Kn g (by lia)
  have m1:=le a;have m2:=le b;have m3:=le c;have m4:=le d
  exact⟨⟨by show _<=o.a * t + x;lia,by show o.b * t + x<=_;lia⟩,by show _<=o.c * t + y;lia,by show o.d * t + y<=_;lia⟩
 have sd:=BH (os:=os)
 refine⟨fun hl=>⟨by rw[a_];lia,by decide,.inl (by rw[a_];exact hl),fun o m=>by obtain⟨p,mp,rfl⟩:=m_.mp m;exact BD (ho p mp).1.1 (by lia),fun o m=>by obtain⟨p,mp,rfl⟩:=m_.mp m;exact bd p mp⟩,?_⟩
 rw[Ff (B:=200) (B':=10000000000) t0 (fun o m=>(ho o m).1.1) (fun o m=>by obtain⟨_,⟨a,b⟩,c,d⟩:=ho o m;exact⟨⟨by lia,by lia⟩,by lia,by lia⟩) bd (by lia) (by lia),yA]
 rw[HK (t:Int) 2,HK (t:Int) 2,K7 _ (by decide),K7 _ (by decide)]
 grind
end Mp
local macro_rules | `(tactic| walk_at "go")=>do
 let l<-("!Mp.EU !PL.C8 !PL.C4 !PL.uy !PL.uo !PL.ph !PL.se !PL.xQ !PL.rS !PL.sH !PL.tY !PL.pL !PL.um !PL.tm !PL.sf !PL.BV !PL.pS !PL.tE !PL.t4 !PL.tD !PL.ux !PL.sh PL.kK PL.lu PL.kN PL.kM PL.er PL.erL PL.b7 PL.bE PL.cG PL.cu PL.lend PL.back PL.outs PL.frA PL.EB k_ Jp J2 Jo Lv KA Iw Il Kk List.zipWith_cons_cons List.zipWith_nil_left PL.Th.v if_true if_false Mp.rT Nat.reduceAdd Nat.reduceSub Nat.reduceLeDiff Mp.FK Mp.jB Mp.wk Mp.xK Mp.yy Mp.rW Mp.xT Mp.pC Mp.lY Mp.l7 !Mp.xm !PL.tT !PL.tV !PL.wV !PL.tf Mp.fF Mp.pq Mp.xk Mp.pM Mp.lx !Mp.rN !Mp.uq !Mp.wZ Mp.rK Mp.kU Mp.kL !Mp.tH Mp.qK Mp.lC Mp.lg Mp.l9 Mp.xo Mp.tU Mp.jI Mp.ji !Mp.tG Mp.xi Mp.pI Mp.lh !Mp.u6 !Mp.rL".splitOn " ").toArray.mapM fun s=>let i:Lean.Ident:=Lean.mkIdent (s.replace "!" "").toName;if s.front=='!' then `(Lean.Parser.Tactic.simpLemma|↓$i:ident) else `(Lean.Parser.Tactic.simpLemma|$i:ident)
 `(tactic| simp only[$l,*])
local macro_rules | `(tactic| walk_at "take")=>`(tactic| refine⟨_,_,_,rfl,by lia,by first | decide | lia,by first | decide | lia,?_⟩)
namespace Mp
open PySem L2 PL
noncomputable def iD:FP:=fun ts k=>∃(o:Bool) (os:List Oc) (i:Nat),ts=[.lst o (os.map ocT),.int (i:Int)]/\i < 7/\os.length<=100/\∀(ms:List Int) (z:T),ms.Pairwise (· < ·)->(∀ z,z∈ms↔∃ o∈os,z=gA i o\/z=gA (i + 1) o)->k (.lst true (ms.map T.int)) [.lst o (os.map ocT),.int (i:Int)]
section
variable{P:MA}{w:MC}{K:Mk}{mg:Str->Option Mj}{base:MD}
theorem fx:FnScope ["octos","at"] ["octos","at"] (av dX):=⟨rfl,rfl,rfl,by decide +kernel,rfl,by decide +kernel,by decide +kernel⟩
set_option maxHeartbeats 4000000 in
theorem nP{f:Ml}{fd:MR}(F:Fun K "bounds_at" "bounds_at" dX f fd)(TX:Txt mg)  :FnOk P w K mg base CX0 1 f fd ["octos","at"] (b8 K 2 iD):=by
 refine cO F fx [true,true] rfl (fun cdv A outer s H E hr=>?_)
 have sc:=@fx
 have nd1:(["octo","at"]:List Str).Nodup:=by decide +kernel
 have nd2:(["octo","at"]:List Str).Nodup:=by decide +kernel
 refine⟨_,(ay (bC (aL (fU (by rfl) (by rfl) TX.sorted (by rfl) TX.set (af aC (bu sc ["octo","at"] [none,some 1] nd1 (by decide +kernel) (aZ (ab 0)) (fun _ _ _=>(ak (i:=0) nd1 (by rfl) (c_ rfl) (by rfl) (hf:=(b_ rfl)))) (fun _ _ _=>aV) (fun _ _ _=>(bh hr (ab 0) (ab 1)))) (bu sc ["octo","at"] [none,some 1] nd2 (by decide +kernel) (aZ (ab 0)) (fun _ _ _=>(ak (i:=0) nd2 (by rfl) (c_ rfl) (by rfl) (hf:=(b_ rfl)))) (fun _ _ _=>aV) (fun _ _ _=>(bh hr (ab 0) (af aC (ab 1) ge_int))))))))),fun ts kk hl hp=>?_⟩
 clear hl
 obtain⟨o,os,i,rfl,hi,hz,q⟩:=hp
 walk_at "go"
 refine aD (by rw[a_,sizeLine_eq];lia) (fun j acc ie=>∃ z1,acc=(os.take j).map (fun o=>T.int (gA i o))/\ie=[z1,.int (i:Int)]) ⟨_,rfl,rfl⟩ ?_ ?_
 ·rintro j t _ _ ⟨z1,rfl,rfl⟩ ei
  obtain⟨o',eo,rfl⟩:=aU ei
  walk_at "go"
  refine aY (sN (by lia)) ?_
  walk_at "go"
  exact⟨_,by rw[map_take eo],rfl⟩
 rintro _ _ ⟨z1,rfl,rfl⟩
 rw[a_,A']
 walk_at "go"
 refine aD (by rw[a_,sizeLine_eq];lia) (fun j acc ie=>∃ z1,acc=(os.take j).map (fun o=>T.int (gA (i + 1) o))/\ie=[z1,.int (i:Int)]) ⟨_,rfl,rfl⟩ ?_ ?_
 ·rintro j t _ _ ⟨z1,rfl,rfl⟩ ei
  obtain⟨o',eo,rfl⟩:=aU ei
  walk_at "go"
  refine aY (sN (i:=i + 1) (by lia)) ?_
  walk_at "go"
  exact⟨_,by rw[map_take eo],rfl⟩
 rintro _ _ ⟨z1,rfl,rfl⟩
 rw[a_,A']
 walk_at "go"
 refine⟨by lia,aY uJ ?_⟩
 walk_at "go"
 refine⟨by rw[f',a_,a_];lia,fun ms h1 h2=>?_⟩
 refine q ms .non h1 fun z=>?_
 rw[h2 z,z_,m_,m_]
 exact⟨fun h=>h.elim (fun⟨o,m,e⟩=>⟨o,m,.inl e.symm⟩) fun⟨o,m,e⟩=>⟨o,m,.inr e.symm⟩,fun⟨o,m,e⟩=>e.elim (fun e=>.inl ⟨o,m,e.symm⟩) fun e=>.inr ⟨o,m,e.symm⟩⟩
end
noncomputable def eP:FP:=fun ts k=>∃(o:Bool) (os:List Oc) (B:Nat),ts=[.lst o (os.map ocT)]/\iS B os/\∀(S:List Int),Sds B os S->k (.lst true (S.map T.int)) [.lst o (os.map ocT)]
section
variable{P:MA}{w:MC}{K:Mk}{mg:Str->Option Mj}{base:MD}
theorem dB:FnScope ["octos","west","east","levels","falls","rises","sides","fall","rise"] ["octos"] (av cV):=⟨rfl,rfl,rfl,by decide +kernel,rfl,by decide +kernel,by decide +kernel⟩
set_option maxHeartbeats 4000000 in
theorem jA{f:Ml}{fd:MR}(F:Fun K "strip_sides" "strip_sides" cV f fd)(TX:Txt mg)  (G_bounds_at:Cal P w K mg base 1 "bounds_at" ["octos","at"] (b8 K 2 iD)):FnOk P w K mg base CX0 2 f fd ["octos"] (b8 K 1 eP):=by
 refine cO F dB [true] rfl (fun cdv A outer s H E hr=>?_)
 have sc:=@dB
 have nd1:(["octo"]:List Str).Nodup:=by decide +kernel
 have nd2:(["octo"]:List Str).Nodup:=by decide +kernel
 have nd3:(["bound"]:List Str).Nodup:=by decide +kernel
 have nd4:(["level","fall"]:List Str).Nodup:=by decide +kernel
 have nd5:(["rise","fall"]:List Str).Nodup:=by decide +kernel
 have nd6:(["level","rise"]:List Str).Nodup:=by decide +kernel
 have nd7:(["side","west","east"]:List Str).Nodup:=by decide +kernel
 refine⟨_,(ah (jV (pW (qW (gx (ab 0)))) (ay (bC (aL (ba ai)))) dr) (ah (aF (i:=1) sc.nd (by rfl) (b_ rfl) (by rfl) (aL (af aA ge_int (aO (gS rfl) (by rfl) TX.min (by decide +kernel) (ae (bu sc ["octo"] [none] nd1 (by decide +kernel) (aZ (ab 0)) (fun _ _ _=>(ak (i:=0) nd1 (by rfl) (c_ rfl) (by rfl) (hf:=(b_ rfl)))) (fun _ _ _=>aV) (fun _ _ _=>(bh hr (ab 0) ge_int))) ai))))) (ah (aF (i:=2) sc.nd (by rfl) (b_ rfl) (by rfl) (aL (af aA ge_int (aO (dZ rfl) (by rfl) TX.max (by decide +kernel) (ae (bu sc ["octo"] [none] nd2 (by decide +kernel) (aZ (ab 0)) (fun _ _ _=>(ak (i:=0) nd2 (by rfl) (c_ rfl) (by rfl) (hf:=(b_ rfl)))) (fun _ _ _=>aV) (fun _ _ _=>(bh hr (ab 0) ge_int))) ai))))) (ah (aF (i:=3) sc.nd (by rfl) (c_ rfl) (by rfl) (aL (au G_bounds_at hr (by rfl) (aj (ab 0) (aj ge_int aq))))) (ah (aF (i:=4) sc.nd (by rfl) (c_ rfl) (by rfl) (aL (au G_bounds_at hr (by rfl) (aj (ab 0) (aj ge_int aq))))) (ah (aF (i:=5) sc.nd (by rfl) (c_ rfl) (by rfl) (aL (au G_bounds_at hr (by rfl) (aj (ab 0) (aj ge_int aq))))) (ah (jV (pW (dP ip (af aJ (ab 2) (ab 1)) (af aC (af aA (aO bI (by rfl) TX.len (by decide +kernel) (ae (ab 3) ai)) (af aC (aO bI (by rfl) TX.len (by decide +kernel) (ae (ab 4) ai)) (aO bI (by rfl) TX.len (by decide +kernel) (ae (ab 5) ai)))) (af aA (aO bI (by rfl) TX.len (by decide +kernel) (ae (ab 4) ai)) (aO bI (by rfl) TX.len (by decide +kernel) (ae (ab 5) ai)))) (bP _))) (ay (bC (aL (kC (by rfl) (by rfl) TX.list (by rfl) TX.range (ae (ab 1) (ae (af aC (ab 2) ge_int) ai)))))) dr) (ah (fM sc (i:=6) ["bound"] [none] nd3 (by decide +kernel) (by rfl) (c_ rfl) (by rfl) (aZ (au G_bounds_at hr (by rfl) (aj (ab 0) (aj ge_int aq)))) (fun _ _ _=>(ak (i:=0) nd3 (by rfl) (c_ rfl) (by rfl) (hf:=(b_ rfl)))) (fun _ _ _=>aV) (fun _ _ _=>(af aA ge_int (ab 0))) (by rfl)) (ah (cE M9 (by rfl) (aZ (bL 4)) (ak (i:=7) sc.nd (by rfl) (b_ rfl) (by rfl)) (ah (cP (cR 6 N_ Oa d9 (ae (aL (bu sc ["level","fall"] [none,some 7] nd4 (by decide +kernel) (aZ (ab 3)) (fun _ _ _=>(ak (i:=0) nd4 (by rfl) (c_ rfl) (by rfl) (hf:=(b_ rfl)))) (fun _ _ _=>aV) (fun _ _ _=>(af aA ge_int (af aJ (ab 1) (ab 0)))))) ai))) (ay (cP (cR 6 N_ Oa d9 (ae (aL (bu sc ["rise","fall"] [none,some 7] nd5 (by decide +kernel) (aZ (ab 5)) (fun _ _ _=>(ak (i:=0) nd5 (by rfl) (c_ rfl) (by rfl) (hf:=(b_ rfl)))) (fun _ _ _=>aV) (fun _ _ _=>(af aC (ab 1) (ab 0))))) ai)))))) (ah (cE M9 (by rfl) (aZ (bL 5)) (ak (i:=8) sc.nd (by rfl) (b_ rfl) (by rfl)) (ay (cP (cR 6 N_ Oa d9 (ae (aL (bu sc ["level","rise"] [none,some 8] nd6 (by decide +kernel) (aZ (ab 3)) (fun _ _ _=>(ak (i:=0) nd6 (by rfl) (c_ rfl) (by rfl) (hf:=(b_ rfl)))) (fun _ _ _=>aV) (fun _ _ _=>(af aA ge_int (af aC (ab 1) (ab 0)))))) ai))))) (ay (bC (aL (fU (by rfl) (by rfl) TX.sorted (by rfl) TX.set (bu sc ["side","west","east"] [none,some 1,some 2] nd7 (by decide +kernel) (aZ (ab 6)) (fun _ _ _=>(ak (i:=0) nd7 (by rfl) (c_ rfl) (by rfl) (hf:=(b_ rfl)))) (fun _ _ _=>(nL (vY ip ip (ab 1) (ab 0) (ab 2)))) (fun _ _ _=>(ab 0))))))))))))))))),fun ts kk hl hp=>?_⟩
 clear hl
 obtain⟨o,os,B,rfl,⟨hz,hB,hc,vo,bd⟩,q⟩:=hp
 walk_at "go"
 refine js (fun h=>?_) (fun h=>?_)
 ·have e0:os=[]:=IH.mp (LQ.mp h)
  walk_at "go"
  refine q [] ⟨.nil,by decide,fun _=>rfl,fun z=>absurd e0 z,fun i l r e=>by cases e⟩
 have ne:os≠[]:=fun z=>by rw[z]at h;cases h
 have hne:∀ j,os.map (gA j)≠[]:=fun j z=>ne (IH.mp z)
 walk_at "go"
 refine aD (by rw[a_,sizeLine_eq];lia) (fun j acc ie=>∃ z1,acc=(os.take j).map (fun o=>T.int (gA 0 o))/\ie=[z1]) ⟨_,rfl,rfl⟩ ?_ ?_
 ·rintro j t _ _ ⟨z1,rfl,rfl⟩ ei
  obtain⟨o',eo,rfl⟩:=aU ei
  walk_at "go"
  exact⟨_,by rw[map_take eo];rfl,rfl⟩
 rintro _ _ ⟨z1,rfl,rfl⟩
 rw[a_,A']
 walk_at "go"
 refine⟨hne 0,fun W hW=>⟨c2 _,?_⟩⟩
 refine aD (by rw[a_,sizeLine_eq];lia) (fun j acc ie=>∃ z1,acc=(os.take j).map (fun o=>T.int (gA 1 o))/\ie=[z1]) ⟨_,rfl,rfl⟩ ?_ ?_
 ·rintro j t _ _ ⟨z1,rfl,rfl⟩ ei
  obtain⟨o',eo,rfl⟩:=aU ei
  walk_at "go"
  exact⟨_,by rw[map_take eo];rfl,rfl⟩
 rintro _ _ ⟨z1,rfl,rfl⟩
 rw[a_,A']
 walk_at "go"
 refine⟨hne 1,fun E hE=>⟨c2 _,?_⟩⟩
 refine⟨false,os,2,rfl,by decide,by lia,fun lv _ lv1 lv2=>?_⟩
 walk_at "go"
 refine⟨false,os,4,rfl,by decide,by lia,fun fa _ fa1 fa2=>?_⟩
 walk_at "go"
 refine⟨false,os,6,rfl,by decide,by lia,fun ri _ ri1 ri2=>?_⟩
 walk_at "go"
 have bl:=ja lv1 lv2
 have bf:=ja fa1 fa2
 have br:=ja ri1 ri2
 have w1:∃ o∈os,W=o.a:=by obtain⟨x,m,e⟩:=m_.mp hW.1;exact⟨x,m,e.symm⟩
 have w2:∀ o∈os,W<=o.a:=fun x m=>hW.2 _ (F_ (f:=gA 0) m)
 have e1:∃ o∈os,E=o.b:=by obtain⟨x,m,e⟩:=m_.mp hE.1;exact⟨x,m,e.symm⟩
 have e2:∀ o∈os,o.b<=E:=fun x m=>hE.2 _ (F_ (f:=gA 1) m)
 have bW:-(B:Int)<=W/\W<=E/\E<=B:=by
  obtain⟨x,m,e⟩:=w1
  obtain⟨y,m',e'⟩:=e1
  have g1:=(bd x m).1
  have g2:=(bd y m').1
  have g3:=e2 x m
  have g4:=(vo x m).1.1
  lia
 refine⟨.inl ⟨by lia,by lia⟩,.inl ⟨by lia,by lia⟩,bN (fun h2=>?_) (fun h2=>?_)⟩
 ·have hl:2 * E - 2 * W<=50000:=by
   have p1:lv.length * (fa.length + ri.length)<=128 * 256:=IP (by lia) (by lia)
   have p2:fa.length * ri.length<=128 * 128:=IP (by lia) (by lia)
   have p1':(lv.length:Int) * ((fa.length:Int) + ri.length)<=128 * 256:=by exact_mod_cast p1
   have p2':(fa.length:Int) * ri.length<=128 * 128:=by exact_mod_cast p2
   lia
  walk_at "go"
  refine⟨⟨by lia,by lia,by lia,by lia,by lia⟩,?_⟩
  have:=q _ (uO ne vo bd w1 w2 e1 e2 hl)
  rw[D']at this
  refine⟨?_,this⟩
  unfold eN
  rw[eC]
  exact JG.mpr fun _ _=>rfl
 walk_at "go"
 refine⟨false,os,0,rfl,by decide,by lia,fun xb _ xb1 xb2=>?_⟩
 walk_at "go"
 have bx:=ja xb1 xb2
 refine aD (by rw[a_,sizeLine_eq];lia) (fun j acc ie=>∃ z1,acc=(xb.take j).map (fun x=>T.int (2 * x))/\ie=[z1]) ⟨_,rfl,rfl⟩ ?_ ?_
 ·rintro j t _ _ ⟨z1,rfl,rfl⟩ ei
  obtain⟨x,ex,rfl⟩:=aU ei
  walk_at "go"
  exact⟨c2 _,_,by rw[map_take ex],rfl⟩
 rintro _ _ ⟨z1,rfl,rfl⟩
 rw[a_,A']
 walk_at "go"
 refine bM (fun i env=>∃(L:List Int) (z7 z8:T),L.length=xb.length + i * (lv.length + ri.length)/\(∀ x∈xb,2 * x∈L)/\(∀ f∈fa.take i,(∀ l∈lv,2 * (f - l)∈L)/\∀ r∈ri,f + r∈L)/\env=[.lst o (os.map ocT),.int (2 * W),.int (2 * E),.lst true (lv.map T.int),.lst false (fa.map T.int),.lst true (ri.map T.int),.lst true (L.map T.int),z7,z8]) ⟨xb.map fun x=>2 * x,_,_,by rw[a_];lia,fun x m=>m_.mpr ⟨x,m,rfl⟩,(fun f m=>by cases m),by rw[D'];rfl⟩ ?_ ?_
 ·rintro i t _ ⟨L,z7,z8,hL,k1,k2,rfl⟩ ei
  obtain⟨f,ef,rfl⟩:=aU ei
  have hi:i < fa.length:=(gV.mp ef).1
  have hm:i * (lv.length + ri.length)<=128 * 256:=IP (by lia) (by lia)
  walk_at "go"
  refine aD (by rw[a_,sizeLine_eq];lia) (fun j acc ie=>∃ z1,acc=(lv.take j).map (fun l=>T.int (2 * (f - l)))/\ie=[z1,.int f]) ⟨_,rfl,rfl⟩ ?_ ?_
  ·rintro j t _ _ ⟨z1,rfl,rfl⟩ ej
   obtain⟨x,ex,rfl⟩:=aU ej
   walk_at "go"
   exact⟨c2 _,_,by rw[map_take ex],rfl⟩
  rintro _ _ ⟨z1,rfl,rfl⟩
  rw[a_,A']
  walk_at "go"
  refine⟨by lia,aD (by rw[a_,sizeLine_eq];lia) (fun j acc ie=>∃ z1,acc=(ri.take j).map (fun r=>T.int (f + r))/\ie=[z1,.int f]) ⟨_,rfl,rfl⟩ ?_ ?_⟩
  ·rintro j t _ _ ⟨z1,rfl,rfl⟩ ej
   obtain⟨x,ex,rfl⟩:=aU ej
   walk_at "go"
   exact⟨_,by rw[map_take ex],rfl⟩
  rintro _ _ ⟨z1,rfl,rfl⟩
  rw[a_,A']
  walk_at "go"
  refine⟨by first | omega | (rw[f',a_,a_];lia),L++(lv.map fun l=>2 * (f - l))++ri.map (fun r=>f + r),_,_,?_,fun x m=>w_ _ (w_ _ (k1 x m)),fun g m=>?_,by rw[t_,t_,D',D'];rfl⟩
  ·rw[f',f',a_,a_,hL,Mb]
   lia
  rw[Im,ef]at m
  rcases z_.mp m with m | m
  ·exact⟨fun l ml=>w_ _ (w_ _ ((k2 g m).1 l ml)),fun r mr=>w_ _ (w_ _ ((k2 g m).2 r mr))⟩
  obtain rfl:g=f:=p_.mp m
  exact⟨fun l ml=>w_ _ (n_ _ (m_.mpr ⟨l,ml,rfl⟩)),fun r mr=>n_ _ (m_.mpr ⟨r,mr,rfl⟩)⟩
 rintro _ ⟨L,z7,z8,hL,k1,k2,rfl⟩
 rw[a_]at hL k2
 rw[A']at k2
 walk_at "go"
 have hm:fa.length * (lv.length + ri.length)<=128 * 256:=IP (by lia) (by lia)
 refine bM (fun i env=>∃(M:List Int) (z7 z8:T),M.length=L.length + i * lv.length/\(∀ x∈L,x∈M)/\(∀ r∈ri.take i,∀ l∈lv,2 * (r + l)∈M)/\env=[.lst o (os.map ocT),.int (2 * W),.int (2 * E),.lst true (lv.map T.int),.lst false (fa.map T.int),.lst false (ri.map T.int),.lst true (M.map T.int),z7,z8]) ⟨L,_,_,by lia,fun x m=>m,(fun f m=>by cases m),rfl⟩ ?_ ?_
 ·rintro i t _ ⟨M,z7,z8,hM,j1,j2,rfl⟩ ei
  obtain⟨r,er,rfl⟩:=aU ei
  have hi:i < ri.length:=(gV.mp er).1
  have hm2:i * lv.length<=128 * 128:=IP (by lia) (by lia)
  walk_at "go"
  refine aD (by rw[a_,sizeLine_eq];lia) (fun j acc ie=>∃ z1,acc=(lv.take j).map (fun l=>T.int (2 * (r + l)))/\ie=[z1,.int r]) ⟨_,rfl,rfl⟩ ?_ ?_
  ·rintro j t _ _ ⟨z1,rfl,rfl⟩ ej
   obtain⟨x,ex,rfl⟩:=aU ej
   walk_at "go"
   exact⟨c2 _,_,by rw[map_take ex],rfl⟩
  rintro _ _ ⟨z1,rfl,rfl⟩
  rw[a_,A']
  walk_at "go"
  refine⟨by lia,M++lv.map (fun l=>2 * (r + l)),_,_,?_,fun x m=>w_ _ (j1 x m),fun g m l ml=>?_,by rw[t_,D'];rfl⟩
  ·rw[f',a_,hM,Mb]
   lia
  rw[Im,er]at m
  rcases z_.mp m with m | m
  ·exact w_ _ (j2 g m l ml)
  obtain rfl:g=r:=p_.mp m
  exact n_ _ (m_.mpr ⟨l,ml,rfl⟩)
 rintro _ ⟨M,z7,z8,hM,j1,j2,rfl⟩
 rw[a_]at hM j2
 rw[A']at j2
 walk_at "go"
 have hm3:ri.length * lv.length<=128 * 128:=IP (by lia) (by lia)
 refine aD (by rw[a_,sizeLine_eq];lia) (fun j acc ie=>∃ z1,acc=((M.take j).filter fun x=>decide (2 * W<=x/\x<=2 * E)).map T.int/\ie=[z1,.int (2 * W),.int (2 * E)]) ⟨_,rfl,rfl⟩ ?_ ?_
 ·rintro j t _ _ ⟨z1,rfl,rfl⟩ ej
  obtain⟨x,ex,rfl⟩:=aU ej
  walk_at "go"
  rw[lF ex]
  refine bN (fun g1=>?_) (fun g1=>?_)
  ·walk_at "go"
   refine bN (fun g2=>?_) (fun g2=>?_)
   ·walk_at "go"
    exact⟨_,by rw[if_pos ⟨g1,g2⟩],rfl⟩
   walk_at "go"
   exact⟨_,by rw[if_neg fun z=>g2 z.2,Iz],rfl⟩
  walk_at "go"
  exact⟨_,by rw[if_neg fun z=>g1 z.1,Iz],rfl⟩
 rintro _ _ ⟨z1,rfl,rfl⟩
 rw[a_,A']
 walk_at "go"
 have fl:=IL (fun x=>decide (2 * W<=x/\x<=2 * E)) M
 have small:M.length < 4095:=by
  have n1:=Mf fa.length lv.length ri.length
  have n2:=Mf lv.length fa.length ri.length
  have n3:=Mc lv.length fa.length
  have n4:=Mc lv.length ri.length
  have h3:lv.length * (fa.length + ri.length) + fa.length * ri.length < (2 * E - 2 * W).toNat:=by
   have:((lv.length * (fa.length + ri.length) + fa.length * ri.length:Nat):Int) < 2 * E - 2 * W:=by push_cast;lia
   lia
  rcases hc with hc | hc
  ·have m1:fa.length * (lv.length + ri.length)<=28 * 56:=IP (by lia) (by lia)
   have m2:ri.length * lv.length<=28 * 28:=IP (by lia) (by lia)
   lia
  lia
 refine⟨by omega,fun S h1 h2=>q S (t6 (c:=fun z=>z∈M) ne vo bd w1 w2 e1 e2 ⟨fun x m=>?_,fun x m t' et y m' u eu y' m'' v ev=>?_⟩ h1 (fun z=>?_) ?_)⟩
 ·exact⟨j1 _ (k1 _ ((xb2 _).mpr ⟨x,m,.inl rfl⟩)),j1 _ (k1 _ ((xb2 _).mpr ⟨x,m,.inr rfl⟩))⟩
 ·have il:t'∈lv:=(lv2 _).mpr ⟨x,m,et⟩
  have if':u∈fa:=(fa2 _).mpr ⟨y,m',eu⟩
  have ir:v∈ri:=(ri2 _).mpr ⟨y',m'',ev⟩
  exact⟨j1 _ ((k2 u if').1 _ il),j2 v ir _ il,j1 _ ((k2 u if').2 _ ir)⟩
 ·rw[h2 z,Io,decide_eq_true_iff]
 have:=r6 (BX h1) fun z hz=>(h2 z).mp hz
 lia
end
noncomputable def dN:FP:=fun ts k=>∃(o:Bool) (os:List Oc) (m:Int),ts=[.lst o (os.map ocT),.int m]/\os.length<=1000/\∀(U:List Oc) (z:T),U.Perm os->(spn U m).Pairwise (fun p q=>p.1<=q.1)->k (.int (sw (rG (spn U m)) (spn U m))) [z,.int m]
section
variable{P:MA}{w:MC}{K:Mk}{mg:Str->Option Mj}{base:MD}
theorem du:FnScope ["octos","middle","spans","octo","low","high","length","top"] ["octos","middle"] (av cJ):=⟨rfl,rfl,rfl,by decide +kernel,rfl,by decide +kernel,by decide +kernel⟩
set_option maxHeartbeats 4000000 in
theorem iQ{f:Ml}{fd:MR}(F:Fun K "length_along" "length_along" cJ f fd)(TX:Txt mg)  :FnOk P w K mg base CX0 1 f fd ["octos","middle"] (b8 K 2 dN):=by
 refine cO F du [true,true] rfl (fun cdv A outer s H E hr=>?_)
 have sc:=@du
 refine⟨_,(ah (aF (i:=2) sc.nd (by rfl) (c_ rfl) (by rfl) (aL (ba ai))) (ah (cE M9 (by rfl) (aZ (bL 0)) (ak (i:=3) sc.nd (by rfl) (c_ rfl) (by rfl)) (ah (aF (i:=4) sc.nd (by rfl) (c_ rfl) (by rfl) (aL (aO (dZ rfl) (by rfl) TX.max (by decide +kernel) (ae (af aA ge_int (bh hr (ab 3) ge_int)) (ae (af aJ (af aA ge_int (bh hr (ab 3) ge_int)) (ab 1)) (ae (af aJ (ab 1) (af aA ge_int (bh hr (ab 3) ge_int))) ai)))))) (ah (aF (i:=5) sc.nd (by rfl) (c_ rfl) (by rfl) (aL (aO (gS rfl) (by rfl) TX.min (by decide +kernel) (ae (af aA ge_int (bh hr (ab 3) ge_int)) (ae (af aJ (af aA ge_int (bh hr (ab 3) ge_int)) (ab 1)) (ae (af aJ (ab 1) (af aA ge_int (bh hr (ab 3) ge_int))) ai)))))) (ay (cP (cR 2 Ob Od df (ae (aL (cp (ae (ab 4) (ae (ab 5) ai)))) ai))))))) (ah (aF (i:=2) sc.nd (by rfl) (c_ rfl) (by rfl) (aL (aO (nI rfl) (by rfl) TX.sorted (by decide +kernel) (ae (ab 2) ai)))) (ah (aF (i:=6) sc.nd (by rfl) (c_ rfl) (by rfl) ge_int) (ah (aF (i:=7) sc.nd (by rfl) (c_ rfl) (by rfl) (aL (ge_if (gx (ab 2)) (bh hr (bh hr (ab 2) ge_int) ge_int) ge_int))) (ah (cE M9 (by rfl) (aZ (bL 2)) (cT (n:=2) (by rfl) (az (ak (i:=4) sc.nd (by rfl) (c_ rfl) (by rfl)) (az (ak (i:=5) sc.nd (by rfl) (c_ rfl) (by rfl)) cm))) (ay (jV (pW (dP Ez (ab 5) (ab 7) (bP _))) (ah (wq (i:=6) sc.nd (by rfl) (c_ rfl) (by rfl) (aL (af aJ (ab 5) (aO (dZ rfl) (by rfl) TX.max (by decide +kernel) (ae (ab 4) (ae (ab 7) ai))))) tS) (ay (aF (i:=7) sc.nd (by rfl) (c_ rfl) (by rfl) (bL 5)))) dr))) (ay (bC (oU 6))))))))),fun ts kk hl hp=>?_⟩
 clear hl
 obtain⟨o,os,m,rfl,hz,q⟩:=hp
 walk_at "go"
 refine bM (fun i env=>∃ z3 z4 z5,env=[.lst false (os.map ocT),.int m,.lst true ((spn (os.take i) m).map ptP),z3,z4,z5,.any,.any]) ⟨_,_,_,rfl⟩ ?_ ?_
 ·rintro i t _ ⟨z3,z4,z5,rfl⟩ ei
  obtain⟨x,ex,rfl⟩:=aU ei
  have hi:=(gV.mp ex).1
  have ll:(spn (os.take i) m).length<=i:=by unfold spn;rw[a_,D_];lia
  walk_at "go"
  exact⟨c4 _,c4 _,c4 _,c4 _,c4 _,c4 _,by lia,_,_,_,by rw[wz ex,t_];rfl⟩
 rintro _ ⟨z3,z4,z5,rfl⟩
 rw[a_,A']
 walk_at "go"
 obtain⟨U,pU,eU,sU⟩:=Bn (os:=os) (m:=m)
 rw[eU]
 have hq:∀ z,kk _ _:=fun z=>q U z pU sU
 clear q
 have ln:(spn U m).length=os.length:=by unfold spn;rw[a_,pU.length_eq]
 generalize spn U m=sp at *
 cases sp with
 | nil=>
  refine js (fun _=>?_) (fun h=>by cases h)
  walk_at "go"
  refine bM (fun i env=>env=[.lst false (os.map ocT),.int m,.lst false [],z3,z4,z5,.int 0,.int 0]) rfl (fun i t env _ e=>by cases e) ?_
  rintro _ rfl
  walk_at "go"
  exact hq _
 | cons p r=>
  refine js (fun h=>by cases h) (fun _=>?_)
  walk_at "go"
  have el:ptP p::Ib (fun x=>ptP x) r=(p::r).map ptP:=rfl
  rw[el]
  have e0:rG (p::r)=p.1:=rfl
  rw[e0]at hq
  generalize p.1=t0 at *
  generalize p::r=sp at *
  refine bM (fun i env=>∃(a t:Int) (z4 z5:T),a + sw t (sp.drop i)=sw t0 sp/\env=[.lst false (os.map ocT),.int m,.lst false (sp.map ptP),z3,z4,z5,.int a,.int t]) ⟨0,t0,_,_,by rw[Jj];lia,rfl⟩ ?_ ?_
  ·rintro i t _ ⟨a,t,z4,z5,ha,rfl⟩ ei
   obtain⟨x,ex,rfl⟩:=aU ei
   have hi:=(gV.mp ex).1
   have ed:sp.drop i=x::sp.drop (i + 1):=by rw[JQ hi];congr 1;exact(gV.mp ex).2
   rw[ed,sw]at ha
   walk_at "go"
   refine bN (fun g=>?_) (fun g=>?_)
   ·rw[if_pos g]at ha
    walk_at "go"
    exact⟨_,_,_,_,by rw[<-ha];lia,rfl⟩
   rw[if_neg g]at ha
   walk_at "go"
   exact⟨_,_,_,_,ha,rfl⟩
  rintro _ ⟨a,t,z4,z5,ha,rfl⟩
  rw[a_,List.drop_length]at ha
  have ha:a + 0=_:=ha
  rw[JW]at ha
  subst ha
  walk_at "go"
  exact hq _
end
noncomputable def gL:FP:=fun ts k=>∃(c o b u:Bool) (os:List Oc) (B:Nat),ts=[ogT c o b u os]/\iS B os/\∀ z:T,k (.int (Ar B os / 2)) [z]
section
variable{P:MA}{w:MC}{K:Mk}{mg:Str->Option Mj}{base:MD}
theorem jZ:FnScope ["octos","waiting","sides","there","doubled","left","right"] ["octos"] (av gu):=⟨rfl,rfl,rfl,by decide +kernel,rfl,by decide +kernel,by decide +kernel⟩
set_option maxHeartbeats 4000000 in
theorem qp{f:Ml}{fd:MR}(F:Fun K "area_of" "area_of" gu f fd)(TX:Txt mg)  (G_strip_sides:Cal P w K mg base 2 "strip_sides" ["octos"] (b8 K 1 eP))(G_length_along:Cal P w K mg base 1 "length_along" ["octos","middle"] (b8 K 2 dN)):FnOk P w K mg base CX0 3 f fd ["octos"] (b8 K 1 gL):=by
 refine cO F jZ [true] rfl (fun cdv A outer s H E hr=>?_)
 have sc:=@jZ
 have nd1:(["octo"]:List Str).Nodup:=by decide +kernel
 have nd2:(["octo","right"]:List Str).Nodup:=by decide +kernel
 refine⟨_,(ah (aF (i:=1) sc.nd (by rfl) (c_ rfl) (by rfl) (aL (mW (by rfl) TX.sorted (bu sc ["octo"] [none] nd1 (by decide +kernel) (aZ (ab 0)) (fun _ _ _=>(ak (i:=0) nd1 (by rfl) (c_ rfl) (by rfl) (hf:=(b_ rfl)))) (fun _ _ _=>aV) (fun _ _ _=>(i7 dv (by rfl) TX.tuple (by decide +kernel) (ae (ab 0) ai))))))) (ah (aF (i:=2) sc.nd (by rfl) (c_ rfl) (by rfl) (aL (au G_strip_sides hr (by rfl) (aj (ab 1) aq)))) (ah (aF (i:=3) sc.nd (by rfl) (c_ rfl) (by rfl) (aL (ba ai))) (ah (aF (i:=4) sc.nd (by rfl) (c_ rfl) (by rfl) ge_int) (ah (cE M9 (by rfl) (xu (by rfl) TX.zip (ae (bL 2) (ae (aL (oD (ab 2) (uF ge_int) rO)) ai))) (cT (n:=2) (by rfl) (az (ak (i:=5) sc.nd (by rfl) (c_ rfl) (by rfl)) (az (ak (i:=6) sc.nd (by rfl) (b_ rfl) (by rfl)) cm))) (dk (nW M9 (pW (Gk (yn (gx (ab 1)) (uA (dP ip (af aA ge_int (bh hr (bh hr (ab 1) (z9 ge_int)) ge_int)) (ab 5) (bP _)))))) (ay (cP (cR 3 Ob Od df (ae (ya 1 PySem.F.slot_list_pop PySem.F.type_list_pop zG) ai))))) (ah (fM sc (i:=3) ["octo","right"] [none,some 6] nd2 (by decide +kernel) (by rfl) (c_ rfl) (by rfl) (aZ (ab 3)) (fun _ _ _=>(ak (i:=0) nd2 (by rfl) (c_ rfl) (by rfl) (hf:=(b_ rfl)))) (fun _ _ _=>(nL (dP Dh (af aA ge_int (bh hr (ab 0) ge_int)) (ab 1) (bP _)))) (fun _ _ _=>(ab 0)) (by rfl)) (ay (wq (i:=4) sc.nd (by rfl) (c_ rfl) (by rfl) (aL (af aA (af aJ (ab 6) (ab 5)) (au G_length_along hr (by rfl) (aj (ab 3) (aj (af aC (ab 5) (ab 6)) aq))))) tS))))) (ay (bC (aL (af Av (ab 4) ge_int))))))))),fun ts kk hl hp=>?_⟩
 clear hl
 obtain⟨c,o,b,u,os,B,rfl,hs,q⟩:=hp
 walk_at "go"
 have hlen:=hs.1
 refine aD (by rw[a_,sizeLine_eq];lia) (fun j acc ie=>∃ z1,acc=(os.take j).map ocT/\ie=[z1]) ⟨_,rfl,rfl⟩ ?_ ?_
 ·rintro j t _ _ ⟨z1,rfl,rfl⟩ ei
  obtain⟨x,ex,rfl⟩:=aU ei
  walk_at "go"
  exact⟨_,by rw[map_take ex],rfl⟩
 rintro _ _ ⟨z1,rfl,rfl⟩
 rw[a_,A']
 walk_at "go"
 refine aY (iz ocT ocL DK (fun x=>LN _ _) os) ?_
 intro ls pl sl
 obtain⟨ws,pw,rfl⟩:=jJ pl rfl
 have dn:=zF sl
 have hw:iS B ws:=xV (by rw[pw.length_eq];exact f_ _) (fun x m=>pw.mem_iff.mp m) hs
 have hA:Ar B ws=Ar B os:=yS fun x=>pw.mem_iff
 rw[<-hA]at q
 clear hA pl sl
 have el:(ws.map ocL).map iT=ws.map ocT:=by rw[D'];rfl
 rw[el]
 walk_at "go"
 refine⟨false,ws,B,rfl,hw,fun S hS=>?_⟩
 walk_at "go"
 rw[Hv (ts:=Ib (fun x=>T.int x) S)]
 refine⟨by rw[<-Lo,eC];exact JG.mpr fun _ _=>rfl,?_⟩
 rw[yf]
 refine bM (fun i env=>∃(V th:List Oc) (D:Int) (z5 z6:T),AJ B ws S i V th D/\env=[ogT c o b u os,.lst true (V.map ocT),.lst false (S.map T.int),.lst true (th.map ocT),.int D,z5,z6]) ⟨ws,[],0,_,_,Hk dn,rfl⟩ ?_ ?_
 ·rintro i t _ ⟨V,th,D,z5,z6,J,rfl⟩ ei
  obtain⟨⟨l,r⟩,ex,rfl⟩:=aU ei
  obtain⟨sl,sr⟩:=CQ ex
  have J':=J.2 l sl
  walk_at "go"
  refine ff (fun env=>∃(V th:List Oc),AK ws l V th/\(∀ x∈V,l < 2 * x.a)/\env=[ogT c o b u os,.lst true (V.map ocT),.lst false (S.map T.int),.lst true (th.map ocT),.int D,.int l,.int r]) ?_ ?_
  ·walk_at "go"
   refine lA (fun m env=>∃(V th:List Oc),m=V.length/\AK ws l V th/\env=[ogT c o b u os,.lst true (V.map ocT),.lst false (S.map T.int),.lst true (th.map ocT),.int D,.int l,.int r]) V.length ⟨V,th,rfl,J'.1,rfl⟩ ?_
   rintro m _ ⟨V,th,rfl,K',rfl⟩
   walk_at "go"
   rcases List.eq_nil_or_concat V with rfl | ⟨V',x,rfl⟩
   ·refine js (fun _=>?_) (fun h=>by cases h)
    walk_at "go"
    exact⟨[],th,K',(fun x m=>by cases m),rfl⟩
   have lc:=LA (as:=V') (a:=x)
   refine js (fun h=>?_) (fun _=>?_)
   ·rw[LQ,IH]at h
    rw[h]at lc
    cases lc
   walk_at "go"
   refine aY (A7 V' x) ?_
   walk_at "go"
   refine⟨c2 _,bN (fun g=>?_) (fun g=>?_)⟩
   ·walk_at "go"
    refine aY (oj V' x).1 ?_
    rw[(oj V' x).2]
    walk_at "go"
    have:=K'.2.2.2.2
    have:=hw.1
    refine⟨by lia,V'.length,by lia,V',th++[x],rfl,Dj K' g,by rw[t_];rfl⟩
   walk_at "go"
   refine⟨V'.concat x,th,K',fun y m=>?_,rfl⟩
   rw[Je]at m
   have:=K'.1
   rw[Je,C_]at this
   rcases z_.mp m with m | m
   ·have:=this.2.2 y m x s_
    lia
   rw[p_.mp m]
   lia
  have J0:=J'.2
  clear J' z5 z6 V th J
  rintro _ ⟨V,th,K',hV,rfl⟩
  walk_at "go"
  have tl:=K'.2.2.2.2
  have wl:=hw.1
  refine aD (by rw[a_,sizeLine_eq];lia) (fun j acc ie=>∃ z1,acc=((th.take j).filter fun x=>decide (r<=2 * x.b)).map ocT/\ie=[z1,.int r]) ⟨_,rfl,rfl⟩ ?_ ?_
  ·rintro j t _ _ ⟨z1,rfl,rfl⟩ ej
   obtain⟨x,ex,rfl⟩:=aU ej
   walk_at "go"
   rw[lF ex]
   refine⟨c2 _,bN (fun g=>?_) (fun g=>?_)⟩
   ·walk_at "go"
    exact⟨_,by rw[if_pos g],rfl⟩
   walk_at "go"
   exact⟨_,by rw[if_neg g,Iz],rfl⟩
  rintro _ _ ⟨z1,rfl,rfl⟩
  rw[a_,A']
  walk_at "go"
  have fl:=IL (fun x:Oc=>decide (r<=2 * x.b)) th
  refine⟨false,_,l + r,rfl,by lia,fun U z pU sU=>?_⟩
  walk_at "go"
  have lr:=yY hw hS sl sr
  exact⟨.inl ⟨by lia,by lia⟩,V,_,_,_,_,AS hw hS sl sr J0 K' hV pU sU,rfl⟩
 rintro _ ⟨V,th,D,z5,z6,J,rfl⟩
 walk_at "go"
 refine⟨⟨by decide,by decide⟩,?_⟩
 rw[CB hw hS J]
 exact q _
end
noncomputable def kO:FP:=fun ts k=>∃ c n m,ts=[stT c n,.int m]/\n < 2 ^ 39/\2<=m/\m<=9/\∀(c':Cells) (n':Nat) (ps:List Pt),n<=n'->n'<=n + 30->ps≠[]->ps.length<=9->(∀ p∈ps,bdP 0 9 p)->k (.lst true (ps.map ptP)) [stT c' n',.int m]
section
variable{P:MA}{w:MC}{K:Mk}{mg:Str->Option Mj}{base:MD}
theorem je:FnScope ["_law_state","_law_wide","_law_many","_law_corners_here","_law_way"] ["_law_state","_law_wide"] (av gX):=⟨rfl,rfl,rfl,by decide +kernel,rfl,by decide +kernel,by decide +kernel⟩
set_option maxHeartbeats 4000000 in
theorem rg{f:Ml}{fd:MR}(F:Fun K "_law_corners" "_law_corners" gX f fd)(TX:Txt mg)  (G_take:Cal P w K mg base 1 "_law_take" ["_law_state","_law_many"] (b8 K 2 gM)):FnOk P w K mg base CX0 2 f fd ["_law_state","_law_wide"] (b8 K 2 kO):=by
 refine cO F je [true,true] rfl (fun cdv A outer s H E hr=>?_)
 have sc:=@je
 have nd1:(["_law_turn","_law_wide","_law_state"]:List Str).Nodup:=by decide +kernel
 have nd2:(["_law_x","_law_y","_law_wide","_law_way"]:List Str).Nodup:=by decide +kernel
 refine⟨_,(@ah _ _ _ _ _ _ (@aF _ _ _ _ _ 2 _ _ sc.nd (by rfl) (c_ rfl) (by rfl) (@bh _ _ _ _ _ _ _ hr (@aL _ _ _ (@ba _ _ _ _ (@ae _ _ _ _ _ (@ge_int _ _ _ _) (@ae _ _ _ _ _ (@ge_int _ _ _ _) (@ae _ _ _ _ _ (@ge_int _ _ _ _) (@ae _ _ _ _ _ (@ge_int _ _ _ _) (@ae _ _ _ _ _ (@ge_int _ _ _ _) (@ae _ _ _ _ _ (@ge_int _ _ _ _) (@ae _ _ _ _ _ (@ge_int _ _ _ _) (@ae _ _ _ _ _ (@ge_int _ _ _ _) (@ai _) (by rfl)) (by rfl)) (by rfl)) (by rfl)) (by rfl)) (by rfl)) (by rfl)) (by rfl)))) (@au _ _ _ _ _ _ _ _ _ _ _ _ G_take hr (by rfl) (@aT _ _ _ 0 _ _ (@aj _ _ _ _ _ (@ge_int _ _ _ _) (@aq _) (by rfl)) (by rfl) (by first | exact c_ rfl | exact b_ (c_ rfl) | exact b_ (b_ rfl)) (by decide) (by decide) (by rfl)) (by lia) (by decide) (by rfl) (by rfl)) (by intro _ _;rfl)) (by rfl) (by first | exact .inl rfl | exact .inr rfl)) (@ah _ _ _ _ _ _ (@nK _ _ _ _ _ sc 3 _ _ _ ["_law_turn","_law_wide","_law_state"] [none,some 1,some 0] nd1 _ _ _ _ _ _ _ _ _ _ (by decide +kernel) (by rfl) (c_ rfl) (by rfl) (@cC _ _ _ _ _ _ (by rfl) TX.range (@ae _ _ _ _ _ (@bL _ _ 2 _ (by rfl) (by first | exact c_ rfl | exact b_ (c_ rfl) | exact b_ (b_ rfl)) (by decide) (by decide)) (@ai _) (by rfl)) (by rfl)) (fun _ _ _=>(@ak _ _ _ 0 _ nd1 (by rfl) (c_ rfl) (by rfl) (b_ rfl))) (fun _ _ _=>(@aV _)) (fun _ _ _=>(@cp _ _ _ _ _ (@ae _ _ _ _ _ (@au _ _ _ _ _ _ _ _ _ _ _ _ G_take hr (by rfl) (@aT _ _ _ 2 _ _ (@aj _ _ _ _ _ (@bL _ _ 1 _ (by rfl) (by first | exact c_ rfl | exact b_ (c_ rfl) | exact b_ (b_ rfl)) (by decide) (by decide)) (@aq _) (by rfl)) (by rfl) (by first | exact c_ rfl | exact b_ (c_ rfl) | exact b_ (b_ rfl)) (by decide) (by decide) (by rfl)) (by lia) (by decide) (by rfl) (by rfl)) (@ae _ _ _ _ _ (@au _ _ _ _ _ _ _ _ _ _ _ _ G_take hr (by rfl) (@aT _ _ _ 2 _ _ (@aj _ _ _ _ _ (@bL _ _ 1 _ (by rfl) (by first | exact c_ rfl | exact b_ (c_ rfl) | exact b_ (b_ rfl)) (by decide) (by decide)) (@aq _) (by rfl)) (by rfl) (by first | exact c_ rfl | exact b_ (c_ rfl) | exact b_ (b_ rfl)) (by decide) (by decide) (by rfl)) (by lia) (by decide) (by rfl) (by rfl)) (@ai _) (by rfl)) (by rfl)))) (by rfl) (by rfl) (by rfl) (by rfl) (by rfl) (by intro _;rfl)) (@dk _ _ _ _ _ _ (@jV _ _ _ _ _ _ _ _ _ (@dP _ _ _ _ _ _ _ _ (yH hr) (@au _ _ _ _ _ _ _ _ _ _ _ _ G_take hr (by rfl) (@aT _ _ _ 0 _ _ (@aj _ _ _ _ _ (@ge_int _ _ _ _) (@aq _) (by rfl)) (by rfl) (by first | exact c_ rfl | exact b_ (c_ rfl) | exact b_ (b_ rfl)) (by decide) (by decide) (by rfl)) (by lia) (by decide) (by rfl) (by rfl)) (@ge_int _ _ _ _) (bP _)) (@ah _ _ _ _ _ _ (@aF _ _ _ _ _ 4 _ _ sc.nd (by rfl) (b_ rfl) (by rfl) (@au _ _ _ _ _ _ _ _ _ _ _ _ G_take hr (by rfl) (@aT _ _ _ 0 _ _ (@aj _ _ _ _ _ (@ge_int _ _ _ _) (@aq _) (by rfl)) (by rfl) (by first | exact c_ rfl | exact b_ (c_ rfl) | exact b_ (b_ rfl)) (by decide) (by decide) (by rfl)) (by lia) (by decide) (by rfl) (by rfl)) (by rfl) (by first | exact .inl rfl | exact .inr rfl)) (@ay _ _ _ _ (@fM _ _ _ _ _ sc 3 _ _ _ ["_law_x","_law_y","_law_wide","_law_way"] [none,none,some 1,some 4] nd2 _ _ _ _ _ _ _ _ _ _ (by decide +kernel) (by rfl) (c_ rfl) (by rfl) (@aZ _ _ _ _ (@ab _ _ 3 _ (by rfl) (by first | exact c_ rfl | exact b_ (c_ rfl) | exact b_ (b_ rfl)) (by decide) (by decide))) (fun _ _ _=>(@cT _ _ _ _ _ _ 2 (by rfl) (@az _ _ _ _ _ _ (@ak _ _ _ 0 _ nd2 (by rfl) (c_ rfl) (by rfl) (b_ rfl)) (@az _ _ _ _ _ _ (@ak _ _ _ 1 _ nd2 (by rfl) (c_ rfl) (by rfl) (b_ rfl)) (@cm _ _) (by rfl)) (by rfl)) (by rfl) (by rfl))) (fun _ _ _=>(@aV _)) (fun _ _ _=>(@bh _ _ _ _ _ _ _ hr (@ba _ _ _ _ (@ae _ _ _ _ _ (@cp _ _ _ _ _ (@ae _ _ _ _ _ (@ab _ _ 0 _ (by rfl) (by first | exact c_ rfl | exact b_ (c_ rfl) | exact b_ (b_ rfl)) (by decide) (by decide)) (@ae _ _ _ _ _ (@ge_int _ _ _ _) (@ai _) (by rfl)) (by rfl))) (@ae _ _ _ _ _ (@cp _ _ _ _ _ (@ae _ _ _ _ _ (@ge_int _ _ _ _) (@ae _ _ _ _ _ (@ab _ _ 0 _ (by rfl) (by first | exact c_ rfl | exact b_ (c_ rfl) | exact b_ (b_ rfl)) (by decide) (by decide)) (@ai _) (by rfl)) (by rfl))) (@ae _ _ _ _ _ (@cp _ _ _ _ _ (@ae _ _ _ _ _ (@ab _ _ 0 _ (by rfl) (by first | exact c_ rfl | exact b_ (c_ rfl) | exact b_ (b_ rfl)) (by decide) (by decide)) (@ae _ _ _ _ _ (@ab _ _ 0 _ (by rfl) (by first | exact c_ rfl | exact b_ (c_ rfl) | exact b_ (b_ rfl)) (by decide) (by decide)) (@ai _) (by rfl)) (by rfl))) (@ae _ _ _ _ _ (@cp _ _ _ _ _ (@ae _ _ _ _ _ (@ab _ _ 0 _ (by rfl) (by first | exact c_ rfl | exact b_ (c_ rfl) | exact b_ (b_ rfl)) (by decide) (by decide)) (@ae _ _ _ _ _ (@af _ _ _ _ _ _ _ _ aJ (@ab _ _ 2 _ (by rfl) (by first | exact c_ rfl | exact b_ (c_ rfl) | exact b_ (b_ rfl)) (by decide) (by decide)) (@ab _ _ 0 _ (by rfl) (by first | exact c_ rfl | exact b_ (c_ rfl) | exact b_ (b_ rfl)) (by decide) (by decide))) (@ai _) (by rfl)) (by rfl))) (@ai _) (by rfl)) (by rfl)) (by rfl)) (by rfl))) (@ab _ _ 3 _ (by rfl) (by first | exact c_ rfl | exact b_ (c_ rfl) | exact b_ (b_ rfl)) (by decide) (by decide)) (by intro _ _;rfl))) (by rfl) (by rfl) (by rfl) (by rfl) (by rfl) (by intro _;rfl)))) (@dr _ _)) (@ay _ _ _ _ (@bC _ _ _ _ _ (@oU _ _ 3 _ (by rfl) (by first | exact c_ rfl | exact b_ (c_ rfl) | exact b_ (b_ rfl)) (by decide) (by decide))))))),fun ts kk hl hp=>?_⟩
 clear hl
 obtain⟨c,n,m,rfl,hn,m0,m1,q⟩:=hp
 walk_at "go"
 walk_at "take"
 intro r c1 a1 b1
 walk_at "go"
 obtain⟨v,ev,v0,v1⟩:=eB (fun v=>1<=v/\v<=9) (ns:=[1,2,3,4,5,7,8,9]) (i:=r) (by omega) (by show r < 8;omega) (by
  intro v hv
  simp only[o_,Ic,or_false]at hv
  lia)
 refine aY ev ?_
 walk_at "go"
 refine⟨⟨by lia,by lia⟩,aD (by rw[bq,sizeLine_eq];lia) (fun i acc ie=>∃(c':Cells) (ps:List Pt) (z:T),acc=ps.map ptP/\ps.length=i/\(∀ p∈ps,bdP 0 (m - 1) p)/\ie=[z,.int m,stT c' (n + 1 + 2 * i)]) ⟨c1,[],_,rfl,rfl,(fun p m=>by cases m),rfl⟩ ?_ ?_⟩
 ·rintro i t _ _ ⟨c',ps,z,rfl,hl,hb,rfl⟩ ei
  have hi:=dh ei
  walk_at "go"
  walk_at "take"
  intro x c2 a2 b2
  walk_at "go"
  walk_at "take"
  intro y c3 a3 b3
  walk_at "go"
  refine⟨c3,ps++[(x,y)],_,by rw[t_];rfl,by rw[f',hl];rfl,fun p m=>?_,rfl⟩
  rcases z_.mp m with m | m
  ·exact hb p m
  rw[p_.mp m]
  exact⟨⟨a2,by dsimp only;lia⟩,a3,by dsimp only;lia⟩
 rintro _ _ ⟨c2,ps,z,rfl,hl,hb,rfl⟩
 rw[bq]at hl
 walk_at "go"
 have hne:ps≠[]:=fun z=>by rw[z]at hl;simp at hl;lia
 refine ff (fun env=>∃(c':Cells) (n':Nat) (ps:List Pt) (z:T),n<=n'/\n'<=n + 30/\ps≠[]/\ps.length<=9/\(∀ p∈ps,bdP 0 9 p)/\env=[stT c' n',.int m,.int v,.lst true (ps.map ptP),z]) ?_ ?_
 ·walk_at "go"
  rw[bq]
  walk_at "take"
  intro x c3 a3 b3
  walk_at "go"
  refine bN (fun g=>?_) (fun g=>?_)
  ·walk_at "go"
   walk_at "take"
   intro w' c4 a4 b4
   walk_at "go"
   refine aD (by rw[a_,sizeLine_eq];lia) (fun i acc ie=>∃(qs:List Pt) (z1 z2:T),acc=qs.map ptP/\qs.length=i/\(∀ p∈qs,bdP 0 9 p)/\ie=[z1,z2,.int m,.int w']) ⟨[],_,_,rfl,rfl,(fun p m=>by cases m),rfl⟩ ?_ ?_
   ·rintro i t _ _ ⟨qs,z1,z2,rfl,hq,hb2,rfl⟩ ei
    obtain⟨p,ep,rfl⟩:=aU ei
    obtain⟨⟨p1,p2⟩,p3,p4⟩:=hb p (HW ep)
    walk_at "go"
    obtain⟨t,mt,e⟩:=sF (l:=[(p.1,3),(3,p.1),(p.1,p.1),(p.1,m - p.1)].map ptP) (i:=w') a4 (by show w' < 4;exact b4)
    obtain⟨v',mv,rfl⟩:=m_.mp mt
    refine aY e ?_
    walk_at "go"
    refine⟨qs++[v'],_,_,by rw[t_];rfl,by rw[f',hq];rfl,fun p' m'=>?_,rfl⟩
    rcases z_.mp m' with m' | m'
    ·exact hb2 p' m'
    rw[p_.mp m']
    simp only[o_,Ic,or_false]at mv
    unfold bdP
    rcases mv with rfl | rfl | rfl | rfl <;> dsimp only <;> lia
   rintro _ _ ⟨qs,z1,z2,rfl,hq,hb2,rfl⟩
   rw[a_]at hq
   walk_at "go"
   exact⟨c4,_,qs,_,by lia,by lia,fun z=>by rw[z]at hq;exact hne (HQ hq.symm),by lia,hb2,rfl⟩
  walk_at "go"
  exact⟨c3,_,ps,_,by lia,by lia,hne,by lia,fun p' m'=>by obtain⟨⟨p1,p2⟩,p3,p4⟩:=hb p' m';exact⟨⟨p1,by lia⟩,p3,by lia⟩,rfl⟩
 rintro _ ⟨c',n',ps,z,l1,l2,ne,l3,hb,rfl⟩
 walk_at "go"
 exact q c' n' ps l1 l2 ne l3 hb
end
noncomputable def qE:FP:=fun ts k=>∃(o:Bool) (ps:List Pt),ts=[.lst o (ps.map ptP)]/\ps≠[]/\ps.length<=100/\∀(oc:Oc) (z:T),rP ps oc->k (ocT oc) [z]
section
variable{P:MA}{w:MC}{K:Mk}{mg:Str->Option Mj}{base:MD}
theorem u9:FnScope ["_law_corners_here","_law_rows","_law_found","_law_k"] ["_law_corners_here"] (av qu):=⟨rfl,rfl,rfl,by decide +kernel,rfl,by decide +kernel,by decide +kernel⟩
set_option maxHeartbeats 4000000 in
theorem Bl{f:Ml}{fd:MR}(F:Fun K "_law_octo" "_law_octo" qu f fd)(TX:Txt mg)  :FnOk P w K mg base CX0 1 f fd ["_law_corners_here"] (b8 K 1 qE):=by
 refine cO F u9 [true] rfl (fun cdv A outer s H E hr=>?_)
 have sc:=@u9
 have nd1:(["_law_x","_law_y"]:List Str).Nodup:=by decide +kernel
 have nd2:(["_law_row","_law_k"]:List Str).Nodup:=by decide +kernel
 have nd3:(["_law_row","_law_k"]:List Str).Nodup:=by decide +kernel
 refine⟨_,(ah (fM sc (i:=1) ["_law_x","_law_y"] [none,none] nd1 (by decide +kernel) (by rfl) (c_ rfl) (by rfl) (aZ (ab 0)) (fun _ _ _=>(cT (n:=2) (by rfl) (az (ak (i:=0) nd1 (by rfl) (c_ rfl) (by rfl) (hf:=(b_ rfl))) (az (ak (i:=1) nd1 (by rfl) (c_ rfl) (by rfl) (hf:=(b_ rfl))) cm)))) (fun _ _ _=>aV) (fun _ _ _=>(ba (ae (ab 0) (ae (ab 1) (ae (af aC (ab 0) (ab 1)) (ae (af aJ (ab 0) (ab 1)) ai)))))) (by rfl)) (ah (aF (i:=2) sc.nd (by rfl) (c_ rfl) (by rfl) (aL (ba ai))) (ah (cE M9 (by rfl) (cC (by rfl) TX.range (ae ge_int ai)) (ak (i:=3) sc.nd (by rfl) (b_ rfl) (by rfl)) (ay (aF (i:=2) sc.nd (by rfl) (c_ rfl) (by rfl) (aL (af aC (ab 2) (ba (ae (aO (gS rfl) (by rfl) TX.min (by decide +kernel) (ae (bu sc ["_law_row","_law_k"] [none,some 3] nd3 (by decide +kernel) (aZ (ab 1)) (fun _ _ _=>(ak (i:=0) nd3 (by rfl) (c_ rfl) (by rfl) (hf:=(b_ rfl)))) (fun _ _ _=>aV) (fun _ _ _=>(bh hr (ab 0) (ab 1)))) ai)) (ae (aO (dZ rfl) (by rfl) TX.max (by decide +kernel) (ae (bu sc ["_law_row","_law_k"] [none,some 3] nd2 (by decide +kernel) (aZ (ab 1)) (fun _ _ _=>(ak (i:=0) nd2 (by rfl) (c_ rfl) (by rfl) (hf:=(b_ rfl)))) (fun _ _ _=>aV) (fun _ _ _=>(bh hr (ab 0) (ab 1)))) ai)) ai)))))))) (ay (bC (aL (i7 dv (by rfl) TX.tuple (by decide +kernel) (ae (ab 2) ai)))))))),fun ts kk hl hp=>?_⟩
 clear hl
 obtain⟨o,ps,rfl,hne,hz,q⟩:=hp
 have hne':∀ j,ps.map (gO j)≠[]:=fun j z=>hne (IH.mp z)
 walk_at "go"
 refine aD (by rw[a_,sizeLine_eq];lia) (fun i acc ie=>∃ z1 z2,acc=(ps.take i).map rw4/\ie=[z1,z2]) ⟨_,_,rfl,rfl⟩ ?_ ?_
 ·rintro i t _ _ ⟨z1,z2,rfl,rfl⟩ ei
  obtain⟨p,ep,rfl⟩:=aU ei
  walk_at "go"
  exact⟨_,_,by rw[map_take ep];rfl,rfl⟩
 rintro _ _ ⟨z1,z2,rfl,rfl⟩
 rw[a_,A']
 walk_at "go"
 refine⟨JG.mpr fun _ _=>rfl,⟨by decide,by decide⟩,bM (fun i env=>∃(f:Nat->Int × Int) (z:T),(∀ j,j < i->d0 (ps.map (gO j)) (f j).1/\d5 (ps.map (gO j)) (f j).2)/\env=[.lst o (ps.map ptP),.lst true (ps.map rw4),.lst true ((fl2 f i).map T.int),z]) ⟨fun _=>(0,0),_,fun j hj=>by lia,rfl⟩ ?_ ?_⟩
 ·rintro i t _ ⟨f,z,hf,rfl⟩ ei
  have hi:i < 4:=dh ei
  have et:=jg ei
  subst et
  rw[JX]
  have ll:=Bs f i
  walk_at "go"
  refine aD (by rw[a_,sizeLine_eq];lia) (fun j acc ie=>∃ z1,acc=(ps.take j).map (fun p=>T.int (gO i p))/\ie=[z1,.int (i:Int)]) ⟨_,rfl,rfl⟩ ?_ ?_
  ·rintro j t _ _ ⟨z1,rfl,rfl⟩ ej
   obtain⟨p,ep,rfl⟩:=aU ej
   walk_at "go"
   refine aY (BA hi) ?_
   walk_at "go"
   exact⟨_,by rw[map_take ep],rfl⟩
  rintro _ _ ⟨z1,rfl,rfl⟩
  rw[a_,A']
  walk_at "go"
  refine⟨hne' i,fun m hm=>?_⟩
  refine aD (by rw[a_,sizeLine_eq];lia) (fun j acc ie=>∃ z1,acc=(ps.take j).map (fun p=>T.int (gO i p))/\ie=[z1,.int (i:Int)]) ⟨_,rfl,rfl⟩ ?_ ?_
  ·rintro j t _ _ ⟨z1,rfl,rfl⟩ ej
   obtain⟨p,ep,rfl⟩:=aU ej
   walk_at "go"
   refine aY (BA hi) ?_
   walk_at "go"
   exact⟨_,by rw[map_take ep],rfl⟩
  rintro _ _ ⟨z1,rfl,rfl⟩
  rw[a_,A']
  walk_at "go"
  refine⟨hne' i,fun M hM=>?_⟩
  refine⟨by lia,fun j=>if j=i then(m,M)else f j,_,fun j hj=>?_,by rw[zi,t_];rfl⟩
  show d0 _ (if j=i then(m,M)else f j).1/\d5 _ (if j=i then(m,M)else f j).2
  by_cases e:j=i
  ·rw[if_pos e,e];exact⟨hm,hM⟩
  rw[if_neg e];exact hf j (by lia)
 rintro _ ⟨f,z,hf,rfl⟩
 rw[bq]at hf ⊢
 have f0:=hf 0 (by decide)
 have f1:=hf 1 (by decide)
 have f2:=hf 2 (by decide)
 have f3:=hf 3 (by decide)
 walk_at "go"
 exact q ⟨(f 0).1,(f 0).2,(f 1).1,(f 1).2,(f 2).1,(f 2).2,(f 3).1,(f 3).2⟩ _ ⟨⟨f0,f1⟩,f2,f3⟩
end
noncomputable def lX:FP:=fun ts k=>∃(o:Oc) (q:Qt),ts=[ocT o,.int q.1,.int q.2.1,.int (q.2.2:Int)]/\q.2.2 < 4/\k (.bl (decide (inL o q))) [ocT o,.int q.1,.int q.2.1,.int (q.2.2:Int)]
section
variable{P:MA}{w:MC}{K:Mk}{mg:Str->Option Mj}{base:MD}
theorem jn:FnScope ["_law_octo_here","_law_x","_law_y","_law_side","_law_right","_law_up","_law_spots"] ["_law_octo_here","_law_x","_law_y","_law_side"] (av gU):=⟨rfl,rfl,rfl,by decide +kernel,rfl,by decide +kernel,by decide +kernel⟩
set_option maxHeartbeats 4000000 in
theorem qY{f:Ml}{fd:MR}(F:Fun K "_law_in_octo" "_law_in_octo" gU f fd)(TX:Txt mg)  :FnOk P w K mg base CX0 1 f fd ["_law_octo_here","_law_x","_law_y","_law_side"] (b8 K 4 lX):=by
 refine cO F jn [true,true,true,true] rfl (fun cdv A outer s H E hr=>?_)
 have sc:=@jn
 have nd1:(["_law_k","_law_octo_here","_law_spots"]:List Str).Nodup:=by decide +kernel
 refine⟨_,(ah (Dc (i:=4) (j:=5) (by rfl) sc.nd (by rfl) (by rfl) (by decide) (by rfl) (by rfl) (by rfl) (by rfl) (ae (aL (af aC (af aA ge_int (ab 1)) (bh hr (ba (ae ge_int (ae ge_int (ae ge_int (ae ge_int ai))))) (ab 3)))) (ae (aL (af aC (af aA ge_int (ab 2)) (bh hr (ba (ae ge_int (ae ge_int (ae ge_int (ae ge_int ai))))) (ab 3)))) ai)) (by rfl)) (ah (aF (i:=6) sc.nd (by rfl) (b_ rfl) (by rfl) (aL (ba (ae (ab 4) (ae (ab 5) (ae (af aC (ab 4) (ab 5)) (ae (af aJ (ab 4) (ab 5)) ai))))))) (ay (bC (aL (aO (uS rfl) (by rfl) TX.all (by decide +kernel) (ae (bu sc ["_law_k","_law_octo_here","_law_spots"] [none,some 0,some 6] nd1 (by decide +kernel) (cC (by rfl) TX.range (ae ge_int ai)) (fun _ _ _=>(ak (i:=0) nd1 (by rfl) (c_ rfl) (by rfl) (hf:=(b_ rfl)))) (fun _ _ _=>aV) (fun _ _ _=>(xE ip ip (af aA ge_int (bh hr (ab 1) (af aA ge_int (ab 0)))) (bh hr (ab 2) (ab 0)) (af aA ge_int (bh hr (ab 1) (af aC (af aA ge_int (ab 0)) ge_int)))))) ai))))))),fun ts kk hl hp=>?_⟩
 clear hl
 obtain⟨o,⟨x,y,s⟩,rfl,hs,q⟩:=hp
 walk_at "go"
 refine⟨c8 _,aY (FV hs) ?_⟩
 walk_at "go"
 refine⟨c8 _,aY (Fh hs) ?_⟩
 walk_at "go"
 refine⟨⟨by decide,by decide⟩,aD (by rw[bq,sizeLine_eq];decide) (fun i acc ie=>∃ z1,acc=((y_ i).map (inB o (x,y,s))).map T.bl/\ie=[z1,ocT o,.lst false [.int (8 * x + px s),.int (8 * y + py s),.int (8 * x + px s + (8 * y + py s)),.int (8 * x + px s - (8 * y + py s))]]) ⟨_,rfl,rfl⟩ ?_ ?_⟩
 ·rintro i t _ _ ⟨z1,rfl,rfl⟩ ei
  have hi:i < 4:=dh ei
  have et:=jg ei
  subst et
  rw[JX]
  walk_at "go"
  refine⟨c2 _,aY (sN (i:=2 * i) (by lia)) ?_⟩
  walk_at "go"
  refine⟨c8 _,aY (GB (q:=(x,y,s)) hi) ?_⟩
  walk_at "go"
  have sg:∀ v,v=inB o (x,y,s) i->Ib T.bl (Ib (inB o (x,y,s)) (y_ i))++[T.bl v]=Ib T.bl (Ib (inB o (x,y,s)) (y_ (i + 1))):=fun v e=>by rw[e,IS,t_,t_];rfl
  refine bN (fun g1=>?_) (fun g1=>?_)
  ·walk_at "go"
   refine⟨c2 _,aY (sN (i:=2 * i + 1) (by lia)) ?_⟩
   walk_at "go"
   exact⟨c8 _,_,sg _ (decide_eq_decide.mpr ⟨fun z=>⟨g1,z⟩,fun z=>z.2⟩),rfl⟩
  walk_at "go"
  exact⟨_,sg _ (decide_eq_false fun z=>g1 z.1).symm,rfl⟩
 rintro _ _ ⟨z1,rfl,rfl⟩
 rw[bq]
 walk_at "go"
 refine aY (vk _) ?_
 walk_at "go"
 rw[show((y_ (IM 4)).map (inB o (x,y,s))).all id=decide (inL o (x,y,s))from DZ]
 exact q
end
def jt:FP:=fun ts k=>∃ o:Oc,ts=[ocT o]/\Bd 200 o/\Vo o/\k (.lst true ((qO o).map qtT)) [ocT o]
section
variable{P:MA}{w:MC}{K:Mk}{mg:Str->Option Mj}{base:MD}
theorem iK:FnScope ["_law_octo_here","_law_found","_law_x","_law_y"] ["_law_octo_here"] (av fm):=⟨rfl,rfl,rfl,by decide +kernel,rfl,by decide +kernel,by decide +kernel⟩
set_option maxHeartbeats 4000000 in
theorem nU{f:Ml}{fd:MR}(F:Fun K "_law_quarters" "_law_quarters" fm f fd)(TX:Txt mg)  (G_in_octo:Cal P w K mg base 1 "_law_in_octo" ["_law_octo_here","_law_x","_law_y","_law_side"] (b8 K 4 lX)):FnOk P w K mg base CX0 2 f fd ["_law_octo_here"] (b8 K 1 jt):=by
 refine cO F iK [true] rfl (fun cdv A outer s H E hr=>?_)
 have sc:=@iK
 have nd1:(["_law_side","_law_y","_law_x","_law_octo_here"]:List Str).Nodup:=by decide +kernel
 refine⟨_,(ah (aF (i:=1) sc.nd (by rfl) (c_ rfl) (by rfl) (aL (ba ai))) (ah (cE M9 (by rfl) (lI (by rfl) TX.range (ae (aL (bh hr (ab 0) ge_int)) (ae (aL (bh hr (ab 0) ge_int)) ai))) (ak (i:=2) sc.nd (by rfl) (b_ rfl) (by rfl)) (ay (cE M9 (by rfl) (lI (by rfl) TX.range (ae (aL (bh hr (ab 0) ge_int)) (ae (aL (bh hr (ab 0) ge_int)) ai))) (ak (i:=3) sc.nd (by rfl) (b_ rfl) (by rfl)) (ay (cP (cR 1 N_ Oa d9 (ae (aL (bu sc ["_law_side","_law_y","_law_x","_law_octo_here"] [none,some 3,some 2,some 0] nd1 (by decide +kernel) (cC (by rfl) TX.range (ae ge_int ai)) (fun _ _ _=>(ak (i:=0) nd1 (by rfl) (c_ rfl) (by rfl) (hf:=(b_ rfl)))) (fun _ _ _=>(nL (gx (au G_in_octo hr (by rfl) (aj (ab 3) (aj (ab 2) (aj (ab 1) (aj (ab 0) aq)))))))) (fun _ _ _=>(cp (ae (ab 2) (ae (ab 1) (ae (ab 0) ai))))))) ai))))))) (ay (bC (oU 1))))),fun ts kk hl hp=>?_⟩
 clear hl
 obtain⟨o,rfl,⟨⟨b1,b2⟩,b3,b4⟩,⟨⟨v1,v2⟩,_⟩,q⟩:=hp
 walk_at "go"
 refine⟨by lia,bM (fun i env=>∃ z2 z3,env=[ocT o,.lst true ((cx (fun X=>cx (fun Y=>cl4 (fun s=>inL o (X,Y,s)) X Y) o.c (o.d - o.c).toNat) o.a i).map qtT),z2,z3]) ⟨_,_,rfl⟩ ?_ ?_⟩
 ·rintro i t _ ⟨z2,z3,rfl⟩ ei
  have hi:=dh ei
  have et:=jg ei
  subst et
  walk_at "go"
  have l1:=gn (f:=fun X=>cx (fun Y=>cl4 (fun s=>inL o (X,Y,s)) X Y) o.c (o.d - o.c).toNat) (fun y=>gn (fun y=>qV) _) (a:=o.a) i
  have l1':4 * (o.d - o.c).toNat * i<=1600 * 400:=IP (by lia) (by lia)
  refine⟨by lia,bM (fun j env=>∃ z3,env=[ocT o,.lst true ((cx (fun X=>cx (fun Y=>cl4 (fun s=>inL o (X,Y,s)) X Y) o.c (o.d - o.c).toNat) o.a i++cx (fun Y=>cl4 (fun s=>inL o (o.a + i,Y,s)) (o.a + i) Y) o.c j).map qtT),.int (o.a + i),z3]) ⟨_,by rw[show cx (fun Y=>cl4 (fun s=>inL o (o.a + i,Y,s)) (o.a + i) Y) o.c 0=[]from rfl,Iz]⟩ ?_ ?_⟩
  ·rintro j t _ ⟨z3,rfl⟩ ej
   have hj:=dh ej
   have et:=jg ej
   subst et
   have l2:=gn (f:=fun Y=>cl4 (fun s=>inL o (o.a + i,Y,s)) (o.a + i) Y) (fun y=>qV) (a:=o.c) j
   rw[d6 (f:=fun Y=>cl4 (fun s=>inL o (o.a + i,Y,s)) (o.a + i) Y)]
   generalize hc:cx (fun X=>cx (fun Y=>cl4 (fun s=>inL o (X,Y,s)) X Y) o.c (o.d - o.c).toNat) o.a i++cx (fun Y=>cl4 (fun s=>inL o (o.a + i,Y,s)) (o.a + i) Y) o.c j=acc0
   have l3:acc0.length<=700000:=by rw[<-hc,f'];lia
   rw[<-l_,hc]
   generalize o.c + (j:Int)=y at *
   generalize o.a + (i:Int)=x at *
   walk_at "go"
   refine⟨by decide,aD (by rw[bq,sizeLine_eq];decide) (fun s acc ie=>∃ z1,acc=(((y_ s).filter fun s=>decide (inL o (x,y,s))).map fun s=>(x,y,s)).map qtT/\ie=[z1,.int y,.int x,ocT o]) ⟨_,rfl,rfl⟩ ?_ ?_⟩
   ·rintro s t _ _ ⟨z1,rfl,rfl⟩ es
    have hs:s < 4:=dh es
    have et:=jg es
    subst et
    rw[JX]
    walk_at "go"
    refine⟨o,(x,y,s),rfl,hs,?_⟩
    walk_at "go"
    rw[IS,Kz,t_,t_]
    refine bN (fun h=>?_) (fun h=>?_)
    ·walk_at "go"
     exact⟨_,by rw[K6,if_pos (decide_eq_true h)];rfl,rfl⟩
    walk_at "go"
    exact⟨_,by rw[K6,if_neg (by rw[decide_eq_false h];exact B_)];exact(Iz _).symm,rfl⟩
   rintro _ _ ⟨z1,rfl,rfl⟩
   rw[bq]
   walk_at "go"
   have l4:=IL (fun s=>decide (inL o (x,y,s))) (y_ (IM 4))
   rw[Iy]at l4
   exact⟨by first | lia | (simp only[a_];omega),_,by rw[t_];rfl⟩
  rintro _ ⟨z3,rfl⟩
  rw[bq]
  exact⟨_,_,by rw[d6]⟩
 rintro _ ⟨z2,z3,rfl⟩
 rw[bq]
 walk_at "go"
 exact q
end
noncomputable def uh:FP:=fun ts k=>∃(b:Bool) (os:List Oc),ts=[.lst b (os.map ocT)]/\os.length<=64/\(∀ o∈os,Bd 200 o/\Vo o)/\∀(qs:List Qt) (z:T),qs.Nodup->(∀ q,q∈qs↔q.2.2 < 4/\inU os q)->k (.dT true (dQ qs)) [z]
section
variable{P:MA}{w:MC}{K:Mk}{mg:Str->Option Mj}{base:MD}
theorem pD:FnScope ["_law_octos_here","_law_met","_law_octo_here","_law_quarter"] ["_law_octos_here"] (av mR):=⟨rfl,rfl,rfl,by decide +kernel,rfl,by decide +kernel,by decide +kernel⟩
set_option maxHeartbeats 4000000 in
theorem zk{f:Ml}{fd:MR}(F:Fun K "_law_union" "_law_union" mR f fd)(TX:Txt mg)  (G_quarters:Cal P w K mg base 2 "_law_quarters" ["_law_octo_here"] (b8 K 1 jt)):FnOk P w K mg base CX0 3 f fd ["_law_octos_here"] (b8 K 1 uh):=by
 refine cO F pD [true] rfl (fun cdv A outer s H E hr=>?_)
 have sc:=@pD
 refine⟨_,(ah (aF (i:=1) sc.nd (by rfl) (c_ rfl) (by rfl) (aL D3)) (ah (cE M9 (by rfl) (aZ (bL 0)) (ak (i:=2) sc.nd (by rfl) (c_ rfl) (by rfl)) (ay (cE M9 (by rfl) (aZ (aL (au G_quarters hr (by rfl) (aj (ab 2) aq)))) (ak (i:=3) sc.nd (by rfl) (c_ rfl) (by rfl)) (ay (lZ yr (DW (i:=1) hr (bL 3))))))) (ay (bC (oU 1))))),fun ts kk hl hp=>?_⟩
 clear hl
 obtain⟨b,os,rfl,hz,bd,q⟩:=hp
 walk_at "go"
 refine⟨rfl,bM (fun i env=>∃(qs:List Qt) (z2 z3:T),qs.Nodup/\(∀ q,q∈qs↔q.2.2 < 4/\inU (os.take i) q)/\(∀ q∈qs,A8 q)/\env=[.lst false (os.map ocT),.dT true (dQ qs),z2,z3]) ⟨[],_,_,IZ,fun q=>⟨(nomatch ·),fun⟨_,o,ho,_⟩=>(nomatch ho)⟩,(fun q m=>by cases m),rfl⟩ ?_ ?_⟩
 ·rintro i t _ ⟨qs,z2,z3,nd,mem,hb,rfl⟩ ei
  obtain⟨o,eo,rfl⟩:=aU ei
  have bo:=bd o (HW eo)
  walk_at "go"
  refine⟨o,rfl,bo.1,bo.2,?_⟩
  walk_at "go"
  have nj:∀ j,(addQ qs ((qO o).take j)).Nodup:=fun j=>rQ nd
  have bj:∀ j,∀ q∈addQ qs ((qO o).take j),A8 q:=fun j q m=>by
   rcases kh.mp m with m | m
   ·exact hb q m
   exact FN bo.1 (Iq m)
  refine bM (fun j env=>∃ z3,env=[.lst false (os.map ocT),.dT true (dQ (addQ qs ((qO o).take j))),ocT o,z3]) ⟨_,rfl⟩ ?_ ?_
  ·rintro j t _ ⟨z3,rfl⟩ ej
   obtain⟨x,ex,rfl⟩:=aU ej
   have ll:=D4 (nj j) (bj j)
   walk_at "go"
   exact⟨by rw[yg];lia,_,by rw[uZ ex,<-E9];rfl⟩
  rintro _ ⟨z3,rfl⟩
  rw[a_]
  refine⟨_,_,_,nj _,fun x=>?_,bj _,rfl⟩
  rw[A',kh,mem x,yO,Im,eo]
  constructor
  ·rintro(⟨h1,o',m,h2⟩ | ⟨h1,h2⟩)
   ·exact⟨h1,o',w_ _ m,h2⟩
   exact⟨h1,o,n_ _ s_,h2⟩
  rintro⟨h1,o',m,h2⟩
  rcases z_.mp m with m | m
  ·exact .inl ⟨h1,o',m,h2⟩
  obtain rfl:o'=o:=p_.mp m
  exact .inr ⟨h1,h2⟩
 rintro _ ⟨qs,z2,z3,nd,mem,hb,rfl⟩
 rw[a_,A']at mem
 walk_at "go"
 exact q qs _ nd mem
end
noncomputable def t5:FP:=fun ts k=>∃(c:Cells) (n:Nat) (m w f:Int),ts=[stT c n,.int m,.int w,.int f]/\n < 2 ^ 38/\0<=m/\m<=60/\1<=w/\w<=8/\12<=f/\f<=60/\∀(c':Cells) (n':Nat) (os:List Oc),n<=n'->n'<=n + 3000->(os.length:Int)=m->(∀ o∈os,okO (-40) 61 o)->k (.lst true (os.map ocT)) [stT c' n',.int m,.int w,.int f]
section
variable{P:MA}{w:MC}{K:Mk}{mg:Str->Option Mj}{base:MD}
theorem oM:FnScope ["_law_state","_law_many","_law_wide","_law_field","_law_octos_here","_law_x","_law_y","_law_corners_here","_law_step"] ["_law_state","_law_many","_law_wide","_law_field"] (av mB):=⟨rfl,rfl,rfl,by decide +kernel,rfl,by decide +kernel,by decide +kernel⟩
set_option maxHeartbeats 4000000 in
theorem wF{f:Ml}{fd:MR}(F:Fun K "_law_octos" "_law_octos" mB f fd)(TX:Txt mg)  (G_take:Cal P w K mg base 1 "_law_take" ["_law_state","_law_many"] (b8 K 2 gM))(G_corners:Cal P w K mg base 2 "_law_corners" ["_law_state","_law_wide"] (b8 K 2 kO))(G_octo:Cal P w K mg base 1 "_law_octo" ["_law_corners_here"] (b8 K 1 qE)):FnOk P w K mg base CX0 3 f fd ["_law_state","_law_many","_law_wide","_law_field"] (b8 K 4 t5):=by
 refine cO F oM [true,true,true,true] rfl (fun cdv A outer s H E hr=>?_)
 have sc:=@oM
 have nd1:(["_law_one","_law_other","_law_y","_law_x"]:List Str).Nodup:=by decide +kernel
 have nd2:(["_law_one","_law_other","_law_step"]:List Str).Nodup:=by decide +kernel
 refine⟨_,(ah (aF (i:=4) sc.nd (by rfl) (c_ rfl) (by rfl) (aL (ba ai))) (dk (nW M9 (pW (dP wo (aO bI (by rfl) TX.len (by decide +kernel) (ae (ab 4) ai)) (ab 1) (bP _))) (ah (lZ (cp (ae (af aJ (au G_take hr (by rfl) (aT 0 (aj (bL 3) aq))) ge_int) (ae (af aJ (au G_take hr (by rfl) (aT 0 (aj (bL 3) aq))) ge_int) ai))) (cT (n:=2) (by rfl) (az (ak (i:=5) sc.nd (by rfl) (b_ rfl) (by rfl)) (az (ak (i:=6) sc.nd (by rfl) (b_ rfl) (by rfl)) cm)))) (ah (nK sc (i:=7) ["_law_one","_law_other","_law_y","_law_x"] [none,none,some 6,some 5] nd1 (by decide +kernel) (by rfl) (c_ rfl) (by rfl) (aZ (au G_corners hr (by rfl) (aT 0 (aj (af aC ge_int (au G_take hr (by rfl) (aT 0 (aj (bL 2) aq)))) aq)))) (fun _ _ _=>(cT (n:=2) (by rfl) (az (ak (i:=0) nd1 (by rfl) (c_ rfl) (by rfl) (hf:=(b_ rfl))) (az (ak (i:=1) nd1 (by rfl) (c_ rfl) (by rfl) (hf:=(b_ rfl))) cm)))) (fun _ _ _=>aV) (fun _ _ _=>(aL (cp (ae (af aC (ab 3) (ab 0)) (ae (af aC (ab 2) (ab 1)) ai))))) (by rfl)) (ah (cP (cR 4 Ob Od df (ae (aL (au G_octo hr (by rfl) (aj (ab 7) aq))) ai))) (ay (jV (Gk (yn (pW (dP wo (aO bI (by rfl) TX.len (by decide +kernel) (ae (ab 4) ai)) (ab 1) (bP _))) (uA (dP (yH hr) (au G_take hr (by rfl) (aT 0 (aj ge_int aq))) ge_int (bP _))))) (ah (aF (i:=8) sc.nd (by rfl) (b_ rfl) (by rfl) (au G_take hr (by rfl) (aT 0 (aj ge_int aq)))) (ay (cP (cR 4 Ob Od df (ae (aL (au G_octo hr (by rfl) (aj (bu sc ["_law_one","_law_other","_law_step"] [none,none,some 8] nd2 (by decide +kernel) (aZ (ab 7)) (fun _ _ _=>(cT (n:=2) (by rfl) (az (ak (i:=0) nd2 (by rfl) (c_ rfl) (by rfl) (hf:=(b_ rfl))) (az (ak (i:=1) nd2 (by rfl) (c_ rfl) (by rfl) (hf:=(b_ rfl))) cm)))) (fun _ _ _=>aV) (fun _ _ _=>(cp (ae (af aC (ab 0) (ab 2)) (ae (af aC (ab 1) ge_int) ai))))) aq))) ai))))) dr)))))) (ay (bC (oU 4))))),fun ts kk hl hp=>?_⟩
 clear hl
 obtain⟨c,n,m,w,f,rfl,hn,m0,m1,w0,w1,f0,f1,q⟩:=hp
 walk_at "go"
 refine ff (fun env=>∃(c':Cells) (n':Nat) (os:List Oc) (z5 z6 z7 z8:T),n<=n'/\n'<=n + 40 * os.length/\(os.length:Int)=m/\(∀ o∈os,okO (-40) 61 o)/\env=[stT c' n',.int m,.int w,.int f,.lst true (os.map ocT),z5,z6,z7,z8]) ?_ ?_
 ·walk_at "go"
  refine lA (fun d env=>∃(c':Cells) (n':Nat) (os:List Oc) (z5 z6 z7 z8:T),d=60 - os.length/\n<=n'/\n'<=n + 40 * os.length/\(os.length:Int)<=m/\(∀ o∈os,okO (-40) 61 o)/\env=[stT c' n',.int m,.int w,.int f,.lst true (os.map ocT),z5,z6,z7,z8]) 60 ⟨c,n,[],_,_,_,_,rfl,f_ _,by lia,m0,(fun o m=>by cases m),rfl⟩ ?_
  rintro d _ ⟨c',n',os,z5,z6,z7,z8,rfl,l1,l2,l3,ho,rfl⟩
  walk_at "go"
  refine bN (fun g=>?_) (fun g=>?_)
  rotate_left
  ·walk_at "go"
   exact⟨c',n',os,_,_,_,_,l1,l2,by lia,ho,rfl⟩
  walk_at "go"
  walk_at "take"
  intro x c1 a1 b1
  walk_at "go"
  walk_at "take"
  intro y c2' a2 b2
  walk_at "go"
  walk_at "take"
  intro v c3 a3 b3
  walk_at "go"
  refine⟨c3,_,2 + v,rfl,by lia,by lia,by lia,fun c4' n4 ps p1 p2 p3 p4 p5=>?_⟩
  walk_at "go"
  refine aD (by rw[a_,sizeLine_eq];lia) (fun i acc ie=>∃ z1 z2,acc=(ps.take i).map (fun p=>ptP (x - 40 + p.1,y - 40 + p.2))/\ie=[z1,z2,.int (y - 40),.int (x - 40)]) ⟨_,_,rfl,rfl⟩ ?_ ?_
  ·rintro i t _ _ ⟨z1,z2,rfl,rfl⟩ ei
   obtain⟨p,ep,rfl⟩:=aU ei
   walk_at "go"
   exact⟨_,_,by rw[map_take ep];rfl,rfl⟩
  rintro _ _ ⟨z1,z2,rfl,rfl⟩
  rw[a_,A']
  have em:ps.map (fun p=>ptP (x - 40 + p.1,y - 40 + p.2))=(ps.map fun p=>(x - 40 + p.1,y - 40 + p.2)).map ptP:=by rw[D'];rfl
  rw[em]
  have hr:∀ p∈ps.map (fun p=>(x - 40 + p.1,y - 40 + p.2)),bdP (-40) 58 p:=fun p mp=>by
   obtain⟨p',m',rfl⟩:=m_.mp mp
   obtain⟨⟨_,_⟩,_,_⟩:=p5 p' m'
   exact⟨⟨by dsimp only;lia,by dsimp only;lia⟩,by dsimp only;lia,by dsimp only;lia⟩
  have hrl:(ps.map (fun p=>(x - 40 + p.1,y - 40 + p.2))).length<=9:=by rw[a_];exact p4
  have hrn:ps.map (fun p=>(x - 40 + p.1,y - 40 + p.2))≠[]:=fun z=>p3 (IH.mp z)
  clear em
  generalize ps.map (fun p=>(x - 40 + p.1,y - 40 + p.2))=rs at *
  walk_at "go"
  refine⟨false,rs,rfl,hrn,by lia,fun oc z hoc=>?_⟩
  have k1:=mO hoc hr
  have ok1:∀ o∈os++[oc],okO (-40) 61 o:=fun o m'=>by
   rcases z_.mp m' with m' | m'
   ·exact ho o m'
   rw[p_.mp m']
   exact⟨k1.1,⟨k1.2.1.1,by lia⟩,k1.2.2.1,by lia⟩
  have e1:os.map ocT++[ocT oc]=(os++[oc]).map ocT:=by rw[t_];rfl
  have le1:(os++[oc]).length=os.length + 1:=by rw[f'];rfl
  walk_at "go"
  rw[e1]
  clear ho hoc k1 e1
  generalize os++[oc]=os1 at *
  refine⟨by lia,bN (fun g2=>?_) (fun g2=>?_)⟩
  rotate_left
  ·walk_at "go"
   exact⟨60 - os1.length,by lia,c4',n4,os1,_,_,_,_,rfl,by lia,by lia,by lia,ok1,rfl⟩
  walk_at "go"
  walk_at "take"
  intro r c5 a5 b5
  walk_at "go"
  refine bN (fun g3=>?_) (fun g3=>?_)
  rotate_left
  ·walk_at "go"
   exact⟨60 - os1.length,by lia,c5,_,os1,_,_,_,_,rfl,by lia,by lia,by lia,ok1,rfl⟩
  walk_at "go"
  walk_at "take"
  intro u c6 a6 b6
  walk_at "go"
  refine aD (by rw[a_,sizeLine_eq];lia) (fun i acc ie=>∃ z1 z2,acc=(rs.take i).map (fun p=>ptP (p.1 + u,p.2 + 1))/\ie=[z1,z2,.int u]) ⟨_,_,rfl,rfl⟩ ?_ ?_
  ·rintro i t _ _ ⟨z1,z2,rfl,rfl⟩ ei
   obtain⟨p,ep,rfl⟩:=aU ei
   walk_at "go"
   exact⟨_,_,by rw[map_take ep];rfl,rfl⟩
  rintro _ _ ⟨z1,z2,rfl,rfl⟩
  rw[a_,A']
  have em:rs.map (fun p=>ptP (p.1 + u,p.2 + 1))=(rs.map fun p=>(p.1 + u,p.2 + 1)).map ptP:=by rw[D'];rfl
  rw[em]
  have hr2:∀ p∈rs.map (fun p=>(p.1 + u,p.2 + 1)),bdP (-40) 61 p:=fun p mp=>by
   obtain⟨p',m',rfl⟩:=m_.mp mp
   obtain⟨⟨_,_⟩,_,_⟩:=hr p' m'
   exact⟨⟨by dsimp only;lia,by dsimp only;lia⟩,by dsimp only;lia,by dsimp only;lia⟩
  have hrl2:(rs.map (fun p=>(p.1 + u,p.2 + 1))).length<=9:=by rw[a_];exact hrl
  have hrn2:rs.map (fun p=>(p.1 + u,p.2 + 1))≠[]:=fun z=>hrn (IH.mp z)
  clear em
  generalize rs.map (fun p=>(p.1 + u,p.2 + 1))=ss at *
  walk_at "go"
  refine⟨true,ss,rfl,hrn2,by lia,fun oc2 z hoc=>?_⟩
  have k2:=mO hoc hr2
  walk_at "go"
  rw[a_]at g2
  refine⟨by lia,60 - (os1++[oc2]).length,by rw[f'];show 60 - (os1.length + 1) < _;lia,c6,n4 + 1 + 1,os1++[oc2],_,_,_,_,rfl,by lia,by rw[f'];show _<=n + 40 * (os1.length + 1);lia,by rw[f'];show((os1.length + 1:Nat):Int)<=m;lia,fun o m'=>?_,by rw[t_];rfl⟩
  rcases z_.mp m' with m' | m'
  ·exact ok1 o m'
  rw[p_.mp m']
  exact k2
 rintro _ ⟨c',n',os,z5,z6,z7,z8,l1,l2,l3,ho,rfl⟩
 walk_at "go"
 exact q c' n' os l1 (by lia) l3 ho
end
noncomputable def gY:FP:=fun ts k=>∃(o:Oc) (t x y:Int),ts=[ocT o,.int t,.int x,.int y]/\1<=t/\t < 2 ^ 40/\k (ocT (grO t x y o)) [ocT o,.int t,.int x,.int y]
section
variable{P:MA}{w:MC}{K:Mk}{mg:Str->Option Mj}{base:MD}
theorem jz:FnScope ["_law_octo_here","_law_times","_law_x","_law_y","_law_more"] ["_law_octo_here","_law_times","_law_x","_law_y"] (av iu):=⟨rfl,rfl,rfl,by decide +kernel,rfl,by decide +kernel,by decide +kernel⟩
set_option maxHeartbeats 4000000 in
theorem ra{f:Ml}{fd:MR}(F:Fun K "_law_greater" "_law_greater" iu f fd)(TX:Txt mg)  :FnOk P w K mg base CX0 1 f fd ["_law_octo_here","_law_times","_law_x","_law_y"] (b8 K 4 gY):=by
 refine cO F jz [true,true,true,true] rfl (fun cdv A outer s H E hr=>?_)
 have sc:=@jz
 have nd1:(["_law_one","_law_other","_law_times"]:List Str).Nodup:=by decide +kernel
 refine⟨_,(ah (aF (i:=4) sc.nd (by rfl) (c_ rfl) (by rfl) (aL (ba (ae (ab 2) (ae (ab 2) (ae (ab 3) (ae (ab 3) (ae (af aC (ab 2) (ab 3)) (ae (af aC (ab 2) (ab 3)) (ae (af aJ (ab 2) (ab 3)) (ae (af aJ (ab 2) (ab 3)) ai))))))))))) (ay (bC (aL (i7 dv (by rfl) TX.tuple (by decide +kernel) (ae (bu sc ["_law_one","_law_other","_law_times"] [none,none,some 1] nd1 (by decide +kernel) (xu (by rfl) TX.zip (ae (ab 0) (ae (ab 4) ai))) (fun _ _ _=>(cT (n:=2) (by rfl) (az (ak (i:=0) nd1 (by rfl) (c_ rfl) (by rfl) (hf:=(b_ rfl))) (az (ak (i:=1) nd1 (by rfl) (c_ rfl) (by rfl) (hf:=(b_ rfl))) cm)))) (fun _ _ _=>aV) (fun _ _ _=>(af aC (af aA (ab 0) (ab 2)) (ab 1)))) ai)))))),fun ts kk hl hp=>?_⟩
 clear hl
 obtain⟨o,t,x,y,rfl,t0,t1,q⟩:=hp
 walk_at "go"
 refine aY (show items (ocT o)=some ((ocL o).map T.int)from rfl) ?_
 walk_at "go"
 have e8:Ib (fun p:T × T=>T.tup [p.1,p.2]) ((Ib (fun x=>T.int x) (ocL o)).zip [T.int x,T.int x,T.int y,T.int y,T.int (x + y),T.int (x + y),T.int (x - y),T.int (x - y)])=((ocL o).zip [x,x,y,y,x + y,x + y,x - y,x - y]).map ptP:=rfl
 rw[e8]
 refine aD (by rw[a_];show 8 < sizeLine;decide) (fun i acc ie=>∃ z1 z2,acc=(((ocL o).zip [x,x,y,y,x + y,x + y,x - y,x - y]).take i).map (fun p=>T.int (p.1 * t + p.2))/\ie=[z1,z2,.int t]) ⟨_,_,rfl,rfl⟩ ?_ ?_
 ·rintro i u _ _ ⟨z1,z2,rfl,rfl⟩ ei
  obtain⟨p,ep,rfl⟩:=aU ei
  walk_at "go"
  exact⟨.inr ⟨by lia,by lia⟩,_,_,by rw[map_take ep],rfl⟩
 rintro _ _ ⟨z1,z2,rfl,rfl⟩
 rw[a_,A']
 walk_at "go"
 exact q
end
def jX:FP:=fun ts k=>∃ o:Oc,ts=[ocT o]/\Bd (2 ^ 40) o/\Vo o/\Vz o/\k (.int (nR o)) [ocT o]
section
variable{P:MA}{w:MC}{K:Mk}{mg:Str->Option Mj}{base:MD}
theorem iA:FnScope ["_law_octo_here","_law_w","_law_e","_law_s","_law_n","_law_a","_law_b","_law_c","_law_d","_law_cuts"] ["_law_octo_here"] (av f7):=⟨rfl,rfl,rfl,by decide +kernel,rfl,by decide +kernel,by decide +kernel⟩
set_option maxHeartbeats 4000000 in
theorem oE{f:Ml}{fd:MR}(F:Fun K "_law_one_area" "_law_one_area" f7 f fd)(TX:Txt mg)  :FnOk P w K mg base CX0 1 f fd ["_law_octo_here"] (b8 K 1 jX):=by
 refine cO F iA [true] rfl (fun cdv A outer s H E hr=>?_)
 have sc:=@iA
 have nd1:(["_law_cut"]:List Str).Nodup:=by decide +kernel
 refine⟨_,(ah (lZ (bL 0) (cT (n:=8) (by rfl) (az (ak (i:=1) sc.nd (by rfl) (c_ rfl) (by rfl)) (az (ak (i:=2) sc.nd (by rfl) (c_ rfl) (by rfl)) (az (ak (i:=3) sc.nd (by rfl) (c_ rfl) (by rfl)) (az (ak (i:=4) sc.nd (by rfl) (c_ rfl) (by rfl)) (az (ak (i:=5) sc.nd (by rfl) (c_ rfl) (by rfl)) (az (ak (i:=6) sc.nd (by rfl) (c_ rfl) (by rfl)) (az (ak (i:=7) sc.nd (by rfl) (c_ rfl) (by rfl)) (az (ak (i:=8) sc.nd (by rfl) (c_ rfl) (by rfl)) cm)))))))))) (ah (aF (i:=9) sc.nd (by rfl) (c_ rfl) (by rfl) (aL (ba (ae (af aJ (af aJ (ab 5) (ab 1)) (ab 3)) (ae (af aJ (af aC (ab 2) (ab 4)) (ab 6)) (ae (af aC (af aJ (ab 7) (ab 1)) (ab 4)) (ae (af aJ (af aJ (ab 2) (ab 3)) (ab 8)) ai))))))) (ay (bC (aL (af aJ (af aA (af aA ge_int (af aJ (ab 2) (ab 1))) (af aJ (ab 4) (ab 3))) (aO (vi rfl) (by rfl) TX.sum (by decide +kernel) (ae (bu sc ["_law_cut"] [none] nd1 (by decide +kernel) (aZ (ab 9)) (fun _ _ _=>(ak (i:=0) nd1 (by rfl) (c_ rfl) (by rfl) (hf:=(b_ rfl)))) (fun _ _ _=>aV) (fun _ _ _=>(af aA (af aA ge_int (ab 0)) (ab 0)))) ai)))))))),fun ts kk hl hp=>?_⟩
 clear hl
 obtain⟨o,rfl,bd,vo,vz,q⟩:=hp
 walk_at "go"
 obtain⟨⟨b1,b2⟩,b3,b4⟩:=bd
 obtain⟨⟨v1,v2⟩,⟨v3,v4⟩,⟨v5,v6⟩,⟨v7,v8⟩,v9,v10⟩:=vo
 obtain⟨⟨z1,z2⟩,z3,z4⟩:=vz
 refine⟨c4 _,.inl ⟨by lia,by lia⟩,?_⟩
 have e4:[T.int (o.e - o.a - o.c),T.int (o.b + o.d - o.f),T.int (o.g - o.a + o.d),T.int (o.b - o.c - o.h)]=[o.e - o.a - o.c,o.b + o.d - o.f,o.g - o.a + o.d,o.b - o.c - o.h].map T.int:=rfl
 rw[e4]
 refine aD (by show 4 < sizeLine;decide) (fun i acc ie=>∃ z1,acc=([o.e - o.a - o.c,o.b + o.d - o.f,o.g - o.a + o.d,o.b - o.c - o.h].take i).map (fun p=>T.int (2 * p * p))/\ie=[z1]) ⟨_,rfl,rfl⟩ ?_ ?_
 ·rintro i u _ _ ⟨z1,rfl,rfl⟩ ei
  obtain⟨p,ep,rfl⟩:=aU ei
  have hp:=HW ep
  simp only[o_,Ic,or_false]at hp
  walk_at "go"
  exact⟨c2 _,.inr ⟨by lia,by lia⟩,_,by rw[map_take ep],rfl⟩
 rintro _ _ ⟨z1,rfl,rfl⟩
 rw[a_,A']
 walk_at "go"
 have es:∀ k':T->Prop,k' (.int (2 * (o.e - o.a - o.c) * (o.e - o.a - o.c) + (2 * (o.b + o.d - o.f) * (o.b + o.d - o.f) + (2 * (o.g - o.a + o.d) * (o.g - o.a + o.d) + 2 * (o.b - o.c - o.h) * (o.b - o.c - o.h)))))->E7 [T.lst true [T.int (2 * (o.e - o.a - o.c) * (o.e - o.a - o.c)),T.int (2 * (o.b + o.d - o.f) * (o.b + o.d - o.f)),T.int (2 * (o.g - o.a + o.d) * (o.g - o.a + o.d)),T.int (2 * (o.b - o.c - o.h) * (o.b - o.c - o.h))]] k':=fun k' hk=>by
  refine yD rfl ?_
  show k' (.int (_ + (_ + (_ + (_ + 0)))))
  rw[JW]
  exact hk
 refine es _ ?_
 walk_at "go"
 exact q
end
noncomputable def eO:FP:=fun ts k=>∃(c:Cells) (n:Nat),ts=[stT c n]/\n < 2 ^ 38/\∀(c':Cells) (n':Nat),n<=n'->n'<=n + 100->k (.bl true) [stT c' n']
section
variable{P:MA}{w:MC}{K:Mk}{mg:Str->Option Mj}{base:MD}
theorem dE:FnScope ["_law_state","_law_most","_law_corners_here","_law_octo_here","_law_due","_law_inner","_law_far"] ["_law_state"] (av cU):=⟨rfl,rfl,rfl,by decide +kernel,rfl,by decide +kernel,by decide +kernel⟩
set_option maxHeartbeats 4000000 in
theorem jO{f:Ml}{fd:MR}(F:Fun K "_law_great_right" "_law_great_right" cU f fd)(TX:Txt mg)  (G_area_of:Cal P w K mg base 3 "area_of" ["octos"] (b8 K 1 gL))(G_take:Cal P w K mg base 1 "_law_take" ["_law_state","_law_many"] (b8 K 2 gM))(G_same:Cal P w K mg base 4 "_law_same" ["_law_found","_law_due"] (b8 K 2 (gI 4)))(G_octo:Cal P w K mg base 1 "_law_octo" ["_law_corners_here"] (b8 K 1 qE))(G_greater:Cal P w K mg base 1 "_law_greater" ["_law_octo_here","_law_times","_law_x","_law_y"] (b8 K 4 gY))(G_one_area:Cal P w K mg base 1 "_law_one_area" ["_law_octo_here"] (b8 K 1 jX)):FnOk P w K mg base CX0 5 f fd ["_law_state"] (b8 K 1 eO):=by
 refine cO F dE [true] rfl (fun cdv A outer s H E hr=>?_)
 have sc:=@dE
 have nd1:(["_law_turn","_law_most","_law_state"]:List Str).Nodup:=by decide +kernel
 refine⟨_,(@ah _ _ _ _ _ _ (@aF _ _ _ _ _ 1 _ _ sc.nd (by rfl) (b_ rfl) (by rfl) (@bh _ _ _ _ _ _ _ hr (@aL _ _ _ (@ba _ _ _ _ (@ae _ _ _ _ _ (@ge_int _ _ _ _) (@ae _ _ _ _ _ (@ge_int _ _ _ _) (@ae _ _ _ _ _ (@af _ _ _ _ _ _ _ _ bX (@ge_int _ _ _ _) (@ge_int _ _ _ _)) (@ae _ _ _ _ _ (@af _ _ _ _ _ _ _ _ bX (@ge_int _ _ _ _) (@ge_int _ _ _ _)) (@ae _ _ _ _ _ (@af _ _ _ _ _ _ _ _ bX (@ge_int _ _ _ _) (@ge_int _ _ _ _)) (@ae _ _ _ _ _ (@af _ _ _ _ _ _ _ _ bX (@ge_int _ _ _ _) (@ge_int _ _ _ _)) (@ae _ _ _ _ _ (@af _ _ _ _ _ _ _ _ bX (@ge_int _ _ _ _) (@ge_int _ _ _ _)) (@ai _) (by rfl)) (by rfl)) (by rfl)) (by rfl)) (by rfl)) (by rfl)) (by rfl)))) (@au _ _ _ _ _ _ _ _ _ _ _ _ G_take hr (by rfl) (@aT _ _ _ 0 _ _ (@aj _ _ _ _ _ (@ge_int _ _ _ _) (@aq _) (by rfl)) (by rfl) (by first | exact c_ rfl | exact b_ (c_ rfl) | exact b_ (b_ rfl)) (by decide) (by decide) (by rfl)) (by lia) (by decide) (by rfl) (by rfl)) (by intro _ _;rfl)) (by rfl) (by first | exact .inl rfl | exact .inr rfl)) (@ah _ _ _ _ _ _ (@nK _ _ _ _ _ sc 2 _ _ _ ["_law_turn","_law_most","_law_state"] [none,some 1,some 0] nd1 _ _ _ _ _ _ _ _ _ _ (by decide +kernel) (by rfl) (c_ rfl) (by rfl) (@cC _ _ _ _ _ _ (by rfl) TX.range (@ae _ _ _ _ _ (@af _ _ _ _ _ _ _ _ aC (@ge_int _ _ _ _) (@au _ _ _ _ _ _ _ _ _ _ _ _ G_take hr (by rfl) (@aT _ _ _ 0 _ _ (@aj _ _ _ _ _ (@ge_int _ _ _ _) (@aq _) (by rfl)) (by rfl) (by first | exact c_ rfl | exact b_ (c_ rfl) | exact b_ (b_ rfl)) (by decide) (by decide) (by rfl)) (by lia) (by decide) (by rfl) (by rfl))) (@ai _) (by rfl)) (by rfl)) (fun _ _ _=>(@ak _ _ _ 0 _ nd1 (by rfl) (c_ rfl) (by rfl) (b_ rfl))) (fun _ _ _=>(@aV _)) (fun _ _ _=>(@cp _ _ _ _ _ (@ae _ _ _ _ _ (@au _ _ _ _ _ _ _ _ _ _ _ _ G_take hr (by rfl) (@aT _ _ _ 2 _ _ (@aj _ _ _ _ _ (@bL _ _ 1 _ (by rfl) (by first | exact c_ rfl | exact b_ (c_ rfl) | exact b_ (b_ rfl)) (by decide) (by decide)) (@aq _) (by rfl)) (by rfl) (by first | exact c_ rfl | exact b_ (c_ rfl) | exact b_ (b_ rfl)) (by decide) (by decide) (by rfl)) (by lia) (by decide) (by rfl) (by rfl)) (@ae _ _ _ _ _ (@au _ _ _ _ _ _ _ _ _ _ _ _ G_take hr (by rfl) (@aT _ _ _ 2 _ _ (@aj _ _ _ _ _ (@bL _ _ 1 _ (by rfl) (by first | exact c_ rfl | exact b_ (c_ rfl) | exact b_ (b_ rfl)) (by decide) (by decide)) (@aq _) (by rfl)) (by rfl) (by first | exact c_ rfl | exact b_ (c_ rfl) | exact b_ (b_ rfl)) (by decide) (by decide) (by rfl)) (by lia) (by decide) (by rfl) (by rfl)) (@ai _) (by rfl)) (by rfl)))) (by rfl) (by rfl) (by rfl) (by rfl) (by rfl) (by intro _;rfl)) (@ah _ _ _ _ _ _ (@aF _ _ _ _ _ 3 _ _ sc.nd (by rfl) (c_ rfl) (by rfl) (@aL _ _ _ (@au _ _ _ _ _ _ _ _ _ _ _ _ G_octo hr (by rfl) (@aj _ _ _ _ _ (@ab _ _ 2 _ (by rfl) (by first | exact c_ rfl | exact b_ (c_ rfl) | exact b_ (b_ rfl)) (by decide) (by decide)) (@aq _) (by rfl)) (by lia) (by decide) (by rfl) (by rfl))) (by rfl) (by first | exact .inl rfl | exact .inr rfl)) (@ah _ _ _ _ _ _ (@aF _ _ _ _ _ 4 _ _ sc.nd (by rfl) (c_ rfl) (by rfl) (@aL _ _ _ (@au _ _ _ _ _ _ _ _ _ _ _ _ G_one_area hr (by rfl) (@aj _ _ _ _ _ (@ab _ _ 3 _ (by rfl) (by first | exact c_ rfl | exact b_ (c_ rfl) | exact b_ (b_ rfl)) (by decide) (by decide)) (@aq _) (by rfl)) (by lia) (by decide) (by rfl) (by rfl))) (by rfl) (by first | exact .inl rfl | exact .inr rfl)) (@ah _ _ _ _ _ _ (@aF _ _ _ _ _ 5 _ _ sc.nd (by rfl) (c_ rfl) (by rfl) (@au _ _ _ _ _ _ _ _ _ _ _ _ G_octo hr (by rfl) (@aj _ _ _ _ _ (@oD _ _ _ _ _ _ _ _ _ (@bL _ _ 2 _ (by rfl) (by first | exact c_ rfl | exact b_ (c_ rfl) | exact b_ (b_ rfl)) (by decide) (by decide)) (@rO _) (@uF _ _ _ (@af _ _ _ _ _ _ _ _ aC (@ge_int _ _ _ _) (@au _ _ _ _ _ _ _ _ _ _ _ _ G_take hr (by rfl) (@aT _ _ _ 0 _ _ (@aj _ _ _ _ _ (@aL _ _ _ (@aO _ _ _ _ _ _ _ _ _ bI (by rfl) TX.len (by decide +kernel) (@ae _ _ _ _ _ (@ab _ _ 2 _ (by rfl) (by first | exact c_ rfl | exact b_ (c_ rfl) | exact b_ (b_ rfl)) (by decide) (by decide)) (@ai _) (by rfl)) (by decide) (by decide) (by rfl) (by rfl))) (@aq _) (by rfl)) (by rfl) (by first | exact c_ rfl | exact b_ (c_ rfl) | exact b_ (b_ rfl)) (by decide) (by decide) (by rfl)) (by lia) (by decide) (by rfl) (by rfl))))) (@aq _) (by rfl)) (by lia) (by decide) (by rfl) (by rfl)) (by rfl) (by first | exact .inl rfl | exact .inr rfl)) (@ah _ _ _ _ _ _ (@aF _ _ _ _ _ 6 _ _ sc.nd (by rfl) (c_ rfl) (by rfl) (@au _ _ _ _ _ _ _ _ _ _ _ _ G_greater hr (by rfl) (@aj _ _ _ _ _ (@bL _ _ 5 _ (by rfl) (by first | exact c_ rfl | exact b_ (c_ rfl) | exact b_ (b_ rfl)) (by decide) (by decide)) (@aj _ _ _ _ _ (@ge_int _ _ _ _) (@aj _ _ _ _ _ (@af _ _ _ _ _ _ _ _ aJ (@aL _ _ _ (@af _ _ _ _ _ _ _ _ aA (@z9 _ _ _ _ (@ge_int _ _ _ _)) (@ab _ _ 1 _ (by rfl) (by first | exact c_ rfl | exact b_ (c_ rfl) | exact b_ (b_ rfl)) (by decide) (by decide)))) (@au _ _ _ _ _ _ _ _ _ _ _ _ G_take hr (by rfl) (@aT _ _ _ 0 _ _ (@aj _ _ _ _ _ (@bL _ _ 1 _ (by rfl) (by first | exact c_ rfl | exact b_ (c_ rfl) | exact b_ (b_ rfl)) (by decide) (by decide)) (@aq _) (by rfl)) (by rfl) (by first | exact c_ rfl | exact b_ (c_ rfl) | exact b_ (b_ rfl)) (by decide) (by decide) (by rfl)) (by lia) (by decide) (by rfl) (by rfl))) (@aj _ _ _ _ _ (@au _ _ _ _ _ _ _ _ _ _ _ _ G_take hr (by rfl) (@aT _ _ _ 0 _ _ (@aj _ _ _ _ _ (@bL _ _ 1 _ (by rfl) (by first | exact c_ rfl | exact b_ (c_ rfl) | exact b_ (b_ rfl)) (by decide) (by decide)) (@aq _) (by rfl)) (by rfl) (by first | exact c_ rfl | exact b_ (c_ rfl) | exact b_ (b_ rfl)) (by decide) (by decide) (by rfl)) (by lia) (by decide) (by rfl) (by rfl)) (@aq _) (by rfl)) (by rfl)) (by rfl)) (by rfl)) (by lia) (by decide) (by rfl) (by rfl)) (by rfl) (by first | exact .inl rfl | exact .inr rfl)) (@ah _ _ _ _ _ _ (@jV _ _ _ _ _ _ _ _ _ (@pW _ _ _ (@qW _ _ _ _ (@gx _ _ _ (@au _ _ _ _ _ _ _ _ _ _ _ _ G_same hr (by rfl) (@aj _ _ _ _ _ (@ba _ _ _ _ (@ae _ _ _ _ _ (@au _ _ _ _ _ _ _ _ _ _ _ _ G_area_of hr (by rfl) (@aj _ _ _ _ _ (@ba _ _ _ _ (@ae _ _ _ _ _ (@ab _ _ 3 _ (by rfl) (by first | exact c_ rfl | exact b_ (c_ rfl) | exact b_ (b_ rfl)) (by decide) (by decide)) (@ai _) (by rfl))) (@aq _) (by rfl)) (by lia) (by decide) (by rfl) (by rfl)) (@ae _ _ _ _ _ (@au _ _ _ _ _ _ _ _ _ _ _ _ G_area_of hr (by rfl) (@aj _ _ _ _ _ (@ba _ _ _ _ (@ae _ _ _ _ _ (@ab _ _ 5 _ (by rfl) (by first | exact c_ rfl | exact b_ (c_ rfl) | exact b_ (b_ rfl)) (by decide) (by decide)) (@ae _ _ _ _ _ (@ab _ _ 3 _ (by rfl) (by first | exact c_ rfl | exact b_ (c_ rfl) | exact b_ (b_ rfl)) (by decide) (by decide)) (@ae _ _ _ _ _ (@ab _ _ 5 _ (by rfl) (by first | exact c_ rfl | exact b_ (c_ rfl) | exact b_ (b_ rfl)) (by decide) (by decide)) (@ae _ _ _ _ _ (@ab _ _ 3 _ (by rfl) (by first | exact c_ rfl | exact b_ (c_ rfl) | exact b_ (b_ rfl)) (by decide) (by decide)) (@ai _) (by rfl)) (by rfl)) (by rfl)) (by rfl))) (@aq _) (by rfl)) (by lia) (by decide) (by rfl) (by rfl)) (@ai _) (by rfl)) (by rfl))) (@aj _ _ _ _ _ (@ba _ _ _ _ (@ae _ _ _ _ _ (@ab _ _ 4 _ (by rfl) (by first | exact c_ rfl | exact b_ (c_ rfl) | exact b_ (b_ rfl)) (by decide) (by decide)) (@ae _ _ _ _ _ (@ab _ _ 4 _ (by rfl) (by first | exact c_ rfl | exact b_ (c_ rfl) | exact b_ (b_ rfl)) (by decide) (by decide)) (@ai _) (by rfl)) (by rfl))) (@aq _) (by rfl)) (by rfl)) (by lia) (by decide) (by rfl) (by rfl)) (by intro _;rfl)))) (@ay _ _ _ _ (@bC _ _ _ _ _ (@yr _ _ _ _))) (@dr _ _)) (@ay _ _ _ _ (@bC _ _ _ _ _ (@aL _ _ _ (@au _ _ _ _ _ _ _ _ _ _ _ _ G_same hr (by rfl) (@aj _ _ _ _ _ (@au _ _ _ _ _ _ _ _ _ _ _ _ G_area_of hr (by rfl) (@aj _ _ _ _ _ (@ba _ _ _ _ (@ae _ _ _ _ _ (@ab _ _ 6 _ (by rfl) (by first | exact c_ rfl | exact b_ (c_ rfl) | exact b_ (b_ rfl)) (by decide) (by decide)) (@ae _ _ _ _ _ (@ab _ _ 3 _ (by rfl) (by first | exact c_ rfl | exact b_ (c_ rfl) | exact b_ (b_ rfl)) (by decide) (by decide)) (@ae _ _ _ _ _ (@ab _ _ 5 _ (by rfl) (by first | exact c_ rfl | exact b_ (c_ rfl) | exact b_ (b_ rfl)) (by decide) (by decide)) (@ai _) (by rfl)) (by rfl)) (by rfl))) (@aq _) (by rfl)) (by lia) (by decide) (by rfl) (by rfl)) (@aj _ _ _ _ _ (@af _ _ _ _ _ _ _ _ aC (@ab _ _ 4 _ (by rfl) (by first | exact c_ rfl | exact b_ (c_ rfl) | exact b_ (b_ rfl)) (by decide) (by decide)) (@au _ _ _ _ _ _ _ _ _ _ _ _ G_one_area hr (by rfl) (@aj _ _ _ _ _ (@ab _ _ 5 _ (by rfl) (by first | exact c_ rfl | exact b_ (c_ rfl) | exact b_ (b_ rfl)) (by decide) (by decide)) (@aq _) (by rfl)) (by lia) (by decide) (by rfl) (by rfl))) (@aq _) (by rfl)) (by rfl)) (by lia) (by decide) (by rfl) (by rfl)))))))))))),fun ts kk hl hp=>?_⟩
 clear hl
 obtain⟨c,n,rfl,hn,q⟩:=hp
 walk_at "go"
 refine⟨cpw _ (by decide),cpw _ (by decide),cpw _ (by decide),cpw _ (by decide),cpw _ (by decide),?_⟩
 walk_at "take"
 intro r c1 a1 b1
 walk_at "go"
 obtain⟨m,em,m0,m1⟩:=eB (fun v=>60<=v/\v<=100000000) (ns:=[60,150,10 ^ IM 3,10 ^ IM 5,10 ^ IM 6,10 ^ IM 7,10 ^ IM 8]) (i:=r) (by omega) (by show r < 7;omega) (by
  intro v hv
  simp only[o_,Ic,or_false]at hv
  rcases hv with rfl | rfl | rfl | rfl | rfl | rfl | rfl <;> decide)
 refine aY em ?_
 walk_at "go"
 walk_at "take"
 intro r2 c2' a2 b2
 walk_at "go"
 refine⟨⟨by lia,by lia⟩,aD (by rw[bq,sizeLine_eq];lia) (fun i acc ie=>∃(c':Cells) (ps:List Pt) (z:T),acc=ps.map ptP/\ps.length=i/\(∀ p∈ps,bdP 0 (m - 1) p)/\ie=[z,.int m,stT c' (n + 2 + 2 * i)]) ⟨c2',[],_,rfl,rfl,(fun p m=>by cases m),rfl⟩ ?_ ?_⟩
 ·rintro i t _ _ ⟨c',ps,z,rfl,hl,hb,rfl⟩ ei
  have hi:=dh ei
  walk_at "go"
  walk_at "take"
  intro x c3 a3 b3
  walk_at "go"
  walk_at "take"
  intro y c4' a4 b4
  walk_at "go"
  refine⟨c4',ps++[(x,y)],_,by rw[t_];rfl,by rw[f',hl];rfl,fun p m=>?_,rfl⟩
  rcases z_.mp m with m | m
  ·exact hb p m
  rw[p_.mp m]
  exact⟨⟨a3,by dsimp only;lia⟩,a4,by dsimp only;lia⟩
 rintro _ _ ⟨c3,ps,z,rfl,hl,hb,rfl⟩
 rw[bq]at hl ⊢
 have hne:ps≠[]:=fun z=>by rw[z]at hl;simp at hl;lia
 generalize hN:n + 2 + 2 * (2 + r2).toNat=N
 have hN2:n + 6<=N/\N<=n + 30:=by lia
 clear hN
 walk_at "go"
 refine⟨false,ps,rfl,hne,by lia,fun oc z2 hoc=>?_⟩
 have k1:=mO hoc hb
 have bo:Bd 200000000 oc:=⟨⟨by have:=k1.2.1.1;lia,by have:=k1.2.1.2;lia⟩,by have:=k1.2.2.1;lia,by have:=k1.2.2.2;lia⟩
 walk_at "go"
 refine⟨oc,rfl,⟨⟨by have:=bo.1.1;lia,by have:=bo.1.2;omega⟩,by have:=bo.2.1;lia,by have:=bo.2.2;omega⟩,k1.1.1,k1.1.2.2,?_⟩
 walk_at "go"
 walk_at "take"
 intro r3 c4' a4 b4
 walk_at "go"
 rw[He (ts:=Ib (fun x=>ptP x) ps) (by lia),<-L5]
 have hsub:∀ p∈ps.take (1 + r3).toNat,p∈ps:=fun p m=>Iq m
 have hne2:ps.take (1 + r3).toNat≠[]:=fun z=>by
  have:=congrArg J6 z
  rw[D_,Jp]at this
  have:=Ks.mpr hne
  lia
 have hl2:(ps.take (1 + r3).toNat).length<=100:=by rw[D_];lia
 generalize ps.take (1 + r3).toNat=qs at *
 refine⟨true,qs,rfl,hne2,hl2,fun oi z3 hoi=>?_⟩
 have k2:=mO hoi fun p m=>hb p (hsub p m)
 have wi:=D6 hoc hoi hsub
 have bi':Bd 200000000 oi:=⟨⟨by have:=k2.2.1.1;lia,by have:=k2.2.1.2;lia⟩,by have:=k2.2.2.1;lia,by have:=k2.2.2.2;lia⟩
 walk_at "go"
 refine⟨.inl ⟨by decide,by decide⟩,?_⟩
 walk_at "take"
 intro r4 c5 a5 b5
 walk_at "go"
 walk_at "take"
 intro r5 c6 a6 b6
 walk_at "go"
 refine⟨oi,1,-2 * m - r4,r5,rfl,by decide,by decide,?_⟩
 rw[FI]
 walk_at "go"
 obtain⟨sdl,A1,A3,A4⟩:=wM (B:=1000000000) (m:=m) (r4:=r4) (r5:=r5) k1 k2 wi (by lia) (by lia) a5 b5 a6 b6
 refine⟨false,true,false,false,[oc],1000000000,rfl,sdl _ (JE rfl) (fun x mx=>.inl (p_.mp mx)),fun z4=>?_⟩
 rw[A1]
 walk_at "go"
 refine⟨false,true,false,false,[oi,oc,oi,oc],1000000000,rfl,sdl _ (JE rfl) (fun x mx=>by simp only[o_,Ic,or_false]at mx;rcases mx with h | h | h | h <;> first | exact .inl h | exact .inr (.inl h)),fun z4=>?_⟩
 rw[A3]
 walk_at "go"
 refine same_self (n:=1) (Hl (pN zA (pN zA A9)) (JE rfl)) (by decide) ?_
 walk_at "go"
 refine⟨false,true,false,false,[mvO (-2 * m - r4) r5 oi,oc,oi],1000000000,rfl,sdl _ (JE rfl) (fun x mx=>by simp only[o_,Ic,or_false]at mx;rcases mx with h | h | h <;> first | exact .inl h | exact .inr (.inl h) | exact .inr (.inr h)),fun z4=>?_⟩
 rw[A4]
 walk_at "go"
 refine⟨oi,rfl,⟨⟨by have:=bi'.1.1;lia,by have:=bi'.1.2;lia⟩,by have:=bi'.2.1;lia,by have:=bi'.2.2;lia⟩,k2.1.1,k2.1.2.2,?_⟩
 walk_at "go"
 refine same_self (n:=0) zA (by decide) ?_
 walk_at "go"
 exact q _ _ (by lia) (by lia)
end
section
variable{P:MA}{w:MC}{K:Mk}{mg:Str->Option Mj}{base:MD}
theorem wW:FnScope ["_law_script","_law_state","_law_octos_here","_law_due","_law_turn","_law_times","_law_x","_law_y"] ["_law_script"] (av dF):=⟨rfl,rfl,rfl,by decide +kernel,rfl,by decide +kernel,by decide +kernel⟩
set_option maxHeartbeats 4000000 in
theorem CW{f:Ml}{fd:MR}(F:Fun K "law" "law" dF f fd)(TX:Txt mg)  (G_area_of:Cal P w K mg base 3 "area_of" ["octos"] (b8 K 1 gL))(G_begin:Cal P w K mg base 1 "_law_begin" ["_law_script"] (b8 K 1 (mZ K)))(G_take:Cal P w K mg base 1 "_law_take" ["_law_state","_law_many"] (b8 K 2 gM))(G_same:Cal P w K mg base 4 "_law_same" ["_law_found","_law_due"] (b8 K 2 (gI 4)))(G_union:Cal P w K mg base 3 "_law_union" ["_law_octos_here"] (b8 K 1 uh))(G_octos:Cal P w K mg base 3 "_law_octos" ["_law_state","_law_many","_law_wide","_law_field"] (b8 K 4 t5))(G_greater:Cal P w K mg base 1 "_law_greater" ["_law_octo_here","_law_times","_law_x","_law_y"] (b8 K 4 gY))(G_great_right:Cal P w K mg base 5 "_law_great_right" ["_law_state"] (b8 K 1 eO)):FnOk P w K mg base CX0 6 f fd ["_law_script"] (b8 K 1 (wa K)):=by
 refine cO F wW [true] rfl (fun cdv A outer s H E hr=>?_)
 have sc:=@wW
 have nd1:(["_law_octo_here","_law_y","_law_x","_law_times"]:List Str).Nodup:=by decide +kernel
 refine⟨_,(@dk _ _ _ _ _ _ (@aF _ _ _ _ _ 1 _ _ sc.nd (by rfl) (c_ rfl) (by rfl) (@aL _ _ _ (@au _ _ _ _ _ _ _ _ _ _ _ _ G_begin hr (by rfl) (@aj _ _ _ _ _ (@ab _ _ 0 _ (by rfl) (by first | exact c_ rfl | exact b_ (c_ rfl) | exact b_ (b_ rfl)) (by decide) (by decide)) (@aq _) (by rfl)) (by lia) (by decide) (by rfl) (by rfl))) (by rfl) (by first | exact .inl rfl | exact .inr rfl)) (@dk _ _ _ _ _ _ (@aF _ _ _ _ _ 2 _ _ sc.nd (by rfl) (c_ rfl) (by rfl) (@au _ _ _ _ _ _ _ _ _ _ _ _ G_octos hr (by rfl) (@aT _ _ _ 1 _ _ (@aj _ _ _ _ _ (@af _ _ _ _ _ _ _ _ aC (@ge_int _ _ _ _) (@au _ _ _ _ _ _ _ _ _ _ _ _ G_take hr (by rfl) (@aT _ _ _ 1 _ _ (@aj _ _ _ _ _ (@ge_int _ _ _ _) (@aq _) (by rfl)) (by rfl) (by first | exact c_ rfl | exact b_ (c_ rfl) | exact b_ (b_ rfl)) (by decide) (by decide) (by rfl)) (by lia) (by decide) (by rfl) (by rfl))) (@aj _ _ _ _ _ (@ge_int _ _ _ _) (@aj _ _ _ _ _ (@bh _ _ _ _ _ _ _ hr (@aL _ _ _ (@ba _ _ _ _ (@ae _ _ _ _ _ (@ge_int _ _ _ _) (@ae _ _ _ _ _ (@ge_int _ _ _ _) (@ai _) (by rfl)) (by rfl)))) (@au _ _ _ _ _ _ _ _ _ _ _ _ G_take hr (by rfl) (@aT _ _ _ 1 _ _ (@aj _ _ _ _ _ (@ge_int _ _ _ _) (@aq _) (by rfl)) (by rfl) (by first | exact c_ rfl | exact b_ (c_ rfl) | exact b_ (b_ rfl)) (by decide) (by decide) (by rfl)) (by lia) (by decide) (by rfl) (by rfl)) (by intro _ _;rfl)) (@aq _) (by rfl)) (by rfl)) (by rfl)) (by rfl) (by first | exact c_ rfl | exact b_ (c_ rfl) | exact b_ (b_ rfl)) (by decide) (by decide) (by rfl)) (by lia) (by decide) (by rfl) (by rfl)) (by rfl) (by first | exact .inl rfl | exact .inr rfl)) (@dk _ _ _ _ _ _ (@aF _ _ _ _ _ 3 _ _ sc.nd (by rfl) (c_ rfl) (by rfl) (@aL _ _ _ (@aO _ _ _ _ _ _ _ _ _ bI (by rfl) TX.len (by decide +kernel) (@ae _ _ _ _ _ (@au _ _ _ _ _ _ _ _ _ _ _ _ G_union hr (by rfl) (@aj _ _ _ _ _ (@ab _ _ 2 _ (by rfl) (by first | exact c_ rfl | exact b_ (c_ rfl) | exact b_ (b_ rfl)) (by decide) (by decide)) (@aq _) (by rfl)) (by lia) (by decide) (by rfl) (by rfl)) (@ai _) (by rfl)) (by decide) (by decide) (by rfl) (by rfl))) (by rfl) (by first | exact .inl rfl | exact .inr rfl)) (@dk _ _ _ _ _ _ (@cE _ _ _ _ _ _ _ _ _ M9 (by rfl) (@cC _ _ _ _ _ _ (by rfl) TX.range (@ae _ _ _ _ _ (@ge_int _ _ _ _) (@ai _) (by rfl)) (by rfl)) (@ak _ _ _ 4 _ sc.nd (by rfl) (c_ rfl) (by rfl) (by first | exact .inl rfl | exact .inr rfl)) (@ah _ _ _ _ _ _ (@aF _ _ _ _ _ 5 _ _ sc.nd (by rfl) (b_ rfl) (by rfl) (@bh _ _ _ _ _ _ _ hr (@ba _ _ _ _ (@ae _ _ _ _ _ (@ge_int _ _ _ _) (@ae _ _ _ _ _ (@ge_int _ _ _ _) (@ae _ _ _ _ _ (@ge_int _ _ _ _) (@ae _ _ _ _ _ (@aL _ _ _ (@af _ _ _ _ _ _ _ _ bX (@ge_int _ _ _ _) (@ge_int _ _ _ _))) (@ae _ _ _ _ _ (@af _ _ _ _ _ _ _ _ aC (@ge_int _ _ _ _) (@au _ _ _ _ _ _ _ _ _ _ _ _ G_take hr (by rfl) (@aT _ _ _ 1 _ _ (@aj _ _ _ _ _ (@aL _ _ _ (@af _ _ _ _ _ _ _ _ bX (@ge_int _ _ _ _) (@ge_int _ _ _ _))) (@aq _) (by rfl)) (by rfl) (by first | exact c_ rfl | exact b_ (c_ rfl) | exact b_ (b_ rfl)) (by decide) (by decide) (by rfl)) (by lia) (by decide) (by rfl) (by rfl))) (@ai _) (by rfl)) (by rfl)) (by rfl)) (by rfl)) (by rfl))) (@au _ _ _ _ _ _ _ _ _ _ _ _ G_take hr (by rfl) (@aT _ _ _ 1 _ _ (@aj _ _ _ _ _ (@ge_int _ _ _ _) (@aq _) (by rfl)) (by rfl) (by first | exact c_ rfl | exact b_ (c_ rfl) | exact b_ (b_ rfl)) (by decide) (by decide) (by rfl)) (by lia) (by decide) (by rfl) (by rfl)) (by intro _ _;rfl)) (by rfl) (by first | exact .inl rfl | exact .inr rfl)) (@ah _ _ _ _ _ _ (@lZ _ _ _ _ _ _ _ (@cp _ _ _ _ _ (@ae _ _ _ _ _ (@af _ _ _ _ _ _ _ _ aJ (@au _ _ _ _ _ _ _ _ _ _ _ _ G_take hr (by rfl) (@aT _ _ _ 1 _ _ (@aj _ _ _ _ _ (@aL _ _ _ (@af _ _ _ _ _ _ _ _ bX (@ge_int _ _ _ _) (@ge_int _ _ _ _))) (@aq _) (by rfl)) (by rfl) (by first | exact c_ rfl | exact b_ (c_ rfl) | exact b_ (b_ rfl)) (by decide) (by decide) (by rfl)) (by lia) (by decide) (by rfl) (by rfl)) (@aL _ _ _ (@af _ _ _ _ _ _ _ _ aA (@ge_int _ _ _ _) (@af _ _ _ _ _ _ _ _ bX (@ge_int _ _ _ _) (@ge_int _ _ _ _))))) (@ae _ _ _ _ _ (@af _ _ _ _ _ _ _ _ aJ (@au _ _ _ _ _ _ _ _ _ _ _ _ G_take hr (by rfl) (@aT _ _ _ 1 _ _ (@aj _ _ _ _ _ (@aL _ _ _ (@af _ _ _ _ _ _ _ _ bX (@ge_int _ _ _ _) (@ge_int _ _ _ _))) (@aq _) (by rfl)) (by rfl) (by first | exact c_ rfl | exact b_ (c_ rfl) | exact b_ (b_ rfl)) (by decide) (by decide) (by rfl)) (by lia) (by decide) (by rfl) (by rfl)) (@aL _ _ _ (@af _ _ _ _ _ _ _ _ bX (@ge_int _ _ _ _) (@ge_int _ _ _ _)))) (@ai _) (by rfl)) (by rfl))) (@cT _ _ _ _ _ _ 2 (by rfl) (@az _ _ _ _ _ _ (@ak _ _ _ 6 _ sc.nd (by rfl) (b_ rfl) (by rfl) (by first | exact .inl rfl | exact .inr rfl)) (@az _ _ _ _ _ _ (@ak _ _ _ 7 _ sc.nd (by rfl) (b_ rfl) (by rfl) (by first | exact .inl rfl | exact .inr rfl)) (@cm _ _) (by rfl)) (by rfl)) (by rfl) (by rfl)) (by rfl) (by rfl) (by rfl)) (@ay _ _ _ _ (@jV _ _ _ _ _ _ _ _ _ (@pW _ _ _ (@qW _ _ _ _ (@gx _ _ _ (@au _ _ _ _ _ _ _ _ _ _ _ _ G_same hr (by rfl) (@aj _ _ _ _ _ (@au _ _ _ _ _ _ _ _ _ _ _ _ G_area_of hr (by rfl) (@aj _ _ _ _ _ (@bu _ _ _ _ sc ["_law_octo_here","_law_y","_law_x","_law_times"] [none,some 7,some 6,some 5] nd1 _ _ _ _ _ _ _ _ _ _ (by decide +kernel) (@aZ _ _ _ _ (@ab _ _ 2 _ (by rfl) (by first | exact c_ rfl | exact b_ (c_ rfl) | exact b_ (b_ rfl)) (by decide) (by decide))) (fun _ _ _=>(@ak _ _ _ 0 _ nd1 (by rfl) (c_ rfl) (by rfl) (b_ rfl))) (fun _ _ _=>(@aV _)) (fun _ _ _=>(@au _ _ _ _ _ _ _ _ _ _ _ _ G_greater hr (by rfl) (@aj _ _ _ _ _ (@ab _ _ 0 _ (by rfl) (by first | exact c_ rfl | exact b_ (c_ rfl) | exact b_ (b_ rfl)) (by decide) (by decide)) (@aj _ _ _ _ _ (@ab _ _ 3 _ (by rfl) (by first | exact c_ rfl | exact b_ (c_ rfl) | exact b_ (b_ rfl)) (by decide) (by decide)) (@aj _ _ _ _ _ (@ab _ _ 2 _ (by rfl) (by first | exact c_ rfl | exact b_ (c_ rfl) | exact b_ (b_ rfl)) (by decide) (by decide)) (@aj _ _ _ _ _ (@ab _ _ 1 _ (by rfl) (by first | exact c_ rfl | exact b_ (c_ rfl) | exact b_ (b_ rfl)) (by decide) (by decide)) (@aq _) (by rfl)) (by rfl)) (by rfl)) (by rfl)) (by lia) (by decide) (by rfl) (by rfl))) (by rfl) (by rfl) (by rfl) (by intro _;rfl)) (@aq _) (by rfl)) (by lia) (by decide) (by rfl) (by rfl)) (@aj _ _ _ _ _ (@af _ _ _ _ _ _ _ _ aA (@af _ _ _ _ _ _ _ _ aA (@ab _ _ 3 _ (by rfl) (by first | exact c_ rfl | exact b_ (c_ rfl) | exact b_ (b_ rfl)) (by decide) (by decide)) (@ab _ _ 5 _ (by rfl) (by first | exact c_ rfl | exact b_ (c_ rfl) | exact b_ (b_ rfl)) (by decide) (by decide))) (@ab _ _ 5 _ (by rfl) (by first | exact c_ rfl | exact b_ (c_ rfl) | exact b_ (b_ rfl)) (by decide) (by decide))) (@aq _) (by rfl)) (by rfl)) (by lia) (by decide) (by rfl) (by rfl)) (by intro _;rfl)))) (@ay _ _ _ _ (@bC _ _ _ _ _ (@yr _ _ _ _))) (@dr _ _))))) (by intro _;rfl)) (@ay _ _ _ _ (@bC _ _ _ _ _ (@Dd _ _ _ _ _ _ _ (@au _ _ _ _ _ _ _ _ _ _ _ _ G_great_right hr (by rfl) (@aT _ _ _ 1 _ _ (@aq _) (by rfl) (by first | exact c_ rfl | exact b_ (c_ rfl) | exact b_ (b_ rfl)) (by decide) (by decide) (by rfl)) (by lia) (by decide) (by rfl) (by rfl)) (@CO _ _ _ _ _ (@au _ _ _ _ _ _ _ _ _ _ _ _ G_great_right hr (by rfl) (@aT _ _ _ 1 _ _ (@aq _) (by rfl) (by first | exact c_ rfl | exact b_ (c_ rfl) | exact b_ (b_ rfl)) (by decide) (by decide) (by rfl)) (by lia) (by decide) (by rfl) (by rfl)))))))))),fun ts kk hl hp=>?_⟩
 clear hl
 obtain⟨t,ns,rfl,hs,hn,q⟩:=hp
 refine ff (fun env=>∃ z c,env=[z,stT c 0,.any,.any,.any,.any,.any,.any]) ?_ ?_
 ·walk_at "go"
  obtain⟨e,i⟩:=Du hs
  rw[e]
  exact⟨i,t,ns,rfl,hs,hn,fun c=>⟨jB,_,c,rfl⟩⟩
 rintro _ ⟨z,c,rfl⟩
 refine ff (fun env=>∃(c:Cells) (n:Nat) (os:List Oc),n<=3100/\os.length<=12/\(∀ o∈os,okO (-40) 61 o)/\env=[z,stT c n,.lst true (os.map ocT),.any,.any,.any,.any,.any]) ?_ ?_
 ·walk_at "go"
  walk_at "take"
  intro r c1 a1 b1
  walk_at "go"
  walk_at "take"
  intro r2 c2' a2 b2
  walk_at "go"
  obtain⟨f,ef,f0,f1⟩:=eB (fun v=>12<=v/\v<=30) (ns:=[12,30]) (i:=r2) (by omega) (by show r2 < 2;omega) (by
   intro v hv
   simp only[o_,Ic,or_false]at hv
   lia)
  refine aY ef ?_
  walk_at "go"
  refine⟨c2',2,1 + r,8,f,rfl,by decide,by lia,by lia,by decide,by decide,f0,by lia,fun c' n' os l1 l2 l3 ho=>?_⟩
  walk_at "go"
  exact⟨c',n',os,by lia,by lia,ho,rfl⟩
 clear c
 rintro _ ⟨c,n,os,hn2,hl,ho,rfl⟩
 have sd:=BH (by lia) ho
 refine ff (fun env=>env=[z,stT c n,.lst true (os.map ocT),.int (Ar 200 os / 2),.any,.any,.any,.any]) ?_ ?_
 ·walk_at "go"
  refine⟨false,os,rfl,by lia,fun o m'=>⟨sd.2.2.2.2 o m',sd.2.2.2.1 o m'⟩,fun qs z' nd mem=>?_⟩
  walk_at "go"
  rw[yg,CN sd nd mem]
 rintro _ rfl
 refine ff (fun env=>∃(c:Cells) (n:Nat) (z4 z5 z6 z7:T),n<=3200/\env=[z,stT c n,.lst true (os.map ocT),.int (Ar 200 os / 2),z4,z5,z6,z7]) ?_ ?_
 ·walk_at "go"
  refine⟨⟨by decide,by decide⟩,bM (fun i env=>∃(c:Cells) (n:Nat) (z4 z5 z6 z7:T),n<=3100 + 4 * i/\env=[z,stT c n,.lst true (os.map ocT),.int (Ar 200 os / 2),z4,z5,z6,z7]) ⟨c,n,_,_,_,_,by omega,rfl⟩ ?_ ?_⟩
  ·rintro i t' _ ⟨c,n,z4,z5,z6,z7,hn3,rfl⟩ ei
   have hi:i < 2:=dh ei
   walk_at "go"
   refine⟨cpw _ (by decide),cpw _ (by decide),?_⟩
   rw[show(10:Int) ^ IM 7=10000000 by decide]
   walk_at "take"
   intro r c1 a1 b1
   walk_at "go"
   walk_at "take"
   intro r2 c2' a2 b2
   walk_at "go"
   obtain⟨u,eu,u0,u1⟩:=eB (fun v=>1<=v/\v<=10000001) (ns:=[1,7,1000,10 ^ IM 7,1 + r]) (i:=r2) (by omega) (by show r2 < 5;omega) (by
    intro v hv
    simp only[o_,Ic,or_false]at hv
    rcases hv with rfl | rfl | rfl | rfl | rfl <;> first | decide | lia)
   refine aY eu ?_
   walk_at "go"
   refine⟨cpw _ (by decide),?_⟩
   rw[show(10:Int) ^ IM 8=100000000 by decide]
   walk_at "take"
   intro x c3 a3 b3
   walk_at "go"
   refine⟨cpw _ (by decide),.inl ⟨by decide,by decide⟩,cpw _ (by decide),?_⟩
   rw[show(10:Int) ^ IM 8=100000000 by decide]
   walk_at "take"
   intro y c4' a4 b4
   walk_at "go"
   refine⟨cpw _ (by decide),?_⟩
   rw[show(10:Int) ^ IM 8=100000000 by decide,show(10:Int) ^ IM 7=10000000 by decide]
   have hx:-50000000<=x - 5 * 10000000/\x - 5 * 10000000 < 50000000:=by lia
   have hy:-100000000<=y - 100000000/\y - 100000000 < 0:=by lia
   generalize x - 5 * 10000000=x1 at *
   generalize y - 100000000=y1 at *
   obtain⟨un,rfl⟩:∃ un:Nat,u=un:=⟨u.toNat,by lia⟩
   refine aD (by rw[a_,sizeLine_eq];lia) (fun i acc ie=>∃ z1,acc=(os.take i).map (fun o=>ocT (grO un x1 y1 o))/\ie=[z1,.int y1,.int x1,.int un]) ⟨_,rfl,rfl⟩ ?_ ?_
   ·rintro j v _ _ ⟨z1,rfl,rfl⟩ ej
    obtain⟨o,eo,rfl⟩:=aU ej
    walk_at "go"
    refine⟨o,un,x1,y1,rfl,by omega,by lia,?_⟩
    walk_at "go"
    exact⟨_,by rw[map_take eo],rfl⟩
   rintro _ _ ⟨z1,rfl,rfl⟩
   rw[a_,A']
   walk_at "go"
   obtain⟨sg,ag⟩:=Cz (os:=os) (t:=un) (x:=x1) (y:=y1) ho (by lia) (by lia) hx hy
   refine⟨false,true,false,false,os.map (grO un x1 y1),10000000000,by show _=[T.lst true ((os.map (grO un x1 y1)).map ocT)];rw[D'];rfl,sg (by lia),fun z'=>?_⟩
   rw[ag]
   walk_at "go"
   refine⟨.inr ⟨by lia,by lia⟩,.inr ⟨by lia,by lia⟩,same_self (n:=0) zA (by decide) ?_⟩
   walk_at "go"
   exact⟨_,_,_,_,_,_,by lia,rfl⟩
  rintro _ ⟨c,n,z4,z5,z6,z7,hn3,rfl⟩
  rw[bq]at hn3
  exact⟨c,n,_,_,_,_,by lia,rfl⟩
 clear c hn2
 rintro _ ⟨c,n,z4,z5,z6,z7,hn2,rfl⟩
 walk_at "go"
 refine⟨c,n,rfl,by lia,fun c' n' l1 l2=>?_⟩
 walk_at "go"
 refine⟨c',n',rfl,by lia,fun c2' n2 l3 l4=>?_⟩
 walk_at "go"
 exact q _
end
theorem ar0{α:Type}{P:List α->Prop}(h:P []):∀ us:List α,us.length=0->P us:=fun us e=>by
 cases us with
 | nil=>exact h
 | cons a r=>cases e
theorem ar1{α:Type}{P:List α->Prop}(h:∀ a0,P [a0]):∀ us:List α,us.length=1->P us:=fun us e=>by
 cases us with
 | nil=>cases e
 | cons a0 r=>exact ar0 (P:=fun r=>P (a0::r)) (h a0) r (JC e)
theorem ar2{α:Type}{P:List α->Prop}(h:∀ a0 a1,P [a0,a1]):∀ us:List α,us.length=2->P us:=fun us e=>by
 cases us with
 | nil=>cases e
 | cons a0 r=>exact ar1 (P:=fun r=>P (a0::r)) (h a0) r (JC e)
theorem ar3{α:Type}{P:List α->Prop}(h:∀ a0 a1 a2,P [a0,a1,a2]):∀ us:List α,us.length=3->P us:=fun us e=>by
 cases us with
 | nil=>cases e
 | cons a0 r=>exact ar2 (P:=fun r=>P (a0::r)) (h a0) r (JC e)
theorem ar4{α:Type}{P:List α->Prop}(h:∀ a0 a1 a2 a3,P [a0,a1,a2,a3]):∀ us:List α,us.length=4->P us:=fun us e=>by
 cases us with
 | nil=>cases e
 | cons a0 r=>exact ar3 (P:=fun r=>P (a0::r)) (h a0) r (JC e)
theorem walk{l:Qp}{q:MA}{loose:List Str}{XP:(Str->Option Mj)->MD->Prop}{YP:MC->MD->Prop}{d:DefRec}{K:Qa->Mk}(hn:l.most=some 63)(hdf:d.params.defaults=[])
  (hY:∀(w:MC) (h:MD),YP w h->(K w.params).In h)
  (F:∀(w:MC) (mg:Str->Option Mj) (fa:Ml) (h:MD),(K w.params).In h->h.Ns Nh mg->mg d.name=some (.ref fa)->
   ∃ fd:MR,(∀(s:Mm) (u:Mj),QE s fd ⟨[u],[]⟩ [("_law_script",u)])/\∀ base:MD,(K w.params).In base->base.Ns Nh mg->FnOk l.prog w (K w.params) mg base CX0 6 fa fd ["_law_script"] (sD (K w.params))) :
  SO q loose XP YP l.row.toRowW d [] (fun f vs=>R3 f vs):=
 L2.zO (n:=63) (k:=6) (x:="_law_script") (CX:=fun _=>CX0) (sp:=fun w=>sD (K w.params)) hn (by decide) hdf ⟨rfl,by decide,by decide,rfl⟩ hY F (fun _ _ a ns hl _ hS=>⟨a,ns,rfl,hS,hl,fun _=>rfl⟩) fun _ _ _ _ _ z=>z
noncomputable def kd(P:Qa) (x:Str) (t:Tok) (v:Mj):Oj:=⟨PyData.keyHash P x,.str x t,v⟩
noncomputable def kf(n:Str) (s:M3) (m:Mj) (c:Ml):Obj:=⟨.type "function",none,.func (NU n n (cN s) (ck s) (av s) .none .none .none m none (.ref c) .none),#[]⟩
noncomputable def KK(P:Qa):Mk:=[(3,⟨.type "dict",none,.dict #[kd P "__name__" 165 (.str "law_millpath_k09_areas_whatever_the_size" 221),kd P "__doc__" 166 (.none),kd P "__package__" 167 (.none),kd P "__loader__" 168 (.builtin "__main__.__loader__#opaque"),kd P "__spec__" 169 (.none),kd P "__annotations__" 170 (.ref 6),kd P "__builtins__" 171 (.ref 4),kd P "__file__" 173 (.str "/claim/cut.py" 172),kd P "__cached__" 174 (.none),kd P "area_of" 194 (.ref 19),kd P "strip_sides" 200 (.ref 24),kd P "bounds_at" 206 (.ref 29),kd P "length_along" 220 (.ref 36),kd P "_law_begin" 230 (.ref 43),kd P "_law_take" 243 (.ref 50),kd P "_law_corners" 249 (.ref 55),kd P "_law_same" 255 (.ref 60),kd P "_law_octo" 261 (.ref 65),kd P "_law_in_octo" 267 (.ref 70),kd P "_law_quarters" 273 (.ref 75),kd P "_law_union" 283 (.ref 82),kd P "_law_octos" 289 (.ref 87),kd P "_law_greater" 295 (.ref 92),kd P "_law_one_area" 301 (.ref 97),kd P "_law_great_right" 307 (.ref 102),kd P "law" 313 (.ref 107)] 26,#[]⟩),(19,kf "area_of" gu (.str "millpath.unions" 187) 18),(18,⟨.type "code",none,.fields #[.str "area_of" 189,.str "area_of" 190,.str "/claim/cut.py" 191,.int (2) 0,.int (1) 0,.int (0) 0,.int (0) 0,.int (3) 0,.ref 15,.bool true,.int (181) 0,.ref 16,.none,.none,.none,.ref 17,.int (192) 0,.int (2) 0,.str "/claim/cut.py" 193],#[]⟩),(24,kf "strip_sides" cV (.str "millpath.unions" 187) 23),(23,⟨.type "code",none,.fields #[.str "strip_sides" 195,.str "strip_sides" 196,.str "/claim/cut.py" 197,.int (13) 0,.int (1) 0,.int (0) 0,.int (0) 0,.int (3) 0,.ref 20,.bool true,.int (181) 0,.ref 21,.none,.none,.none,.ref 22,.int (198) 0,.int (13) 0,.str "/claim/cut.py" 199],#[]⟩),(29,kf "bounds_at" dX (.str "millpath.unions" 187) 28),(28,⟨.type "code",none,.fields #[.str "bounds_at" 201,.str "bounds_at" 202,.str "/claim/cut.py" 203,.int (30) 0,.int (2) 0,.int (0) 0,.int (0) 0,.int (3) 0,.ref 25,.bool true,.int (181) 0,.ref 26,.none,.none,.none,.ref 27,.int (204) 0,.int (30) 0,.str "/claim/cut.py" 205],#[]⟩),(36,kf "length_along" cJ (.str "millpath.unions" 187) 35),(35,⟨.type "code",none,.fields #[.str "length_along" 207,.str "length_along" 208,.str "/claim/cut.py" 209,.int (32) 0,.int (2) 0,.int (0) 0,.int (0) 0,.int (3) 0,.ref 30,.bool true,.int (181) 0,.ref 31,.none,.ref 32,.ref 33,.ref 34,.int (218) 0,.int (32) 0,.str "/claim/cut.py" 219],#[]⟩),(43,kf "_law_begin" j6 (.str "law_millpath_k09_areas_whatever_the_size" 221) 42),(42,⟨.type "code",none,.fields #[.str "_law_begin" 223,.str "_law_begin" 224,.str "/claim/cut.py" 225,.int (47) 0,.int (1) 0,.int (0) 0,.int (0) 0,.int (3) 0,.ref 37,.bool true,.int (181) 0,.ref 38,.none,.ref 39,.ref 40,.ref 41,.int (228) 0,.int (47) 0,.str "/claim/cut.py" 229],#[]⟩),(50,kf "_law_take" mU (.str "law_millpath_k09_areas_whatever_the_size" 221) 49),(49,⟨.type "code",none,.fields #[.str "_law_take" 231,.str "_law_take" 232,.str "/claim/cut.py" 233,.int (52) 0,.int (2) 0,.int (0) 0,.int (0) 0,.int (3) 0,.ref 44,.bool true,.int (181) 0,.ref 45,.none,.ref 46,.ref 47,.ref 48,.int (241) 0,.int (52) 0,.str "/claim/cut.py" 242],#[]⟩),(55,kf "_law_corners" gX (.str "law_millpath_k09_areas_whatever_the_size" 221) 54),(54,⟨.type "code",none,.fields #[.str "_law_corners" 244,.str "_law_corners" 245,.str "/claim/cut.py" 246,.int (63) 0,.int (2) 0,.int (0) 0,.int (0) 0,.int (3) 0,.ref 51,.bool true,.int (181) 0,.ref 52,.none,.none,.none,.ref 53,.int (247) 0,.int (63) 0,.str "/claim/cut.py" 248],#[]⟩),(60,kf "_law_same" s_same (.str "law_millpath_k09_areas_whatever_the_size" 221) 59),(59,⟨.type "code",none,.fields #[.str "_law_same" 250,.str "_law_same" 251,.str "/claim/cut.py" 252,.int (70) 0,.int (2) 0,.int (0) 0,.int (0) 0,.int (3) 0,.ref 56,.bool true,.int (181) 0,.ref 57,.none,.none,.none,.ref 58,.int (253) 0,.int (70) 0,.str "/claim/cut.py" 254],#[]⟩),(65,kf "_law_octo" qu (.str "law_millpath_k09_areas_whatever_the_size" 221) 64),(64,⟨.type "code",none,.fields #[.str "_law_octo" 256,.str "_law_octo" 257,.str "/claim/cut.py" 258,.int (86) 0,.int (1) 0,.int (0) 0,.int (0) 0,.int (3) 0,.ref 61,.bool true,.int (181) 0,.ref 62,.none,.none,.none,.ref 63,.int (259) 0,.int (86) 0,.str "/claim/cut.py" 260],#[]⟩),(70,kf "_law_in_octo" gU (.str "law_millpath_k09_areas_whatever_the_size" 221) 69),(69,⟨.type "code",none,.fields #[.str "_law_in_octo" 262,.str "_law_in_octo" 263,.str "/claim/cut.py" 264,.int (92) 0,.int (4) 0,.int (0) 0,.int (0) 0,.int (3) 0,.ref 66,.bool true,.int (181) 0,.ref 67,.none,.none,.none,.ref 68,.int (265) 0,.int (92) 0,.str "/claim/cut.py" 266],#[]⟩),(75,kf "_law_quarters" fm (.str "law_millpath_k09_areas_whatever_the_size" 221) 74),(74,⟨.type "code",none,.fields #[.str "_law_quarters" 268,.str "_law_quarters" 269,.str "/claim/cut.py" 270,.int (96) 0,.int (1) 0,.int (0) 0,.int (0) 0,.int (3) 0,.ref 71,.bool true,.int (181) 0,.ref 72,.none,.none,.none,.ref 73,.int (271) 0,.int (96) 0,.str "/claim/cut.py" 272],#[]⟩),(82,kf "_law_union" mR (.str "law_millpath_k09_areas_whatever_the_size" 221) 81),(81,⟨.type "code",none,.fields #[.str "_law_union" 274,.str "_law_union" 275,.str "/claim/cut.py" 276,.int (102) 0,.int (1) 0,.int (0) 0,.int (0) 0,.int (3) 0,.ref 76,.bool true,.int (181) 0,.ref 77,.none,.ref 78,.ref 79,.ref 80,.int (281) 0,.int (102) 0,.str "/claim/cut.py" 282],#[]⟩),(87,kf "_law_octos" mB (.str "law_millpath_k09_areas_whatever_the_size" 221) 86),(86,⟨.type "code",none,.fields #[.str "_law_octos" 284,.str "_law_octos" 285,.str "/claim/cut.py" 286,.int (108) 0,.int (4) 0,.int (0) 0,.int (0) 0,.int (3) 0,.ref 83,.bool true,.int (181) 0,.ref 84,.none,.none,.none,.ref 85,.int (287) 0,.int (108) 0,.str "/claim/cut.py" 288],#[]⟩),(92,kf "_law_greater" iu (.str "law_millpath_k09_areas_whatever_the_size" 221) 91),(91,⟨.type "code",none,.fields #[.str "_law_greater" 290,.str "_law_greater" 291,.str "/claim/cut.py" 292,.int (118) 0,.int (4) 0,.int (0) 0,.int (0) 0,.int (3) 0,.ref 88,.bool true,.int (181) 0,.ref 89,.none,.none,.none,.ref 90,.int (293) 0,.int (118) 0,.str "/claim/cut.py" 294],#[]⟩),(97,kf "_law_one_area" f7 (.str "law_millpath_k09_areas_whatever_the_size" 221) 96),(96,⟨.type "code",none,.fields #[.str "_law_one_area" 296,.str "_law_one_area" 297,.str "/claim/cut.py" 298,.int (121) 0,.int (1) 0,.int (0) 0,.int (0) 0,.int (3) 0,.ref 93,.bool true,.int (181) 0,.ref 94,.none,.none,.none,.ref 95,.int (299) 0,.int (121) 0,.str "/claim/cut.py" 300],#[]⟩),(102,kf "_law_great_right" cU (.str "law_millpath_k09_areas_whatever_the_size" 221) 101),(101,⟨.type "code",none,.fields #[.str "_law_great_right" 302,.str "_law_great_right" 303,.str "/claim/cut.py" 304,.int (125) 0,.int (1) 0,.int (0) 0,.int (0) 0,.int (3) 0,.ref 98,.bool true,.int (181) 0,.ref 99,.none,.none,.none,.ref 100,.int (305) 0,.int (125) 0,.str "/claim/cut.py" 306],#[]⟩),(107,kf "law" dF (.str "law_millpath_k09_areas_whatever_the_size" 221) 106),(106,⟨.type "code",none,.fields #[.str "law" 308,.str "law" 309,.str "/claim/cut.py" 310,.int (135) 0,.int (1) 0,.int (0) 0,.int (0) 0,.int (3) 0,.ref 103,.bool true,.int (181) 0,.ref 104,.none,.none,.none,.ref 105,.int (311) 0,.int (135) 0,.str "/claim/cut.py" 312],#[]⟩)]
noncomputable def kas:List Ml:=[3,19,18,24,23,29,28,36,35,43,42,50,49,55,54,60,59,65,64,70,69,75,74,82,81,87,86,92,91,97,96,102,101,107,106]
theorem rb(P:Qa):kas=(KK P).map (·.1):=by kernel_rfl
noncomputable def VW:MA:=PySem.W.view PySem.Challenge.pw_millpath_k09_areas_whatever_the_size [1,2,3,4,6,7,8,9,10,11,12,13,14,15,16,17,18]
def CD(s:M3):Pos:=match s with
 | .FunctionDef _ _ _ _ _ _ _ _ _ p=>p
 | _=>⟨0,0,0,0⟩
theorem dfn{h:MD}{mg:Str->Option Mj}{P:Qa}{x:Str}{st:M3}{ps:List Str}(X:(KK P).In h)(G:h.Ns Nh mg)(f c:Ml)(m:Mj)(l:(KK P).lookup f=some (kf x st m c):=by kernel_rfl)(a:Ro (KK P) Nh x=some (some (.ref f)):=by kernel_rfl)(cd:Pg (KK P) (.ref c) x=true:=by kernel_rfl)(kp:OL (KK P) (.ref f)=true:=by kernel_rfl)
  (hb:∀(kV doc pm:Mj) (an:Option Ml) (cdv ct:Mj) (us:List Mj),us.length=ps.length->TB (NU x x (cN st) (ck st) (av st) .none kV doc pm an cdv ct) ⟨us,[]⟩=pure (ps.zip us):=by intro _ _ _ _ _ _ us;revert us;first | (apply ar1;intros;rfl) | (apply ar2;intros;rfl) | (apply ar4;intros;rfl)):Dfn (KK P) mg x st ps:=⟨f,_,qS (st:=st) l cd kp,SW X G a,(qS (st:=st) l cd kp).binds hb⟩
def mo0:Mj:=.str "millpath.unions" 187
def mo1:Mj:=.str "law_millpath_k09_areas_whatever_the_size" 221
set_option maxHeartbeats 0 in
theorem all_mk{l:Qp}{w:MC}{h:MD}{mg:Str->Option Mj}{fa:Ml}(X:(KK w.params).In h)(G:h.Ns Nh mg)(hfa:mg "law"=some (.ref fa)):∃ fd:MR,(∀(s:Mm) (v:Mj),QE s fd ⟨[v],[]⟩ [("_law_script",v)])/\∀ base:MD,(KK w.params).In base->base.Ns Nh mg->FnOk l.prog w (KK w.params) mg base CX0 6 fa fd ["_law_script"] (sD (KK w.params)):=by
 have e:=hfa.symm.trans (SW X G (show Ro (KK w.params) Nh "law"=some (some (.ref 107)) by kernel_rfl))
 cases e
 have z:∀ {x:Str},Ro (KK w.params) Nh x=some none->mg x=none:=fun h=>PySem.W.mg_none_of X G h
 have T:Txt mg:=⟨z (by kernel_rfl),z (by kernel_rfl),z (by kernel_rfl),z (by kernel_rfl),z (by kernel_rfl),z (by kernel_rfl),z (by kernel_rfl),z (by kernel_rfl),z (by kernel_rfl),z (by kernel_rfl),z (by kernel_rfl),z (by kernel_rfl),z (by kernel_rfl),z (by kernel_rfl),z (by kernel_rfl),z (by kernel_rfl),z (by kernel_rfl),z (by kernel_rfl),z (by kernel_rfl),z (by kernel_rfl),z (by kernel_rfl)⟩
 have F:=qS (st:=dF) (K:=KK w.params) (x:="law") (qual:="law") (f:=107) (oc:=.type "function") (od:=none) (an:=none) (osl:=#[]) (kV:=.none) (doc:=.none) (pm:=mo1) (cdv:=.ref 106) (ct:=.none) (by kernel_rfl) (by kernel_rfl) (by kernel_rfl)
 refine⟨NU "law" "law" (cN dF) (ck dF) (av dF) .none .none .none mo1 none (.ref 106) .none,fun s v=>.of_eq rfl,fun base _ _=>?_⟩
 have G_take:Cal l.prog w (KK w.params) mg base 1 "_law_take" ["_law_state","_law_many"] (b8 (KK w.params) 2 gM):=yZ (dfn X G 50 49 mo1) T
 have G_begin:Cal l.prog w (KK w.params) mg base 1 "_law_begin" ["_law_script"] (b8 (KK w.params) 1 (mZ (KK w.params))):=uX (dfn X G 43 42 mo1) T
 have G_same:Cal l.prog w (KK w.params) mg base 4 "_law_same" ["_law_found","_law_due"] (b8 (KK w.params) 2 (gI 4)):=xA (dfn X G 60 59 mo1) 4 (pJ (dfn X G 60 59 mo1) T 4)
 have G_bounds_at:=(dfn X G 29 28 mo0).cal (base:=base) (P:=l.prog) (w:=w) fun _ _ F=>nP F T
 have G_strip_sides:=(dfn X G 24 23 mo0).cal (base:=base) (P:=l.prog) (w:=w) fun _ _ F=>jA F T G_bounds_at
 have G_length_along:=(dfn X G 36 35 mo0).cal (base:=base) (P:=l.prog) (w:=w) fun _ _ F=>iQ F T
 have G_area_of:=(dfn X G 19 18 mo0).cal (base:=base) (P:=l.prog) (w:=w) fun _ _ F=>qp F T G_strip_sides G_length_along
 have G_corners:=(dfn X G 55 54 mo1).cal (base:=base) (P:=l.prog) (w:=w) fun _ _ F=>rg F T G_take
 have G_octo:=(dfn X G 65 64 mo1).cal (base:=base) (P:=l.prog) (w:=w) fun _ _ F=>Bl F T
 have G_in_octo:=(dfn X G 70 69 mo1).cal (base:=base) (P:=l.prog) (w:=w) fun _ _ F=>qY F T
 have G_quarters:=(dfn X G 75 74 mo1).cal (base:=base) (P:=l.prog) (w:=w) fun _ _ F=>nU F T G_in_octo
 have G_union:=(dfn X G 82 81 mo1).cal (base:=base) (P:=l.prog) (w:=w) fun _ _ F=>zk F T G_quarters
 have G_octos:=(dfn X G 87 86 mo1).cal (base:=base) (P:=l.prog) (w:=w) fun _ _ F=>wF F T G_take G_corners G_octo
 have G_greater:=(dfn X G 92 91 mo1).cal (base:=base) (P:=l.prog) (w:=w) fun _ _ F=>ra F T
 have G_one_area:=(dfn X G 97 96 mo1).cal (base:=base) (P:=l.prog) (w:=w) fun _ _ F=>oE F T
 have G_great_right:=(dfn X G 102 101 mo1).cal (base:=base) (P:=l.prog) (w:=w) fun _ _ F=>jO F T G_area_of G_take G_same G_octo G_greater G_one_area
 exact Ep (CW F T G_area_of G_begin G_take G_same G_union G_octos G_greater G_great_right)
end Mp
open PySem PySem.W PyProof.Rows
set_option maxRecDepth 100000 in
set_option maxHeartbeats 0 in
theorem Mp.Cf:PySem.Challenge.rw_millpath_k09_areas_whatever_the_size.wellSaid=true:=by kernel_rfl
set_option maxRecDepth 100000 in
theorem Mp.left:PySem.W.LeftO PySem.Challenge.rw_millpath_k09_areas_whatever_the_size.row.prog Mp.VW [] (fun s=>PySem.W.xlAt Mp.VW [] s && PySem.W.recOk (PySem.Challenge.rw_millpath_k09_areas_whatever_the_size.row.toRowW.records) s) (UP (Q5 Mp.KK Mp.kas Mp.rb)) (UQ (Q5 Mp.KK Mp.kas Mp.rb)) 6000:=fun w=>by kernel_rfl
set_option maxRecDepth 100000 in
set_option maxHeartbeats 0 in
theorem PySem.Challenge.cw_millpath_k09_areas_whatever_the_size_holds : PySem.Challenge.rw_millpath_k09_areas_whatever_the_size.Holds := by
 refine PySem.W.holds_law Mp.Cf fun Cf=>?_
 refine PySem.W.holds_open (r:=PySem.Challenge.rw_millpath_k09_areas_whatever_the_size.row) (XP:=PySem.W.XL Mp.VW []) (YP:=UK (Q5 Mp.KK Mp.kas Mp.rb)) (d:=⟨"law",L2.cN Mp.dF,L2.ck Mp.dF,L2.av Mp.dF,Mp.CD Mp.dF⟩) (kwd:=[]) Mp.left (UX _) (UD _) (fun s e=>PySem.W.xl_of s (Lk.mp e).1) UR (by kernel_rfl) (by kernel_rfl) (by kernel_rfl) (fun s e=>PySem.W.recFacts_of (Lk.mp e).2) (by kernel_rfl) Cf (by kernel_rfl) ⟨rfl,rfl,rfl,rfl,rfl,by decide +kernel⟩ ?hw ?hc
 case hw=>w_witness2
 case hc=>
  refine Mp.walk (l:=PySem.Challenge.rw_millpath_k09_areas_whatever_the_size) rfl (by kernel_rfl) (fun w h Y=>PySem.W.kIn_of Y) ?F
  case F=>
  intro w mg fa h KX G hmg
  exact Mp.all_mk KX G hmg
